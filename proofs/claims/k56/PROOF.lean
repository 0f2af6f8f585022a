import PyProof.Rows.All
import Wide.All
import OpenK.AllK
import Wide.FinOn
import HandS.ForMost
import HandS.ForExc
import HandS.TryMany
import HandS.ExcInit
import HandS.ExcField
import HandS.CallSlots
import HandS.IsInst
import HandS.Defaults
import HandS.Iter
import HandS.Text
import HandS.Conv
import KE.GoesNew
import KE.GoesEnum
import HandS.RaiseMore
import HandS.EndBits
import PyProof.EnumMake
import HandS.SetFor
import HandS.TupSets
import HandS.ExcIs
import HandS.Wide
import HandS.Gcd
import PySem.Challenge.RW_leastlooks_k56_costs_of_trees
import HandS.Property
import HandS.Star
import HandS.IterVal
import HandS.IntHex
import HandS.OwnIter
import KE.KIndexOf
import PyProof.P3Eq
import HandS.FStr
import PyProof.Rows.RegReprOcc
import HandS.ClsMeth
import HandS.WideBits
import PyProof.FitsInt
set_option Elab.async false
set_option linter.all false
set_option maxRecDepth 100000
set_option maxHeartbeats 4000000
/-! A layer of outcomes over data: what an expression is worth, what a statement does. -/
namespace LA
open PySem PySem.Spec PyProof.Rows L2

/-- of a list: it is not the run's own, it is one that may be written -/
structure G where
  s : Bool
  t : Bool
inductive D where
  | non | bl (b : Bool) | int (i : Int) | str (s : Str) | lst (g : G) (xs : List D) | tup (xs : List D) | dct (kvs : List (Key × D)) | mut (i : Nat) | ty (n : String) | cls (a : Addr) | exn (a dx : Addr) (fs : List (Str × D)) | obj (C : Addr) (fs : List (Str × D))

/-- what an object that changes holds -/
inductive Cell where
  | lst (ds : List D) | ins (C : Addr) (fs : List (Str × D)) | dct (kvs : List (Key × D)) | gone
abbrev PC := List Cell

/-- what is out of sight: what changes, and lists that are being filled -/
structure HD where
  m : List Addr
  z : List Addr
def HD.hid (p : HD) (a : Addr) : Prop := a ∈ p.m ∨ a ∈ p.z
instance (p : HD) (a : Addr) : Decidable (p.hid a) := by unfold HD.hid; infer_instance
def HD.also (p : HD) (a : Addr) : HD := ⟨p.m, a :: p.z⟩
def HD.mut (p : HD) (a : Addr) : HD := ⟨p.m ++ [a], p.z⟩
def HD.flat (p : HD) : HD := ⟨[], p.m ++ p.z⟩
def hide (p : HD) (H : Hp) : Hp := fun a => if p.hid a then none else H a
theorem hide_ne {p : HD} {H : Hp} {a : Addr} (h : ¬ p.hid a) : hide p H a = H a := if_neg h
theorem hide_some {p : HD} {H : Hp} {a : Addr} {o : HO} (h : hide p H a = some o) : H a = some o ∧ ¬ p.hid a := by
  unfold hide at h
  split at h
  · cases h
  · rename_i q
    exact ⟨h, q⟩
/-- what is tracked, the changing things aside, stays -/
def Ext (p : HD) (H H' : Hp) : Prop := ∀ a o, a ∉ p.m → H a = some o → H' a = some o
theorem Ext.refl (p : HD) (H : Hp) : Ext p H H := fun _ _ _ h => h
theorem Ext.trans {p : HD} {H H1 H2 : Hp} (a : Ext p H H1) (b : Ext p H1 H2) : Ext p H H2 := fun x o n h => b x o n (a x o n h)
theorem Ext.new {p : HD} {H : Hp} {a : Addr} {o : HO} (h : H a = none) : Ext p H (upd H a o) := fun b u _ e => by
  rw [upd_ne (ne_of_none e h)]
  exact e
theorem Ext.hide {p : HD} {H H' : Hp} (e : Ext p H H') : ∀ a o, LA.hide p H a = some o → LA.hide p H' a = some o := fun a o h => by
  obtain ⟨h1, h2⟩ := hide_some h
  rw [hide_ne h2]
  exact e a o (fun z => h2 (.inl z)) h1
theorem hide_flat (p : HD) (H : Hp) : hide p.flat H = hide p H := funext fun a => by
  unfold hide
  by_cases h : p.hid a
  · rw [if_pos h, if_pos (show p.flat.hid a from .inr (List.mem_append.mpr h))]
  · rw [if_neg h, if_neg (show ¬ p.flat.hid a from fun q => q.elim (fun z => nomatch z) fun z => h (List.mem_append.mp z))]
theorem Ext.sqL {K : PySem.W.Frag} {p : HD} {H H' : Hp} {a : Addr} {xs : List V} (e : Ext p H H') (h : SqL K (LA.hide p H) a xs) : SqL K (LA.hide p H') a xs := by
  rcases h with (h | ⟨o, h⟩) | h
  · exact .inl (.inl (e.hide _ _ h))
  · exact .inl (.inr ⟨o, e.hide _ _ h⟩)
  · exact .inr h
theorem Ext.sqT {K : PySem.W.Frag} {p : HD} {H H' : Hp} {a : Addr} {xs : List V} (e : Ext p H H') (h : SqT K (LA.hide p H) a xs) : SqT K (LA.hide p H') a xs := by
  rcases h with (h | ⟨o, h⟩) | h
  · exact .inl (.inl (e.hide _ _ h))
  · exact .inl (.inr ⟨o, e.hide _ _ h⟩)
  · exact .inr h
theorem Ext.rd {p : HD} {H H' : Hp} {a : Addr} {u : HO} (e : Ext p H H') (h : Rd (LA.hide p H) a u) : Rd (LA.hide p H') a u := by
  rcases h with h | ⟨o, h⟩
  · exact .inl (e.hide _ _ h)
  · exact .inr ⟨o, e.hide _ _ h⟩
theorem un_sqL {K : PySem.W.Frag} {p : HD} {H : Hp} {a : Addr} {xs : List V} (h : SqL K (hide p H) a xs) : SqL K H a xs := by
  rcases h with (h | ⟨o, h⟩) | h
  · exact .inl (.inl (hide_some h).1)
  · exact .inl (.inr ⟨o, (hide_some h).1⟩)
  · exact .inr h
theorem un_sqT {K : PySem.W.Frag} {p : HD} {H : Hp} {a : Addr} {xs : List V} (h : SqT K (hide p H) a xs) : SqT K H a xs := by
  rcases h with (h | ⟨o, h⟩) | h
  · exact .inl (.inl (hide_some h).1)
  · exact .inl (.inr ⟨o, (hide_some h).1⟩)
  · exact .inr h
theorem un_rd {p : HD} {H : Hp} {a : Addr} {u : HO} (h : Rd (hide p H) a u) : Rd H a u := by
  rcases h with h | ⟨o, h⟩
  · exact .inl (hide_some h).1
  · exact .inr ⟨o, (hide_some h).1⟩
/-- one map of what is in sight is within another -/
def Sub (G G' : Hp) : Prop := ∀ a o, G a = some o → G' a = some o
theorem Sub.sqL {K : PySem.W.Frag} {H H' : Hp} {a : Addr} {xs : List V} (e : Sub H H') (h : SqL K H a xs) : SqL K H' a xs := by
  rcases h with (h | ⟨o, h⟩) | h
  · exact .inl (.inl (e _ _ h))
  · exact .inl (.inr ⟨o, e _ _ h⟩)
  · exact .inr h
theorem Sub.sqT {K : PySem.W.Frag} {H H' : Hp} {a : Addr} {xs : List V} (e : Sub H H') (h : SqT K H a xs) : SqT K H' a xs := by
  rcases h with (h | ⟨o, h⟩) | h
  · exact .inl (.inl (e _ _ h))
  · exact .inl (.inr ⟨o, e _ _ h⟩)
  · exact .inr h
theorem Sub.rd {H H' : Hp} {a : Addr} {u : HO} (e : Sub H H') (h : Rd H a u) : Rd H' a u := by
  rcases h with h | ⟨o, h⟩
  · exact .inl (e _ _ h)
  · exact .inr ⟨o, e _ _ h⟩
theorem sub_also {p : HD} {H : Hp} {a : Addr} : Sub (hide (p.also a) H) (hide p H) := fun b o h => by
  obtain ⟨h1, h2⟩ := hide_some h
  rw [hide_ne (show ¬ p.hid b from fun z => h2 (z.elim .inl fun m => .inr (List.mem_cons_of_mem _ m)))]
  exact h1
theorem also_sub {p : HD} {H : Hp} {a : Addr} (n : H a = none) : Sub (hide p H) (hide (p.also a) H) := fun b o h => by
  obtain ⟨h1, h2⟩ := hide_some h
  rw [hide_ne (show ¬ (p.also a).hid b from fun z => z.elim (fun q => h2 (.inl q)) fun m => (List.mem_cons.mp m).elim (fun q => by rw [q, n] at h1; cases h1) fun q => h2 (.inr q))]
  exact h1

/-! ### values that are data -/
mutual
inductive DV (K : PySem.W.Frag) (p : HD) (H : Hp) : V → D → Prop
  | non : DV K p H .non .non
  | bl (b : Bool) : DV K p H (.bl b) (.bl b)
  | int (i : Int) : DV K p H (.int i) (.int i)
  | str (x : Str) : DV K p H (.str x) (.str x)
  | lst {a : Addr} {xs : List V} {g : G} {ds : List D} : ((g.s = true → a ≠ sysModules) ∧ (g.t = true → hide p H a = some (.lst xs))) → SqL K (hide p H) a xs → DVs K p H xs ds → DV K p H (.ref a) (.lst g ds)
  | tup {a : Addr} {xs : List V} {ds : List D} : SqT K (hide p H) a xs → DVs K p H xs ds → DV K p H (.ref a) (.tup ds)
  | dct {a : Addr} {kvs : List (Key × V)} {ds : List (Key × D)} : Rd (hide p H) a (.dK kvs) → DVk K p H kvs ds → DV K p H (.ref a) (.dct ds)
  | mut {a : Addr} {i : Nat} : p.m[i]? = some a → DV K p H (.ref a) (.mut i)
  | ty (n : String) : DV K p H (.ty n) (.ty n)
  | cls (a : Addr) : DV K p H (.ref a) (.cls a)
  | exn {a dx : Addr} {fv : List (Str × V)} {fs : List (Str × D)} : hide p H dx = some (.xd fv) → DVf K p H fv fs → DV K p H (.ref a) (.exn a dx fs)
  | obj {a C dx : Addr} {fv : List (Str × V)} {fs : List (Str × D)} : hide p H a = some (.ins C dx fv) → DVf K p H fv fs → DV K p H (.ref a) (.obj C fs)
inductive DVs (K : PySem.W.Frag) (p : HD) (H : Hp) : List V → List D → Prop
  | nil : DVs K p H [] []
  | cons {v : V} {vs : List V} {d : D} {ds : List D} : DV K p H v d → DVs K p H vs ds → DVs K p H (v :: vs) (d :: ds)
inductive DVk (K : PySem.W.Frag) (p : HD) (H : Hp) : List (Key × V) → List (Key × D) → Prop
  | nil : DVk K p H [] []
  | cons {k : Key} {v : V} {vs : List (Key × V)} {d : D} {ds : List (Key × D)} : DV K p H v d → DVk K p H vs ds → DVk K p H ((k, v) :: vs) ((k, d) :: ds)
inductive DVf (K : PySem.W.Frag) (p : HD) (H : Hp) : List (Str × V) → List (Str × D) → Prop
  | nil : DVf K p H [] []
  | cons {f : Str} {v : V} {vs : List (Str × V)} {d : D} {ds : List (Str × D)} : DV K p H v d → DVf K p H vs ds → DVf K p H ((f, v) :: vs) ((f, d) :: ds)
end
section
variable {K : PySem.W.Frag} {p : HD} {H H' : Hp}
mutual
theorem DV.sub {q : HD} (e : Sub (hide p H) (hide q H')) (pe : ∀ (i : Nat) (a : Addr), p.m[i]? = some a → q.m[i]? = some a) : ∀ {v : V} {d : D}, DV K p H v d → DV K q H' v d
  | _, _, .non => .non
  | _, _, .bl b => .bl b
  | _, _, .int i => .int i
  | _, _, .str x => .str x
  | _, _, .lst b h r => .lst ⟨b.1, fun z => e _ _ (b.2 z)⟩ (e.sqL h) (DVs.sub e pe r)
  | _, _, .tup h r => .tup (e.sqT h) (DVs.sub e pe r)
  | _, _, .dct h r => .dct (e.rd h) (DVk.sub e pe r)
  | _, _, .mut h => .mut (pe _ _ h)
  | _, _, .ty n => .ty n
  | _, _, .cls a => .cls a
  | _, _, .exn h r => .exn (e _ _ h) (DVf.sub e pe r)
  | _, _, .obj h r => .obj (e _ _ h) (DVf.sub e pe r)
theorem DVs.sub {q : HD} (e : Sub (hide p H) (hide q H')) (pe : ∀ (i : Nat) (a : Addr), p.m[i]? = some a → q.m[i]? = some a) : ∀ {v : List V} {d : List D}, DVs K p H v d → DVs K q H' v d
  | _, _, .nil => .nil
  | _, _, .cons h r => .cons (DV.sub e pe h) (DVs.sub e pe r)
theorem DVk.sub {q : HD} (e : Sub (hide p H) (hide q H')) (pe : ∀ (i : Nat) (a : Addr), p.m[i]? = some a → q.m[i]? = some a) : ∀ {v : List (Key × V)} {d : List (Key × D)}, DVk K p H v d → DVk K q H' v d
  | _, _, .nil => .nil
  | _, _, .cons h r => .cons (DV.sub e pe h) (DVk.sub e pe r)
theorem DVf.sub {q : HD} (e : Sub (hide p H) (hide q H')) (pe : ∀ (i : Nat) (a : Addr), p.m[i]? = some a → q.m[i]? = some a) : ∀ {v : List (Str × V)} {d : List (Str × D)}, DVf K p H v d → DVf K q H' v d
  | _, _, .nil => .nil
  | _, _, .cons h r => .cons (DV.sub e pe h) (DVf.sub e pe r)
end
theorem DV.mono (e : Ext p H H') {v : V} {d : D} (h : DV K p H v d) : DV K p H' v d := h.sub (e.hide) fun _ _ z => z
theorem DVs.mono (e : Ext p H H') {v : List V} {d : List D} (h : DVs K p H v d) : DVs K p H' v d := h.sub (e.hide) fun _ _ z => z
theorem DV.also {a : Addr} (n : H a = none) {v : V} {d : D} (h : DV K p H v d) : DV K (p.also a) H v d := h.sub (also_sub n) fun _ _ z => z
theorem DV.less {a : Addr} {v : V} {d : D} (h : DV K (p.also a) H v d) : DV K p H v d := h.sub sub_also fun _ _ z => z
theorem DVs.length : ∀ {vs : List V} {ds : List D}, DVs K p H vs ds → vs.length = ds.length
  | _, _, .nil => rfl
  | _, _, .cons _ r => by rw [List.length_cons, List.length_cons, DVs.length r]
theorem DVs.get : ∀ {vs : List V} {ds : List D} {i : Nat} {d : D}, DVs K p H vs ds → ds[i]? = some d → ∃ v, vs[i]? = some v ∧ DV K p H v d
  | _, _, i, d, .nil, h => by simp at h
  | _, _, 0, d, .cons (v := v) h r, e => by
    have e' := Option.some.inj e
    subst e'
    exact ⟨v, rfl, h⟩
  | _, _, i + 1, d, .cons h r, e => DVs.get (i := i) r e
theorem DVs.get' : ∀ {vs : List V} {ds : List D} {i : Nat} {v : V}, DVs K p H vs ds → vs[i]? = some v → ∃ d, ds[i]? = some d ∧ DV K p H v d
  | _, _, i, d, .nil, h => by simp at h
  | _, _, 0, d, .cons (d := x) h r, e => by
    have e' := Option.some.inj e
    subst e'
    exact ⟨x, rfl, h⟩
  | _, _, i + 1, d, .cons h r, e => DVs.get' (i := i) r e
theorem DVs.app : ∀ {vs ws : List V} {ds es : List D}, DVs K p H vs ds → DVs K p H ws es → DVs K p H (vs ++ ws) (ds ++ es)
  | _, _, _, _, .nil, r => r
  | _, _, _, _, .cons h t, r => .cons h (DVs.app t r)
theorem dvs_strs : ∀ {ss : List Str}, DVs K p H (ss.map V.str) (ss.map D.str)
  | [] => .nil
  | s :: r => .cons (.str s) dvs_strs
theorem of_strs : ∀ {vs : List V} {ss : List Str}, DVs K p H vs (ss.map D.str) → vs = ss.map V.str
  | _, [], .nil => rfl
  | _, s :: r, .cons h t => by
    cases h
    rw [of_strs t]
    rfl
end

/-! ### what changes -/
mutual
/-- of what changes, it names only the first n -/
def lowD (n : Nat) : D → Bool
  | .mut i => decide (i < n)
  | .lst _ xs => lowDs n xs
  | .tup xs => lowDs n xs
  | .dct kvs => lowDk n kvs
  | .exn _ _ fs => lowDf n fs
  | .obj _ fs => lowDf n fs
  | _ => true
def lowDs (n : Nat) : List D → Bool
  | [] => true
  | d :: r => lowD n d && lowDs n r
def lowDk (n : Nat) : List (Key × D) → Bool
  | [] => true
  | (_, d) :: r => lowD n d && lowDk n r
def lowDf (n : Nat) : List (Str × D) → Bool
  | [] => true
  | (_, d) :: r => lowD n d && lowDf n r
end
section
variable {K : PySem.W.Frag} {p q : HD} {H H' : Hp} {n : Nat}
mutual
theorem DV.low (e : Sub (hide p H) (hide q H')) (pe : ∀ (i : Nat) (a : Addr), i < n → p.m[i]? = some a → q.m[i]? = some a) : ∀ {v : V} {d : D}, DV K p H v d → lowD n d = true → DV K q H' v d
  | _, _, .non, _ => .non
  | _, _, .bl b, _ => .bl b
  | _, _, .int i, _ => .int i
  | _, _, .str x, _ => .str x
  | _, _, .lst b h r, o => by
    unfold lowD at o
    exact .lst ⟨b.1, fun z => e _ _ (b.2 z)⟩ (e.sqL h) (DVs.low e pe r o)
  | _, _, .tup h r, o => by
    unfold lowD at o
    exact .tup (e.sqT h) (DVs.low e pe r o)
  | _, _, .dct h r, o => by
    unfold lowD at o
    exact .dct (e.rd h) (DVk.low e pe r o)
  | _, _, .mut h, o => by
    unfold lowD at o
    exact .mut (pe _ _ (of_decide_eq_true o) h)
  | _, _, .ty n, _ => .ty n
  | _, _, .cls a, _ => .cls a
  | _, _, .exn h r, o => by
    unfold lowD at o
    exact .exn (e _ _ h) (DVf.low e pe r o)
  | _, _, .obj h r, o => by
    unfold lowD at o
    exact .obj (e _ _ h) (DVf.low e pe r o)
theorem DVs.low (e : Sub (hide p H) (hide q H')) (pe : ∀ (i : Nat) (a : Addr), i < n → p.m[i]? = some a → q.m[i]? = some a) : ∀ {v : List V} {d : List D}, DVs K p H v d → lowDs n d = true → DVs K q H' v d
  | _, _, .nil, _ => .nil
  | _, _, .cons h r, o => by
    unfold lowDs at o
    exact .cons (DV.low e pe h (Bool.and_eq_true_iff.mp o).1) (DVs.low e pe r (Bool.and_eq_true_iff.mp o).2)
theorem DVk.low (e : Sub (hide p H) (hide q H')) (pe : ∀ (i : Nat) (a : Addr), i < n → p.m[i]? = some a → q.m[i]? = some a) : ∀ {v : List (Key × V)} {d : List (Key × D)}, DVk K p H v d → lowDk n d = true → DVk K q H' v d
  | _, _, .nil, _ => .nil
  | _, _, .cons h r, o => by
    unfold lowDk at o
    exact .cons (DV.low e pe h (Bool.and_eq_true_iff.mp o).1) (DVk.low e pe r (Bool.and_eq_true_iff.mp o).2)
theorem DVf.low (e : Sub (hide p H) (hide q H')) (pe : ∀ (i : Nat) (a : Addr), i < n → p.m[i]? = some a → q.m[i]? = some a) : ∀ {v : List (Str × V)} {d : List (Str × D)}, DVf K p H v d → lowDf n d = true → DVf K q H' v d
  | _, _, .nil, _ => .nil
  | _, _, .cons h r, o => by
    unfold lowDf at o
    exact .cons (DV.low e pe h (Bool.and_eq_true_iff.mp o).1) (DVf.low e pe r (Bool.and_eq_true_iff.mp o).2)
end
end
theorem sub_refl (G : Hp) : Sub G G := fun _ _ z => z
theorem Sub.trans {G G1 G2 : Hp} (a : Sub G G1) (b : Sub G1 G2) : Sub G G2 := fun x o h => b x o (a x o h)
def CellAt (K : PySem.W.Frag) (p : HD) (H : Hp) (a : Addr) : Cell → Prop
  | .lst ds => ∃ vs, H a = some (.lst vs) ∧ DVs K p.flat H vs ds
  | .ins C fs => ∃ dx fv, H a = some (.ins C dx fv) ∧ DVf K p.flat H fv fs
  | .dct kvs => ∃ kv, H a = some (.dK kv) ∧ DVk K p.flat H kv kvs
  | .gone => ∃ o, H a = some o
theorem CellAt.has {K : PySem.W.Frag} {p : HD} {H : Hp} {a : Addr} {x : Cell} (h : CellAt K p H a x) : ∃ o, H a = some o := by
  cases x with
  | lst ds => obtain ⟨vs, h, _⟩ := h; exact ⟨_, h⟩
  | ins C fs => obtain ⟨dx, fv, h, _⟩ := h; exact ⟨_, h⟩
  | dct kvs => obtain ⟨kv, h, _⟩ := h; exact ⟨_, h⟩
  | gone => exact h
theorem CellAt.sub {K : PySem.W.Frag} {p q : HD} {H H' : Hp} {a : Addr} {x : Cell} (e : Sub (hide p H) (hide q H')) (ea : H' a = H a) (h : CellAt K p H a x) : CellAt K q H' a x := by
  have e' : Sub (hide p.flat H) (hide q.flat H') := by
    rw [hide_flat, hide_flat]
    exact e
  have pe : ∀ (i : Nat) (b : Addr), p.flat.m[i]? = some b → q.flat.m[i]? = some b := fun i b z => by simp [HD.flat] at z
  cases x with
  | lst ds => obtain ⟨vs, h, r⟩ := h; exact ⟨vs, ea.trans h, r.sub e' pe⟩
  | ins C fs => obtain ⟨dx, fv, h, r⟩ := h; exact ⟨dx, fv, ea.trans h, r.sub e' pe⟩
  | dct kvs => obtain ⟨kv, h, r⟩ := h; exact ⟨kv, ea.trans h, r.sub e' pe⟩
  | gone => obtain ⟨o, h⟩ := h; exact ⟨o, ea.trans h⟩
def Cells (K : PySem.W.Frag) (p : HD) (H : Hp) (c : PC) : Prop := p.m.Nodup ∧ p.m.length = c.length ∧ ∀ (i : Nat) (a : Addr) (x : Cell), p.m[i]? = some a → c[i]? = some x → CellAt K p H a x
def PoolAt (K : PySem.W.Frag) (p : HD) (H : Hp) (c : PC) : Prop := Cells K p H c ∧ ∀ a ∈ p.z, ∃ o, H a = some o
section
variable {K : PySem.W.Frag} {p : HD} {H H1 : Hp} {c : PC} {a : Addr}
theorem PoolAt.ex (h : PoolAt K p H c) {b : Addr} (m : b ∈ p.m) : ∃ o, H b = some o := by
  obtain ⟨i, hi⟩ := List.getElem?_of_mem m
  have l : i < c.length := by
    rw [← h.1.2.1]
    exact (List.getElem?_eq_some_iff.mp hi).1
  exact (h.1.2.2 i b c[i] hi (List.getElem?_eq_getElem l)).has
theorem PoolAt.hid (h : PoolAt K p H c) {b : Addr} (m : p.hid b) : ∃ o, H b = some o := m.elim h.ex (h.2 b)
theorem PoolAt.not (h : PoolAt K p H c) (n : H a = none) : ¬ p.hid a := fun z => by
  obtain ⟨o, q⟩ := h.hid z
  rw [q] at n
  cases n
theorem upd_sub {o : HO} (n : H a = none) : Sub (hide p H) (hide p (upd H a o)) := (Ext.new n).hide
theorem PoolAt.upd {o : HO} (h : PoolAt K p H c) (n : H a = none) : PoolAt K p (L2.upd H a o) c := ⟨⟨h.1.1, h.1.2.1, fun i b x hi hx => by
  obtain ⟨u, q⟩ := h.ex (List.mem_of_getElem? hi)
  exact (h.1.2.2 i b x hi hx).sub (upd_sub n) (by rw [upd_ne (ne_of_none q n)])⟩, fun b m => by
  obtain ⟨u, q⟩ := h.2 b m
  exact ⟨u, by rw [upd_ne (ne_of_none q n)]; exact q⟩⟩
theorem fresh_back (e : Ext p H H1) (h : PoolAt K p H1 c) (n : H1 a = none) : H a = none := by
  cases q : H a with
  | none => rfl
  | some o =>
    have n2 : a ∉ p.m := fun z => by
      obtain ⟨u, r⟩ := h.ex z
      rw [r] at n
      cases n
    rw [e a o n2 q] at n
    cases n
/-- what is hidden besides may change as it likes -/
theorem PoolAt.other {o : HO} (h : PoolAt K p H c) (m : a ∈ p.z) (nm : a ∉ p.m) : PoolAt K p (L2.upd H a o) c := ⟨⟨h.1.1, h.1.2.1, fun i b x hi hx => by
  have nb : b ≠ a := fun z => nm (by rw [← z]; exact List.mem_of_getElem? hi)
  refine (h.1.2.2 i b x hi hx).sub (fun b u y => ?_) (by rw [upd_ne nb])
  obtain ⟨y1, y2⟩ := hide_some y
  rw [hide_ne y2, upd_ne (fun z => y2 (.inr (by rw [z]; exact m)))]
  exact y1⟩, fun b mb => by
  by_cases e : b = a
  · exact ⟨o, by rw [e, upd_same]⟩
  · obtain ⟨u, q⟩ := h.2 b mb
    exact ⟨u, by rw [upd_ne e]; exact q⟩⟩
theorem PoolAt.also (h : PoolAt K p H c) (n : H a = none) {o : HO} : PoolAt K (p.also a) (L2.upd H a o) c := ⟨⟨h.1.1, h.1.2.1, fun i b x hi hx => by
  obtain ⟨u, q⟩ := h.ex (List.mem_of_getElem? hi)
  refine (h.1.2.2 i b x hi hx).sub (fun b u y => ?_) (by rw [upd_ne (ne_of_none q n)])
  have y1 := also_sub n b u y
  obtain ⟨y3, y4⟩ := hide_some y1
  rw [hide_ne y4, upd_ne (ne_of_none y3 n)]
  exact y3⟩, fun b m => by
  rcases List.mem_cons.mp m with rfl | m
  · exact ⟨o, upd_same⟩
  · obtain ⟨u, q⟩ := h.2 b m
    exact ⟨u, by rw [upd_ne (ne_of_none q n)]; exact q⟩⟩
theorem PoolAt.less (h : PoolAt K (p.also a) H c) : PoolAt K p H c := ⟨⟨h.1.1, h.1.2.1, fun i b x hi hx => (h.1.2.2 i b x hi hx).sub sub_also rfl⟩, fun b m => h.2 b (List.mem_cons_of_mem _ m)⟩
/-- one of the changing things is written -/
theorem PoolAt.put {i : Nat} {o : HO} {x : Cell} (h : PoolAt K p H c) (hi : p.m[i]? = some a) (hx : CellAt K p (L2.upd H a o) a x) : PoolAt K p (L2.upd H a o) (c.set i x) := by
  have hm : a ∈ p.m := List.mem_of_getElem? hi
  have sb : Sub (hide p H) (hide p (L2.upd H a o)) := fun b u y => by
    obtain ⟨y1, y2⟩ := hide_some y
    rw [hide_ne y2, upd_ne (fun z => y2 (.inl (by rw [z]; exact hm)))]
    exact y1
  refine ⟨⟨h.1.1, by rw [List.length_set]; exact h.1.2.1, fun j b y hj hy => ?_⟩, fun b mb => ?_⟩
  · by_cases e : i = j
    · subst e
      rw [hi] at hj
      cases hj
      have l : i < c.length := by
        rw [← h.1.2.1]
        exact (List.getElem?_eq_some_iff.mp hi).1
      rw [List.getElem?_set_self l] at hy
      cases hy
      exact hx
    · rw [List.getElem?_set_ne e] at hy
      have nb : b ≠ a := fun z => e (by
        subst z
        have l1 := (List.getElem?_eq_some_iff.mp hi).1
        have l2 := (List.getElem?_eq_some_iff.mp hj).1
        have q1 := (List.getElem?_eq_some_iff.mp hi).2
        have q2 := (List.getElem?_eq_some_iff.mp hj).2
        exact (List.getElem_inj h.1.1).mp (q1.trans q2.symm))
      exact (h.1.2.2 j b y hj hy).sub sb (by rw [upd_ne nb])
  · by_cases e : b = a
    · exact ⟨o, by rw [e, upd_same]⟩
    · obtain ⟨u, q⟩ := h.2 b mb
      exact ⟨u, by rw [upd_ne e]; exact q⟩
end

/-- a new object: nothing that changes, and nothing of its own, knows of it -/
def New (K : PySem.W.Frag) (p : HD) (H H' : Hp) (c' : PC) (v : V) (d : D) : Prop := ∀ a, v = .ref a → (H a = none ∧ a ∉ p.m) ∧ PoolAt K (p.also a) H' c' ∧ ∀ g ds, d = .lst g ds → ∃ vs, H' a = some (.lst vs) ∧ DVs K (p.also a) H' vs ds
section
variable {K : PySem.W.Frag} {p : HD} {H H1 H' : Hp} {c c' : PC} {v : V} {d : D} {a : Addr}
theorem New.back (e : Ext p H H1) (n : New K p H1 H' c' v d) : New K p H H' c' v d := fun a h => by
  obtain ⟨⟨n1, n2⟩, n3⟩ := n a h
  refine ⟨⟨?_, n2⟩, n3⟩
  cases q : H a with
  | none => rfl
  | some o =>
    rw [e a o n2 q] at n1
    cases n1
theorem New.g {g g' : G} {ds : List D} (n : New K p H H' c' v (.lst g ds)) : New K p H H' c' v (.lst g' ds) := fun a h => by
  obtain ⟨h1, h2, h3⟩ := n a h
  exact ⟨h1, h2, fun g2 ds2 e => by
    cases e
    exact h3 g ds rfl⟩
theorem New.sc (h : ∀ a, v ≠ .ref a) : New K p H H' c' v d := fun a e => absurd e (h a)
theorem New.lst {vs : List V} {ds : List D} {g : G} (h : PoolAt K p H c) (n : H a = none) (r : DVs K p H vs ds) : New K p H (L2.upd H a (.lst vs)) c (.ref a) (.lst g ds) := fun b e => by
  cases e
  exact ⟨⟨n, fun z => h.not n (.inl z)⟩, h.also n, fun g' ds' e' => by
    cases e'
    exact ⟨vs, upd_same, (r.sub (also_sub n) fun _ _ z => z).mono (Ext.new n)⟩⟩
theorem New.oth {o : HO} (h : PoolAt K p H c) (n : H a = none) (hd : ∀ g ds, d ≠ .lst g ds) : New K p H (L2.upd H a o) c (.ref a) d := fun b e => by
  cases e
  exact ⟨⟨n, fun z => h.not n (.inl z)⟩, h.also n, fun g' ds' e' => absurd e' (hd g' ds')⟩
end

/-! ### the frame -/
abbrev Rho := List (Option D)
structure SR (K : PySem.W.Frag) (p : HD) (H : Hp) (σ : L2.St) (ρ : Rho) (c : PC) : Prop where
  len : σ.length = ρ.length
  at' : ∀ (i : Nat) (d : D), ρ[i]? = some (some d) → ∃ v, σ[i]? = some (some v) ∧ DV K p H v d
  pl : PoolAt K p H c
section
variable {K : PySem.W.Frag} {p : HD} {H H' : Hp} {σ : L2.St} {ρ : Rho} {c c' : PC}
theorem SR.mono (s : SR K p H σ ρ c) (e : Ext p H H') (q : PoolAt K p H' c') : SR K p H' σ ρ c' :=
  ⟨s.len, fun i d h => by
    obtain ⟨v, h1, h2⟩ := s.at' i d h
    exact ⟨v, h1, h2.mono e⟩, q⟩
theorem SR.set (s : SR K p H σ ρ c) (i : Nat) {v : V} {d : D} (h : DV K p H v d) : SR K p H (σ.set i (some v)) (ρ.set i (some d)) c := by
  refine ⟨by rw [List.length_set, List.length_set]; exact s.len, fun j e hj => ?_, s.pl⟩
  by_cases q : i = j
  · subst q
    rw [List.getElem?_set] at hj
    by_cases l : i < ρ.length
    · rw [if_pos rfl, if_pos l] at hj
      have e' := Option.some.inj (Option.some.inj hj)
      subst e'
      refine ⟨v, ?_, h⟩
      rw [List.getElem?_set, if_pos rfl, if_pos (by rw [s.len]; exact l)]
    · rw [if_pos rfl, if_neg l] at hj
      cases hj
  · rw [List.getElem?_set_ne q] at hj
    obtain ⟨w, h1, h2⟩ := s.at' j e hj
    exact ⟨w, by rw [List.getElem?_set_ne q]; exact h1, h2⟩
/-- slots of which nothing is known -/
theorem SR.weak {σ' : L2.St} {ρ' : Rho} (s : SR K p H σ ρ c) (hl : σ'.length = ρ'.length) (h : ∀ (i : Nat) (d : D), ρ'[i]? = some (some d) → ρ[i]? = some (some d)) (hs : ∀ (i : Nat) (v : V) (d : D), ρ'[i]? = some (some d) → σ[i]? = some (some v) → σ'[i]? = some (some v)) : SR K p H σ' ρ' c :=
  ⟨hl, fun i d e => by
    obtain ⟨v, h1, h2⟩ := s.at' i d (h i d e)
    exact ⟨v, hs i v d e h1, h2⟩, s.pl⟩
end

/-! ### outcomes -/
/-- of an expression -/
inductive EO where
  | val (d : D) (nw : Bool) (c : PC)
  | ex (C : Addr) (fs : List (Str × D)) (c : PC)
/-- of a test -/
inductive TO where
  | val (b : Bool) (c : PC)
  | ex (C : Addr) (fs : List (Str × D)) (c : PC)
inductive AO where
  | val (ds : List D) (c : PC)
  | ex (C : Addr) (fs : List (Str × D)) (c : PC)
/-- of a statement -/
inductive SO where
  | nx (ρ : Rho) (c : PC)
  | rt (d : D) (nw : Bool) (c : PC)
  | ex (C : Addr) (fs : List (Str × D)) (c : PC)
theorem DVf.mono {K : PySem.W.Frag} {p : HD} {H H' : Hp} (e : Ext p H H') {v : List (Str × V)} {d : List (Str × D)} (h : DVf K p H v d) : DVf K p H' v d := h.sub e.hide fun _ _ z => z
theorem DVf.get {K : PySem.W.Frag} {p : HD} {H : Hp} {f : Str} {d : D} : ∀ {vs : List (Str × V)} {ds : List (Str × D)}, DVf K p H vs ds → ds.lookup f = some d → ∃ v, vs.lookup f = some v ∧ DV K p H v d
  | _, _, .nil, h => by cases h
  | _, _, .cons (f := g) (v := v) (d := x) h r, e => by
    rw [List.lookup_cons] at e ⊢
    cases q : f == g with
    | true =>
      rw [q] at e
      have e' := Option.some.inj e
      subst e'
      exact ⟨v, rfl, h⟩
    | false =>
      rw [q] at e
      exact DVf.get r e

def XW (K : PySem.W.Frag) (W : WX) (p : HD) (ρ : Rho) (H : Hp) (C : Addr) (fs : List (Str × D)) (c' : PC) : Prop :=
  ∀ (dx : Addr) (fv : List (Str × V)) (σ' : L2.St) (H' : Hp), Ext p H H' → SR K p H' σ' ρ c' → hide p H' dx = some (.xd fv) → DVf K p H' fv fs → W (.ref C) (some dx) σ' H'
def tE (K : PySem.W.Frag) (W : WX) (p : HD) (ρ : Rho) (c : PC) : EO → TE
  | .val d nw c' => fun σ H Q => SR K p H σ ρ c ∧ ∀ v H', Ext p H H' → PoolAt K p H' c' → DV K p H' v d → (nw = true → New K p H H' c' v d) → Q v H'
  | .ex C fs c' => fun σ H _ => SR K p H σ ρ c ∧ XW K W p ρ H C fs c'
def tT (K : PySem.W.Frag) (W : WX) (p : HD) (ρ : Rho) (c : PC) : TO → TT
  | .val b c' => fun σ H Q => SR K p H σ ρ c ∧ ∀ H', Ext p H H' → PoolAt K p H' c' → Q b H'
  | .ex C fs c' => fun σ H _ => SR K p H σ ρ c ∧ XW K W p ρ H C fs c'
def tA (K : PySem.W.Frag) (W : WX) (p : HD) (ρ : Rho) (c : PC) : AO → TA
  | .val ds c' => fun σ H Q => SR K p H σ ρ c ∧ ∀ vs H', Ext p H H' → PoolAt K p H' c' → DVs K p H' vs ds → Q vs H'
  | .ex C fs c' => fun σ H _ => SR K p H σ ρ c ∧ XW K W p ρ H C fs c'
def tSt (K : PySem.W.Frag) (W : WX) (p : HD) (ρ : Rho) (c : PC) : SO → TS
  | .nx ρ' c' => fun D σ H => SR K p H σ ρ c ∧ ∀ σ' H', Ext p H H' → SR K p H' σ' ρ' c' → D.nx σ' H'
  | .rt d nw c' => fun D σ H => SR K p H σ ρ c ∧ ∀ v H', Ext p H H' → PoolAt K p H' c' → DV K p H' v d → (nw = true → New K p H H' c' v d) → D.rt v H'
  | .ex C fs c' => fun D σ H => SR K p H σ ρ c ∧ ∀ (ρ' : Rho) (dx : Addr) (fv : List (Str × V)) (σ' : L2.St) (H' : Hp), Ext p H H' → SR K p H' σ' ρ' c' → ρ'.length = ρ.length → hide p H' dx = some (.xd fv) → DVf K p H' fv fs → W (.ref C) (some dx) σ' H'
abbrev RE (X : Cx) (W : WX) (p : HD) (ρ : Rho) (c : PC) (e : Expr) (o : EO) : Prop := PE X e (tE X.K W p ρ c o)
abbrev RT (X : Cx) (W : WX) (p : HD) (ρ : Rho) (c : PC) (e : Expr) (o : TO) : Prop := PT X e (tT X.K W p ρ c o)
abbrev RA (X : Cx) (W : WX) (p : HD) (ρ : Rho) (c : PC) (es : List Expr) (o : AO) : Prop := PA X es (tA X.K W p ρ c o)
abbrev RS (X : Cx) (W : WX) (p : HD) (ρ : Rho) (c : PC) (st : Stmt) (o : SO) : Prop := PS X st (tSt X.K W p ρ c o)
abbrev RSs (X : Cx) (W : WX) (p : HD) (ρ : Rho) (c : PC) (st : List Stmt) (o : SO) : Prop := PSs X st (tSt X.K W p ρ c o)
theorem pe_imp {X : Cx} {e : Expr} {t t' : TE} (h : PE X e t) (w : ∀ σ H Q, t' σ H Q → t σ H Q) : PE X e t' := ⟨fun pins s σ H Q I q => h.run pins s σ H Q I (w σ H Q q)⟩
theorem pt_imp {X : Cx} {e : Expr} {t t' : TT} (h : PT X e t) (w : ∀ σ H Q, t' σ H Q → t σ H Q) : PT X e t' := ⟨fun pins s σ H Q I q => h.run pins s σ H Q I (w σ H Q q)⟩
theorem pw_imp {X : Cx} {e : Expr} {t t' : TT} (h : PW X e t) (w : ∀ σ H Q, t' σ H Q → t σ H Q) : PW X e t' := ⟨fun wh pins s σ H Q I q => h.run wh pins s σ H Q I (w σ H Q q)⟩
theorem pa_imp {X : Cx} {e : List Expr} {t t' : TA} (h : PA X e t) (w : ∀ σ H Q, t' σ H Q → t σ H Q) : PA X e t' := ⟨fun ps pins s σ H Q I q => h.run ps pins s σ H Q I (w σ H Q q)⟩
theorem ps_imp {X : Cx} {e : Stmt} {t t' : TS} (h : PS X e t) (w : ∀ D σ H, t' D σ H → t D σ H) : PS X e t' := ⟨fun pins s σ H D I q => h.run pins s σ H D I (w D σ H q)⟩
theorem pss_imp {X : Cx} {e : List Stmt} {t t' : TS} (h : PSs X e t) (w : ∀ D σ H, t' D σ H → t D σ H) : PSs X e t' := ⟨fun pins s σ H D I q => h.run pins s σ H D I (w D σ H q)⟩
end LA

namespace LA
open PySem PySem.Spec PyProof.Rows L2
section
variable {X : Cx} {W : WX} {p : HD} {ρ : Rho} {c c1 c2 c3 : PC} {e a b : Expr} {es : List Expr} {pos : Pos} {d d1 d2 : D} {n1 n2 nw : Bool}

/-! ### words and names -/
theorem re_c {v : V} {d : D} (h : PE X e (tC v)) (hv : ∀ H, DV X.K p H v d) (hs : ∀ a, v ≠ .ref a) : RE X W p ρ c e (.val d true c) :=
  pe_imp h fun _ H _ ⟨s, k⟩ => k v H (Ext.refl p H) s.pl (hv H) fun _ => New.sc hs
theorem re_int {i : Int} {j : Nat} : RE X W p ρ c (.Constant (.int i) j pos) (.val (.int i) true c) := re_c pe_int (fun _ => .int i) (by intro a h; cases h)
theorem re_bl {i : Bool} {j : Nat} : RE X W p ρ c (.Constant (.bool i) j pos) (.val (.bl i) true c) := re_c pe_bl (fun _ => .bl i) (by intro a h; cases h)
theorem re_non {j : Nat} : RE X W p ρ c (.Constant .none j pos) (.val .non true c) := re_c pe_non (fun _ => .non) (by intro a h; cases h)
theorem re_str {x : Str} {j : Nat} : RE X W p ρ c (.Constant (.str x) j pos) (.val (.str x) true c) := re_c pe_str (fun _ => .str x) (by intro a h; cases h)
theorem re_gint {x : Str} {i : Int} {t : Tok} (hm : X.mg x = some (.int i t)) (hg : Gl X x := by rfl) (hd : (x == ("__debug__" : Str)) = false := by decide) : RE X W p ρ c (.Name x pos) (.val (.int i) true c) :=
  re_c (pe_glob (v := .int i) hg hm ⟨t, rfl⟩ hd) (fun _ => .int i) (by intro a h; cases h)
theorem re_var (i : Nat) {x : Str} (hN : X.N[i]? = some x := by rfl) (hρ : ρ[i]? = some (some d) := by rfl) (hv : Vis X.env.scope x := by first | exact Or.inl rfl | exact Or.inr (Or.inl rfl) | exact Or.inr (Or.inr rfl))
    (hd : (x == ("__debug__" : Str)) = false := by decide) (hcd : (x == ("__classdict__" : Str)) = false := by decide) : RE X W p ρ c (.Name x pos) (.val d false c) :=
  pe_imp (pe_var hN hv hd hcd) fun σ H Q ⟨s, k⟩ => by
    obtain ⟨v, h1, h2⟩ := s.at' i d hρ
    exact ⟨v, h1, k v H (Ext.refl p H) s.pl h2 fun q => nomatch q⟩

/-! ### two in a row -/
/-- what an operation on data gives -/
def OV (K : PySem.W.Frag) (p : HD) (r : R2) (x y z : D) (nw : Bool) (c : PC) : Prop :=
  ∀ (v u : V) (H : Hp) (Q : VK), DV K p H v x → DV K p H u y → PoolAt K p H c → (∀ w H', Ext p H H' → PoolAt K p H' c → DV K p H' w z → (nw = true → New K p H H' c w z) → Q w H') → r v u H Q
theorem two {ta tb : TE} {σ : L2.St} {H : Hp} {R : V → V → Hp → Prop} (s : SR X.K p H σ ρ c) (ha : ta = tE X.K W p ρ c (.val d1 n1 c1)) (hb : tb = tE X.K W p ρ c1 (.val d2 n2 c2))
    (k : ∀ v u H', Ext p H H' → PoolAt X.K p H' c2 → DV X.K p H' v d1 → DV X.K p H' u d2 → R v u H') : ta σ H fun x H1 => tb σ H1 fun y H2 => R x y H2 := by
  subst ha hb
  refine ⟨s, fun v H1 e1 p1 dv _ => ⟨s.mono e1 p1, fun u H2 e2 p2 du _ => k v u H2 (e1.trans e2) p2 (dv.mono e2) du⟩⟩
theorem re_bin {op : Operator} {r : R2} (ho : OpR X (binaryOp op) r) (ha : RE X W p ρ c a (.val d1 n1 c1)) (hb : RE X W p ρ c1 b (.val d2 n2 c2)) (hr : OV X.K p r d1 d2 d nw c2) : RE X W p ρ c (.BinOp a op b pos) (.val d nw c2) :=
  pe_imp (pe_op ho ha hb) fun σ H Q ⟨s, k⟩ => two (W := W) s rfl rfl fun v u H1 e1 p1 dv du => hr v u H1 Q dv du p1 fun w H2 e2 p2 dw hn => k w H2 (e1.trans e2) p2 dw fun q => (hn q).back e1
theorem re_cmp {op : CmpOp} {r : R2} (ho : OpR X (compareOp op) r) (ha : RE X W p ρ c a (.val d1 n1 c1)) (hb : RE X W p ρ c1 b (.val d2 n2 c2)) (hr : OV X.K p r d1 d2 d nw c2)
    (hm : behindInMarks op b = false := by first | rfl | exact nomark _) : RE X W p ρ c (.Compare a [op] [b] pos) (.val d nw c2) :=
  pe_imp (pe_cmpR ho ha hb hm) fun σ H Q ⟨s, k⟩ => two (W := W) s rfl rfl fun v u H1 e1 p1 dv du => hr v u H1 Q dv du p1 fun w H2 e2 p2 dw hn => k w H2 (e1.trans e2) p2 dw fun q => (hn q).back e1
theorem rt_cmp {op : CmpOp} {r : R2} {k : Bool} (ho : OpR X (compareOp op) r) (ha : RE X W p ρ c a (.val d1 n1 c1)) (hb : RE X W p ρ c1 b (.val d2 n2 c2)) (hr : OV X.K p r d1 d2 (.bl k) nw c2)
    (hm : behindInMarks op b = false := by first | rfl | exact nomark _) : RT X W p ρ c (.Compare a [op] [b] pos) (.val k c2) :=
  pt_imp (pt_cmpR ho ha hb hm) fun σ H Q ⟨s, kk⟩ => two (W := W) s rfl rfl fun v u H1 e1 p1 dv du => hr v u H1 _ dv du p1 fun w H2 e2 p2 dw hn => by
    cases dw
    exact ⟨k, rfl, kk H2 (e1.trans e2) p2⟩
/-! answers of operations -/
variable {K : PySem.W.Frag}
theorem ov_I {C : Int → Int → Prop} {g : Int → Int → V} {i j : Int} {z : D} (hc : C i j) (hz : ∀ H, DV K p H (g i j) z) (hs : ∀ a, g i j ≠ .ref a) : OV K p (rI C g) (.int i) (.int j) z true c := fun v u H Q dv du hp k => by
  cases dv
  cases du
  exact ⟨i, j, rfl, rfl, hc, k _ H (Ext.refl p H) hp (hz H) fun _ => New.sc hs⟩
theorem ov_I0 {g : Int → Int → V} {i j : Int} {z : D} (hz : ∀ H, DV K p H (g i j) z) (hs : ∀ a, g i j ≠ .ref a) : OV K p (rI0 g) (.int i) (.int j) z true c := fun v u H Q dv du hp k => by
  cases dv
  cases du
  exact ⟨i, j, rfl, rfl, k _ H (Ext.refl p H) hp (hz H) fun _ => New.sc hs⟩
/-- ints to an int -/
theorem ov_ii {f : Int → Int → Int} {i j : Int} : OV K p (rI0 fun i j => .int (f i j)) (.int i) (.int j) (.int (f i j)) true c := ov_I0 (fun _ => .int _) (by intro a h; cases h)
theorem ov_ib {f : Int → Int → Bool} {i j : Int} : OV K p (rI0 fun i j => .bl (f i j)) (.int i) (.int j) (.bl (f i j)) true c := ov_I0 (fun _ => .bl _) (by intro a h; cases h)
theorem ov_cii {C : Int → Int → Prop} {f : Int → Int → Int} {i j : Int} (hc : C i j) : OV K p (rI C fun i j => .int (f i j)) (.int i) (.int j) (.int (f i j)) true c := ov_I hc (fun _ => .int _) (by intro a h; cases h)
theorem ov_addS {s t : Str} (h : s.length + t.length ≤ sizeLine) : OV K p (fun x y H Q => ∃ i j, x = .str i ∧ y = .str j ∧ i.length + j.length ≤ sizeLine ∧ Q (.str (i ++ j)) H) (.str s) (.str t) (.str (s ++ t)) true c := fun v u H Q dv du hp k => by
  cases dv
  cases du
  exact ⟨s, t, rfl, rfl, h, k _ H (Ext.refl p H) hp (.str _) fun _ => New.sc (by intro a h; cases h)⟩
/-- scalars, as == takes them -/
def scD : D → Option V
  | .non => some .non
  | .bl b => some (.bl b)
  | .int i => some (.int i)
  | .str s => some (.str s)
  | _ => none
theorem dv_sc {H : Hp} {v x : V} {d : D} (h : DV K p H v d) (e : scD d = some x) : v = x := by
  cases h <;> first | exact Option.some.inj e | cases e
theorem ov_eqS {x y : D} {v u : V} (hx : scD x = some v) (hy : scD y = some u) (hs : scal v u = true) : OV K p rEq x y (.bl (decide (v = u))) true c := fun v' u' H Q dv du hp k => by
  have e1 := dv_sc dv hx
  have e2 := dv_sc du hy
  subst e1 e2
  exact ⟨hs, k _ H (Ext.refl p H) hp (.bl _) fun _ => New.sc (by intro a h; cases h)⟩
theorem ov_neS {x y : D} {v u : V} (hx : scD x = some v) (hy : scD y = some u) (hs : scal v u = true) : OV K p rNe x y (.bl (!decide (v = u))) true c := fun v' u' H Q dv du hp k => by
  have e1 := dv_sc dv hx
  have e2 := dv_sc du hy
  subst e1 e2
  exact ⟨hs, k _ H (Ext.refl p H) hp (.bl _) fun _ => New.sc (by intro a h; cases h)⟩
theorem ov_inC {ch : Nat} {z : Str} : OV K p (fun x y H Q => ∃ (c : Nat) (z : Str), x = .str ⟨#[c]⟩ ∧ y = .str z ∧ Q (.bl (decide (c ∈ z.cps.toList))) H) (.str ⟨#[ch]⟩) (.str z) (.bl (decide (ch ∈ z.cps.toList))) true c := fun v u H Q dv du hp k => by
  cases dv
  cases du
  exact ⟨ch, z, rfl, rfl, k _ H (Ext.refl p H) hp (.bl _) fun _ => New.sc (by intro a h; cases h)⟩
theorem ov_niC {ch : Nat} {z : Str} : OV K p (fun x y H Q => ∃ (c : Nat) (z : Str), x = .str ⟨#[c]⟩ ∧ y = .str z ∧ Q (.bl (!decide (c ∈ z.cps.toList))) H) (.str ⟨#[ch]⟩) (.str z) (.bl (!decide (ch ∈ z.cps.toList))) true c := fun v u H Q dv du hp k => by
  cases dv
  cases du
  exact ⟨ch, z, rfl, rfl, k _ H (Ext.refl p H) hp (.bl _) fun _ => New.sc (by intro a h; cases h)⟩
/-- flat data, as in takes it -/
theorem dvs_sc {H : Hp} : ∀ {vs xs : List V} {ds : List D}, DVs K p H vs ds → ds.map scD = xs.map some → vs = xs
  | _, [], _, .nil, _ => rfl
  | _, x :: xs, _, .cons h r, e => by
    rw [List.map_cons, List.map_cons] at e
    injection e with e1 e2
    rw [dv_sc h e1, dvs_sc r e2]
  | _, x :: xs, _, .nil, e => by cases e
  | _, [], _, .cons h r, e => by cases e
theorem ov_inT {x : D} {ds : List D} {v : V} {xs : List V} {neg : Bool} (hx : scD x = some v) (hs : ds.map scD = xs.map some) (fx : flatV v = true) (fs : xs.all flatV = true) :
    OV K p (rIn K neg) x (.tup ds) (.bl (if neg then !inV v xs else inV v xs)) true c := fun v' u' H Q dv du hp k => by
  have e1 := dv_sc dv hx
  subst e1
  cases du with
  | tup h r =>
    have e2 := dvs_sc r hs
    subst e2
    exact ⟨_, _, rfl, .inr (un_sqT h), fx, fs, k _ H (Ext.refl p H) hp (.bl _) fun _ => New.sc (by intro a h; cases h)⟩

/-! ### and, or, not, if -/
theorem re_one {op : BoolOpKind} (h : True) : True := trivial
theorem re_and {rest : List Expr} {k1 k2 : Bool} (ha : RE X W p ρ c a (.val (.bl k1) n1 c1)) (hb : k1 = true → RE X W p ρ c1 (.BoolOp .And (b :: rest) pos) (.val (.bl k2) true c1)) : RE X W p ρ c (.BoolOp .And (a :: b :: rest) pos) (.val (.bl (k1 && k2)) true c1) := by
  cases k1 with
  | true =>
    exact pe_imp (pe_and ha (hb rfl)) fun σ H Q ⟨s, k⟩ => ⟨s, fun v H1 e1 p1 dv _ => by
      cases dv
      exact ⟨true, rfl, s.mono e1 p1, fun u H2 e2 p2 du hn => k u H2 (e1.trans e2) p2 du fun q => (hn q).back e1⟩⟩
  | false =>
    have hN : PE X (.BoolOp .And (b :: rest) pos) (fun _ _ _ => False) := ⟨fun _ _ _ _ _ _ z => z.elim⟩
    exact pe_imp (pe_and ha hN) fun σ H Q ⟨s, k⟩ => ⟨s, fun v H1 e1 p1 dv _ => by
      cases dv
      refine ⟨false, rfl, ?_⟩
      refine iteF ?_
      exact k _ H1 e1 p1 (.bl false) fun _ => New.sc (by intro a h; cases h)⟩
theorem re_and1 {op : BoolOp} (h : RE X W p ρ c a (.val d nw c1)) : RE X W p ρ c (.BoolOp op [a] pos) (.val d nw c1) := pe_one h
theorem re_if {t : Expr} {k : Bool} {o : EO} (ht : RT X W p ρ c t (.val k c1)) (h1 : k = true → RE X W p ρ c1 a o) (h2 : k = false → RE X W p ρ c1 b o) : RE X W p ρ c (.IfExp t a b pos) o := by
  have N : ∀ e, PE X e (fun _ _ _ => False) := fun e => ⟨fun _ _ _ _ _ _ z => z.elim⟩
  cases k with
  | true =>
    refine pe_imp (pe_ifExp ht (h1 rfl) (N b)) fun σ H Q h => ?_
    cases o with
    | val d nw c' => exact ⟨h.1, fun H1 e1 p1 => ⟨h.1.mono e1 p1, fun v H2 e2 p2 dv hn => h.2 v H2 (e1.trans e2) p2 dv fun q => (hn q).back e1⟩⟩
    | ex C fs c' => exact ⟨h.1, fun H1 e1 p1 => ⟨h.1.mono e1 p1, fun dx fv σ' H2 e2 s2 hx hf => h.2 dx fv σ' H2 (e1.trans e2) s2 hx hf⟩⟩
  | false =>
    refine pe_imp (pe_ifExp ht (N a) (h2 rfl)) fun σ H Q h => ?_
    cases o with
    | val d nw c' =>
      refine ⟨h.1, fun H1 e1 p1 => ?_⟩
      refine iteF ?_
      exact ⟨h.1.mono e1 p1, fun v H2 e2 p2 dv hn => h.2 v H2 (e1.trans e2) p2 dv fun q => (hn q).back e1⟩
    | ex C fs c' =>
      refine ⟨h.1, fun H1 e1 p1 => ?_⟩
      refine iteF ?_
      exact ⟨h.1.mono e1 p1, fun dx fv σ' H2 e2 s2 hx hf => h.2 dx fv σ' H2 (e1.trans e2) s2 hx hf⟩
/-- a bool as a test -/
theorem rt_val {k : Bool} (h : RE X W p ρ c e (.val (.bl k) nw c1)) (he : ∀ whole, isTrue e X.env whole = (do let v ← whole; standAt e.pos; holding [v] (truthy v)) := by intro _; rfl) : RT X W p ρ c e (.val k c1) :=
  pt_imp (pt_val h he) fun σ H Q ⟨s, kk⟩ => ⟨s, fun v H1 e1 p1 dv _ => by
    cases dv
    exact ⟨k, rfl, kk H1 e1 p1⟩⟩
theorem rt_ex {C : Addr} {fs : List (Str × D)} (h : RE X W p ρ c e (.ex C fs c1)) (he : ∀ whole, isTrue e X.env whole = (do let v ← whole; standAt e.pos; holding [v] (truthy v)) := by intro _; rfl) : RT X W p ρ c e (.ex C fs c1) :=
  pt_imp (pt_val h he) fun σ H Q q => q
/-- a list's truth -/
theorem rt_lst {g : G} {ds : List D} (h : RE X W p ρ c e (.val (.lst g ds) nw c1)) (he : ∀ whole, isTrue e X.env whole = (do let v ← whole; standAt e.pos; holding [v] (truthy v)) := by intro _; rfl) : RT X W p ρ c e (.val (!ds.isEmpty) c1) :=
  pt_imp (pt_truth h he) fun σ H Q ⟨s, kk⟩ => ⟨s, fun v H1 e1 p1 dv _ => by
    cases dv with
    | lst _ h r =>
      refine ⟨!ds.isEmpty, .inl ⟨_, un_sqL h, ?_⟩, kk H1 e1 p1⟩
      cases r <;> rfl⟩
theorem rt_not {k : Bool} (h : RT X W p ρ c a (.val k c1)) : RT X W p ρ c (.UnaryOp .Not a pos) (.val (!k) c1) :=
  pt_imp (pt_not h) fun σ H Q ⟨s, kk⟩ => ⟨s, fun H1 e1 p1 => kk H1 e1 p1⟩
def RW (X : Cx) (W : WX) (p : HD) (ρ : Rho) (c : PC) (e : Expr) (o : TO) : Prop := PW X e (tT X.K W p ρ c o)
theorem rw_or {rest : List Expr} {k1 k2 : Bool} (ha : RT X W p ρ c a (.val k1 c1)) (hb : k1 = false → RW X W p ρ c1 (.BoolOp .Or (b :: rest) pos) (.val k2 c1)) : RW X W p ρ c (.BoolOp .Or (a :: b :: rest) pos) (.val (k1 || k2) c1) := by
  have N : PW X (.BoolOp .Or (b :: rest) pos) (fun _ _ _ => False) := ⟨fun _ _ _ _ _ _ _ z => z.elim⟩
  cases k1 with
  | true =>
    exact pw_imp (pw_or ha N) fun σ H Q ⟨s, kk⟩ => ⟨s, fun H1 e1 p1 => kk H1 e1 p1⟩
  | false =>
    refine pw_imp (pw_or ha (hb rfl)) fun σ H Q ⟨s, kk⟩ => ⟨s, fun H1 e1 p1 => ?_⟩
    refine iteF ?_
    exact ⟨s.mono e1 p1, fun H2 e2 p2 => kk H2 (e1.trans e2) p2⟩
theorem rw_or1 {k : Bool} (ha : RT X W p ρ c a (.val k c1)) : RW X W p ρ c (.BoolOp .Or [a] pos) (.val k c1) := pw_or1 ha
theorem rw_and {rest : List Expr} {k1 k2 : Bool} (ha : RT X W p ρ c a (.val k1 c1)) (hb : k1 = true → RW X W p ρ c1 (.BoolOp .And (b :: rest) pos) (.val k2 c1)) : RW X W p ρ c (.BoolOp .And (a :: b :: rest) pos) (.val (k1 && k2) c1) := by
  have N : PW X (.BoolOp .And (b :: rest) pos) (fun _ _ _ => False) := ⟨fun _ _ _ _ _ _ _ z => z.elim⟩
  cases k1 with
  | false =>
    refine pw_imp (pw_and ha N) fun σ H Q ⟨s, kk⟩ => ⟨s, fun H1 e1 p1 => ?_⟩
    refine iteF ?_
    exact kk H1 e1 p1
  | true =>
    exact pw_imp (pw_and ha (hb rfl)) fun σ H Q ⟨s, kk⟩ => ⟨s, fun H1 e1 p1 => ⟨s.mono e1 p1, fun H2 e2 p2 => kk H2 (e1.trans e2) p2⟩⟩
theorem rw_and1 {k : Bool} (ha : RT X W p ρ c a (.val k c1)) : RW X W p ρ c (.BoolOp .And [a] pos) (.val k c1) := pw_and1 ha
theorem RW.rt {o : TO} (h : RW X W p ρ c e o) : RT X W p ρ c e o := PW.pt h

/-! ### arguments, displays -/
theorem ra_nil : RA X W p ρ c [] (.val [] c) := pa_imp pa_nil fun σ H Q ⟨s, k⟩ => k [] H (Ext.refl p H) s.pl .nil
theorem ra_cons {ds : List D} (ha : RE X W p ρ c e (.val d nw c1)) (hr : RA X W p ρ c1 es (.val ds c2)) (hs : starEach (e :: es) X.env = (false, eval e X.env) :: starEach es X.env := by rfl) : RA X W p ρ c (e :: es) (.val (d :: ds) c2) :=
  pa_imp (pa_cons ha hr hs) fun σ H Q ⟨s, k⟩ => ⟨s, fun v H1 e1 p1 dv _ => ⟨s.mono e1 p1, fun vs H2 e2 p2 dvs => k (v :: vs) H2 (e1.trans e2) p2 (.cons (dv.mono e2) dvs)⟩⟩
theorem sz_le {n : Nat} (h : n ≤ 100000) : n ≤ sizeLine := Nat.le_trans h (by decide)
theorem sz_lt {n : Nat} (h : n < 100000) : n < sizeLine := Nat.lt_of_lt_of_le h (by decide)
theorem hide_upd {p : HD} {H : Hp} {c : PC} {a : Addr} {o : HO} (hp : PoolAt K p H c) (n : H a = none) : hide p (upd H a o) a = some o := by
  rw [hide_ne (hp.not n), upd_same]
/-- a written list stands behind the run's own objects -/
def tLstB (t : TA) : TE := fun σ H Q => t σ H fun xs H1 => xs.length ≤ sizeLine ∧ ∀ p, H1 p = none → p ≠ sysModules → Q (.ref p) (upd H1 p (.lst xs))
theorem pe_lstB {t : TA} (h : PA X es t) : PE X (.List es pos) (tLstB t) := ⟨fun pins s σ H Q I hq =>
  wpAny_List_spliced (thn (h.run pos pins s σ H _ I hq) fun us sh ⟨vs, H1, J, rv, hz, q⟩ => by
    have nf : H1 sh.heap.objs.size = none := J.hok.fresh (Nat.le_refl _)
    refine ⟨by rw [← rv.length]; exact hz, .ref sh.heap.objs.size, upd H1 sh.heap.objs.size (.lst vs), ?_, rfl, q _ nf (Nat.ne_of_gt J.big)⟩
    exact J.laid (t' := sh.toks) (fun b u y => Heap.get?_push_of_some _ y) (Nat.le_refl _) ⟨hz, us, 0, rv, Heap.get?_push_size _ rfl⟩)⟩
theorem re_lst {ds : List D} (h : RA X W p ρ c es (.val ds c1)) (hl : ds.length ≤ 100000) : RE X W p ρ c (.List es pos) (.val (.lst ⟨true, true⟩ ds) true c1) :=
  pe_imp (pe_lstB h) fun σ H Q ⟨s, k⟩ => ⟨s, fun vs H1 e1 p1 dvs => ⟨by rw [dvs.length]; exact sz_le hl, fun a n hb =>
    k _ _ (e1.trans (Ext.new n)) (p1.upd n) (.lst ⟨fun _ => hb, fun _ => hide_upd p1 n⟩ (.inl (.inl (hide_upd p1 n))) (dvs.mono (Ext.new n))) fun _ => (New.lst p1 n dvs).back e1⟩⟩
theorem re_tup {ds : List D} {x1 : Nat} (h : RA X W p ρ c es (.val ds c1)) (hl : ds.length ≤ 100000) : RE X W p ρ c (.Tuple es x1 pos) (.val (.tup ds) true c1) :=
  pe_imp (pe_tup h) fun σ H Q ⟨s, k⟩ => ⟨s, fun vs H1 e1 p1 dvs => ⟨by rw [dvs.length]; exact sz_le hl, fun a n =>
    k _ _ (e1.trans (Ext.new n)) (p1.upd n) (.tup (.inl (.inl (hide_upd p1 n))) (dvs.mono (Ext.new n))) fun _ => (New.oth p1 n (by intro _ _ z; cases z)).back e1⟩⟩

/-! ### subscripts -/
theorem re_ix {r : R2} (hr : IxR X r) (ha : RE X W p ρ c a (.val d1 n1 c1)) (hb : RE X W p ρ c1 b (.val d2 n2 c2)) (hv : OV X.K p r d1 d2 d nw c2) (hs : PlainIx b := by exact fun _ _ => rfl) : RE X W p ρ c (.Subscript a b pos) (.val d nw c2) :=
  pe_imp (pe_ix hr ha hb hs) fun σ H Q ⟨s, k⟩ => two (W := W) s rfl rfl fun v u H1 e1 p1 dv du => hv v u H1 Q dv du p1 fun w H2 e2 p2 dw hn => k w H2 (e1.trans e2) p2 dw fun q => (hn q).back e1
theorem dvs_atI {H : Hp} {vs : List V} {ds : List D} {i : Int} {j : Nat} {d : D} (r : DVs K p H vs ds) (e : i = (j : Int)) (h : ds[j]? = some d) : ∃ v, atI vs i = some v ∧ DV K p H v d := by
  obtain ⟨v, h1, h2⟩ := r.get h
  exact ⟨v, at_of e h1, h2⟩
theorem ov_ixL {g : G} {ds : List D} {i : Int} {j : Nat} {d : D} (e : i = (j : Int)) (h : ds[j]? = some d) : OV K p (rIx K) (.lst g ds) (.int i) d false c := fun v u H Q dv du hp k => by
  cases dv with
  | lst _ hq r =>
    cases du
    obtain ⟨w, h1, h2⟩ := dvs_atI r e h
    exact .inl ⟨_, _, i, w, rfl, rfl, un_sqL hq, h1, k w H (Ext.refl p H) hp h2 fun q => nomatch q⟩
theorem ov_ixT {ds : List D} {i : Int} {j : Nat} {d : D} (e : i = (j : Int)) (h : ds[j]? = some d) : OV K p (rIx K) (.tup ds) (.int i) d false c := fun v u H Q dv du hp k => by
  cases dv with
  | tup hq r =>
    cases du
    obtain ⟨w, h1, h2⟩ := dvs_atI r e h
    exact .inr (.inl ⟨_, _, i, w, rfl, rfl, un_sqT hq, h1, k w H (Ext.refl p H) hp h2 fun q => nomatch q⟩)
theorem ov_ixS {s : Str} {i : Int} {j : Nat} {ch : Nat} (hz : s.length ≤ sizeLine) (e : i = (j : Int)) (h : s.cps.toList[j]? = some ch) : OV K p (rIx K) (.str s) (.int i) (.str ⟨#[ch]⟩) true c := fun v u H Q dv du hp k => by
  cases dv
  cases du
  exact .inr (.inr ⟨s, i, ch, rfl, rfl, hz, (by rw [e]; exact atI_nat h), k _ H (Ext.refl p H) hp (.str _) fun _ => New.sc (by intro a h; cases h)⟩)

/-! ### calls of built-ins -/
def CV (K : PySem.W.Frag) (p : HD) (r : List V → Hp → VK → Prop) (xs : List D) (z : D) (nw : Bool) (c : PC) : Prop :=
  ∀ (vs : List V) (H : Hp) (Q : VK), DVs K p H vs xs → PoolAt K p H c → (∀ w H', Ext p H H' → PoolAt K p H' c → DV K p H' w z → (nw = true → New K p H H' c w z) → Q w H') → r vs H Q
theorem re_callB {id : String} {x : Str} {ps : Pos} {r : List V → Hp → VK → Prop} {ds : List D} (hc : CallR X (.builtin id) r) (hm : X.mg x = none) (hv : bootBuiltins x = some (.builtin id)) (ha : RA X W p ρ c (e :: es) (.val ds c1)) (hr : CV X.K p r ds d nw c1)
    (hg : Gl X x := by rfl) (hn : x ≠ "__name__" := by decide) (hdb : (x == ("__debug__" : Str)) = false := by decide)
    (he : starEach (e :: es) X.env = (false, eval e X.env) :: starEach es X.env := by rfl) (hpl : (backTo pos (starEach es X.env)).any (·.1) = false := by rfl) : RE X W p ρ c (.Call (.Name x ps) (e :: es) [] pos) (.val d nw c1) :=
  pe_imp (pe_callB hc hg hm hv ha hn hdb he hpl) fun σ H Q ⟨s, k⟩ => ⟨s, fun vs H1 e1 p1 dvs => hr vs H1 Q dvs p1 fun w H2 e2 p2 dw hn => k w H2 (e1.trans e2) p2 dw fun q => (hn q).back e1⟩
theorem re_callT {T : String} {x : Str} {ps : Pos} {r : List V → Hp → VK → Prop} {ds : List D} (hc : CallR X (.type T) r) (hm : X.mg x = none) (hv : bootBuiltins x = some (.type T)) (ha : RA X W p ρ c (e :: es) (.val ds c1)) (hr : CV X.K p r ds d nw c1)
    (hg : Gl X x := by rfl) (hn : x ≠ "__name__" := by decide) (hdb : (x == ("__debug__" : Str)) = false := by decide)
    (he : starEach (e :: es) X.env = (false, eval e X.env) :: starEach es X.env := by rfl) (hpl : (backTo pos (starEach es X.env)).any (·.1) = false := by rfl) : RE X W p ρ c (.Call (.Name x ps) (e :: es) [] pos) (.val d nw c1) :=
  pe_imp (pe_callTy hc hg hm hv ha hn hdb he hpl) fun σ H Q ⟨s, k⟩ => ⟨s, fun vs H1 e1 p1 dvs => hr vs H1 Q dvs p1 fun w H2 e2 p2 dw hn => k w H2 (e1.trans e2) p2 dw fun q => (hn q).back e1⟩
theorem cv_lenS {s : Str} (hz : s.length ≤ sizeLine) : CV K p (fun xs H Q => ∃ z, xs = [.str z] ∧ z.length ≤ sizeLine ∧ Q (.int z.length) H) [.str s] (.int s.length) true c := fun vs H Q dvs hp k => by
  cases dvs with
  | cons h r =>
    cases r
    cases h
    exact ⟨s, rfl, hz, k _ H (Ext.refl p H) hp (.int _) fun _ => New.sc (by intro a h; cases h)⟩
theorem cv_int {i : Int} : CV K p (fun xs H Q => (∃ i, xs = [.int i] ∧ Q (.int i) H) ∨ ∃ k, xs = [.bl k] ∧ Q (.int (if k then 1 else 0)) H) [.int i] (.int i) true c := fun vs H Q dvs hp k => by
  cases dvs with
  | cons h r =>
    cases r
    cases h
    exact .inl ⟨i, rfl, k _ H (Ext.refl p H) hp (.int _) fun _ => New.sc (by intro a h; cases h)⟩
end
end LA

namespace LA
open PySem PySem.Spec PyProof.Rows L2
/-! ### what a def promises -/
abbrev FSpec := List D → PC → EO → Prop
def FO (K : PySem.W.Frag) (p : HD) (H : Hp) (Q : VK) (E : XK) : EO → Prop
  | .val d nw c' => ∀ v H', Ext p H H' → PoolAt K p H' c' → DV K p H' v d → (nw = true → New K p H H' c' v d) → Q v H'
  | .ex C fs c' => ∀ (dx : Addr) (fv : List (Str × V)) (H' : Hp), Ext p H H' → PoolAt K p H' c' → hide p H' dx = some (.xd fv) → DVf K p H' fv fs → E (.ref C) (some dx) H'
def spF (K : PySem.W.Frag) (R : FSpec) : Sp := fun vs H Q E => ∃ (p : HD) (c : PC) (ds : List D) (o : EO), DVs K p H vs ds ∧ PoolAt K p H c ∧ R ds c o ∧ FO K p H Q E o
def startR (N : List Str) (ds : List D) : Rho := ds.map some ++ List.replicate (N.length - ds.length) none
theorem sr_start {K : PySem.W.Frag} {p : HD} {H : Hp} {c : PC} {N : List Str} {vs : List V} {ds : List D} (h : DVs K p H vs ds) (q : PoolAt K p H c) : SR K p H (L2.start N vs) (startR N ds) c := by
  have hl := h.length
  refine ⟨?_, fun i d e => ?_, q⟩
  · unfold L2.start startR
    rw [List.length_append, List.length_append, List.length_map, List.length_map, List.length_replicate, List.length_replicate, hl]
  · unfold startR at e
    by_cases hi : i < ds.length
    · rw [List.getElem?_append_left (by rw [List.length_map]; exact hi), List.getElem?_map] at e
      cases g : ds[i]? with
      | none =>
        rw [g] at e
        cases e
      | some x =>
        rw [g] at e
        have e' : x = d := Option.some.inj (Option.some.inj e)
        subst e'
        obtain ⟨v, h1, h2⟩ := h.get g
        refine ⟨v, ?_, h2⟩
        unfold L2.start
        rw [List.getElem?_append_left (by rw [List.length_map, hl]; exact hi), List.getElem?_map, h1]
        rfl
    · rw [List.getElem?_append_right (by rw [List.length_map]; omega), List.getElem?_replicate] at e
      split at e <;> cases e
section
variable {X : Cx} {W : WX} {p : HD} {ρ ρ1 : Rho} {c c1 c2 c3 : PC} {e a b : Expr} {es : List Expr} {pos : Pos} {d d1 d2 : D} {n1 n2 nw : Bool} {o : EO} {so : SO} {st : Stmt} {rest : List Stmt}
variable {CX : CXT} {k : Nat} {f : Addr} {fd : FuncData} {ps : List Str} {R : FSpec} {x : Str} {xp : Pos} {ds : List D}
/-- a def that raises nothing is called -/
theorem re_call (G : FnOk X.prog X.w X.K X.mg X.base CX0 k f fd ps (spF X.K R)) (hr : Room k X.A) (hm : X.mg x = some (.ref f)) (hk : PySem.W.keepIn X.K (.ref f) = true) (hb : Binds X.K fd ps []) (ha : RA X W p ρ c (e :: es) (.val ds c1)) (ho : R ds c1 (.val d nw c2))
    (hg : Gl X x := by rfl) (hdb : (x == ("__debug__" : Str)) = false := by decide) (he : starEach (e :: es) X.env = (false, eval e X.env) :: starEach es X.env := by rfl) (hpl : (backTo pos (starEach es X.env)).any (·.1) = false := by rfl) :
    RE X W p ρ c (.Call (.Name x xp) (e :: es) [] pos) (.val d nw c2) :=
  pe_imp (pe_call G hr hg hm hk hb .nil pass0 ha hdb he hpl) fun σ H Q ⟨s, kk⟩ => ⟨s, fun vs H1 e1 p1 dvs => by
    show spF X.K R (vs ++ []) H1 Q E0
    rw [List.append_nil]
    exact ⟨p, c1, ds, .val d nw c2, dvs, p1, ho, fun v H2 e2 p2 dv hn => kk v H2 (e1.trans e2) p2 dv fun q => (hn q).back e1⟩⟩
theorem fo_at {K : PySem.W.Frag} {σ : L2.St} {H H1 : Hp} {Q : VK} (h : tE K W p ρ c o σ H Q) (e1 : Ext p H H1) : FO K p H1 Q (WE W σ) o := by
  cases o with
  | val d nw c' => exact fun v H2 e2 p2 dv hn => h.2 v H2 (e1.trans e2) p2 dv fun q => (hn q).back e1
  | ex C fs c' => exact fun dx fv H2 e2 p2 hx hf => h.2 dx fv σ H2 (e1.trans e2) (h.1.mono (e1.trans e2) p2) hx hf
theorem tE_sr {K : PySem.W.Frag} {σ : L2.St} {H : Hp} {Q : VK} (h : tE K W p ρ c o σ H Q) : SR K p H σ ρ c := by
  cases o <;> exact h.1
/-- a def that may raise is called -/
theorem re_callX (tk : Takes X W) (G : FnOk X.prog X.w X.K X.mg X.base (L2.CX X.prog X.w) k f fd ps (spF X.K R)) (hr : Room k X.A) (hm : X.mg x = some (.ref f)) (hk : PySem.W.keepIn X.K (.ref f) = true) (hb : Binds X.K fd ps []) (ha : RA X W p ρ c (e :: es) (.val ds c1)) (ho : R ds c1 o)
    (hg : Gl X x := by rfl) (hdb : (x == ("__debug__" : Str)) = false := by decide) (he : starEach (e :: es) X.env = (false, eval e X.env) :: starEach es X.env := by rfl) (hpl : (backTo pos (starEach es X.env)).any (·.1) = false := by rfl) :
    RE X W p ρ c (.Call (.Name x xp) (e :: es) [] pos) o :=
  pe_imp (pe_callS G hr hg hm hk hb (fun σ => passAt tk σ) ha hdb he hpl) fun σ H Q h => ⟨tE_sr h, fun vs H1 e1 p1 dvs => ⟨p, c1, ds, o, dvs, p1, ho, fo_at h e1⟩⟩
/-! with keywords -/
def tCallKS (n m : Nat) (sp : Sp) (gV : List V → List V → List V) (E : L2.St → XK) (t tk : TA) : TE := fun σ H Q => t σ H fun vs H1 => tk σ H1 fun zs H2 => vs.length = n ∧ zs.length = m ∧ sp (gV vs zs) H2 Q (E σ)
theorem run_fnKS {n : Nat} {ks : List Str} {g : List Value → List Value → List Value} {gV : List V → List V → List V} {sp : Sp} {E : L2.St → XK} {pins : List (Addr × Obj)} {σ : L2.St} {H : Hp} {s : Shared} {Q : VK} {us ws : List Value} {vs zs : List V}
    (F : FnOk X.prog X.w X.K X.mg X.base CX k f fd ps sp) (hr : Room k X.A) (hb : KBn X.K fd ps n ks g gV) (hx : PassesAt CX X σ (E σ))
    (I : Inv X pins σ H s) (r : Vals vs us) (rz : Vals zs ws) (l1 : vs.length = n) (l2 : zs.length = ks.length) (h : sp (gV vs zs) H Q (E σ)) : wpAny (model X.prog X.w) X.A (call (.ref f) us (ks.zip ws)) (EP X pins σ Q) X.xe s := by
  have r2 := hb.rel r rz
  refine wpAny_call (codeAny_mono (F.run X.A X.stack s H ⟨us, ks.zip ws⟩ (g us ws) (gV vs zs) Q (E σ) hr I.env0 (hb.to s us ws I.kIn (r.length.symm.trans l1) (rz.length.symm.trans l2)) r2 h) fun r s' hq => ?_)
  cases r with
  | error e => exact hx pins H s e s' I hq
  | ok fl =>
    cases fl with
    | ret u => exact I.after hq
    | next => exact False.elim hq
    | brk => exact False.elim hq
    | cont => exact False.elim hq
theorem pe_callKS {n : Nat} {ks : List Str} {g : List Value → List Value → List Value} {gV : List V → List V → List V} {sp : Sp} {E : L2.St → XK} {kws : List Keyword} {t tk : TA} (F : FnOk X.prog X.w X.K X.mg X.base CX k f fd ps sp) (hr : Room k X.A) (hg : Gl X x) (hm : X.mg x = some (.ref f)) (hk : PySem.W.keepIn X.K (.ref f) = true) (hb : KBn X.K fd ps n ks g gV) (hx : ∀ σ, PassesAt CX X σ (E σ))
    (ha : PA X (e :: es) t) (hkw : PK X kws tk) (hall : (backToKw pos (keywordEach kws X.env)).all (·.1.isSome) = true := by rfl) (hks : (backToKw pos (keywordEach kws X.env)).filterMap (·.1) = ks := by rfl)
    (hdb : (x == ("__debug__" : Str)) = false := by decide) (he : starEach (e :: es) X.env = (false, eval e X.env) :: starEach es X.env := by rfl)
    (hpl : ((backTo pos (starEach (e :: es) X.env)).any (·.1) || (backToKw pos (keywordEach kws X.env)).any (·.1.isNone)) = false := by rfl) :
    PE X (.Call (.Name x xp) (e :: es) kws pos) (tCallKS n ks.length sp gV E t tk) := by
  refine ⟨fun pins s σ H Q I h => ?_⟩
  refine wpAny_Call_Name_kw (ld_glob I hg hm ?_ hdb)
  refine PySem.W.callWith_KW (h₀ := X.base) I.ok.mod.kin hk hall (thn (ha.run pos pins s σ H _ I h) fun us s1 ⟨vs, H1, I1, r, q⟩ => ?_) hpl he
  refine thn (hkw.run pos pins s1 σ H1 _ I1 q) fun ws s2 ⟨zs, H2, I2, rz, l1, l2, q2⟩ => ⟨I2.kIn, ?_⟩
  rw [hks]
  exact run_fnKS F hr hb (hx σ) I2 r rz l1 l2 q2
theorem pe_callKS0 {ks : List Str} {g : List Value → List Value → List Value} {gV : List V → List V → List V} {sp : Sp} {E : L2.St → XK} {kws : List Keyword} {tk : TA} (F : FnOk X.prog X.w X.K X.mg X.base CX k f fd ps sp) (hr : Room k X.A) (hg : Gl X x) (hm : X.mg x = some (.ref f)) (hk : PySem.W.keepIn X.K (.ref f) = true) (hb : KBn X.K fd ps 0 ks g gV) (hx : ∀ σ, PassesAt CX X σ (E σ))
    (hkw : PK X kws tk) (hall : (backToKw pos (keywordEach kws X.env)).all (·.1.isSome) = true := by rfl) (hks : (backToKw pos (keywordEach kws X.env)).filterMap (·.1) = ks := by rfl)
    (hdb : (x == ("__debug__" : Str)) = false := by decide)
    (hpl : ((backTo pos (starEach [] X.env)).any (·.1) || (backToKw pos (keywordEach kws X.env)).any (·.1.isNone)) = false := by rfl) :
    PE X (.Call (.Name x xp) [] kws pos) (tCallKS 0 ks.length sp gV E tNil tk) := by
  refine ⟨fun pins s σ H Q I h => ?_⟩
  refine wpAny_Call_Name_kw (ld_glob I hg hm ?_ hdb)
  have h : tk σ H fun zs H2 => ([] : List V).length = 0 ∧ zs.length = ks.length ∧ sp (gV [] zs) H2 Q (E σ) := h
  refine PySem.W.callWith_KW0 (h₀ := X.base) I.ok.mod.kin hk hall (thn (hkw.run pos pins s σ H _ I h) fun ws s2 ⟨zs, H2, I2, rz, l1, l2, q2⟩ => ⟨I2.kIn, ?_⟩) hpl
  rw [hks]
  exact run_fnKS F hr hb (hx σ) I2 .nil rz l1 l2 q2
abbrev RK (X : Cx) (W : WX) (p : HD) (ρ : Rho) (c : PC) (ks : List Keyword) (o : AO) : Prop := PK X ks (tA X.K W p ρ c o)
theorem pk_imp {ks : List Keyword} {t t' : TA} (h : PK X ks t) (w : ∀ σ H Q, t' σ H Q → t σ H Q) : PK X ks t' := ⟨fun ps pins s σ H Q I q => h.run ps pins s σ H Q I (w σ H Q q)⟩
theorem rk_nil : RK X W p ρ c [] (.val [] c) := pk_imp pk_nil fun σ H Q ⟨s, k⟩ => k [] H (Ext.refl p H) s.pl .nil
theorem rk_cons {nm : Option Str} {kpos : Pos} {kws : List Keyword} {ds : List D} (ha : RE X W p ρ c e (.val d nw c1)) (hr : RK X W p ρ c1 kws (.val ds c2)) : RK X W p ρ c (⟨nm, e, kpos⟩ :: kws) (.val (d :: ds) c2) :=
  pk_imp (pk_cons ha hr) fun σ H Q ⟨s, k⟩ => ⟨s, fun v H1 e1 p1 dv _ => ⟨s.mono e1 p1, fun vs H2 e2 p2 dvs => k (v :: vs) H2 (e1.trans e2) p2 (.cons (dv.mono e2) dvs)⟩⟩
/-- f(a, .., k = v, ..): one positional value, one keyword, two parameters in that order -/
theorem re_callX1K {n : Nat} {ks : List Str} {g : List Value → List Value → List Value} {gV : List V → List V → List V} {kws : List Keyword} {es' : List D} (tk : Takes X W) (G : FnOk X.prog X.w X.K X.mg X.base (L2.CX X.prog X.w) k f fd ps (spF X.K R)) (hr : Room k X.A) (hm : X.mg x = some (.ref f)) (hk : PySem.W.keepIn X.K (.ref f) = true)
    (hb : KBn X.K fd ps n ks g gV) (ha : RA X W p ρ c (e :: es) (.val ds c1)) (hkw : RK X W p ρ c1 kws (.val es' c2)) (hn1 : ds.length = n) (hn2 : es'.length = ks.length) {gD : List D} (hg' : ∀ {H : Hp} {vs zs : List V}, DVs X.K p H vs ds → DVs X.K p H zs es' → DVs X.K p H (gV vs zs) gD) (ho : R gD c2 o)
    (hg : Gl X x := by rfl) (hall : (backToKw pos (keywordEach kws X.env)).all (·.1.isSome) = true := by rfl) (hks : (backToKw pos (keywordEach kws X.env)).filterMap (·.1) = ks := by rfl)
    (hdb : (x == ("__debug__" : Str)) = false := by decide) (he : starEach (e :: es) X.env = (false, eval e X.env) :: starEach es X.env := by rfl)
    (hpl : ((backTo pos (starEach (e :: es) X.env)).any (·.1) || (backToKw pos (keywordEach kws X.env)).any (·.1.isNone)) = false := by rfl) :
    RE X W p ρ c (.Call (.Name x xp) (e :: es) kws pos) o :=
  pe_imp (pe_callKS G hr hg hm hk hb (fun σ => passAt tk σ) ha hkw hall hks hdb he hpl) fun σ H Q h => ⟨tE_sr h, fun vs H1 e1 p1 dvs => ⟨(tE_sr h).mono e1 p1, fun zs H2 e2 p2 dzs =>
    ⟨by rw [dvs.length]; exact hn1, by rw [dzs.length]; exact hn2, p, c2, gD, o, hg' (dvs.mono e2) dzs, p2, ho, fo_at h (e1.trans e2)⟩⟩⟩
theorem re_callX0K {ks : List Str} {g : List Value → List Value → List Value} {gV : List V → List V → List V} {kws : List Keyword} {es' : List D} (tk : Takes X W) (G : FnOk X.prog X.w X.K X.mg X.base (L2.CX X.prog X.w) k f fd ps (spF X.K R)) (hr : Room k X.A) (hm : X.mg x = some (.ref f)) (hk : PySem.W.keepIn X.K (.ref f) = true)
    (hb : KBn X.K fd ps 0 ks g gV) (hkw : RK X W p ρ c kws (.val es' c2)) (hn2 : es'.length = ks.length) {gD : List D} (hg' : ∀ {H : Hp} {zs : List V}, DVs X.K p H zs es' → DVs X.K p H (gV [] zs) gD) (ho : R gD c2 o)
    (hg : Gl X x := by rfl) (hall : (backToKw pos (keywordEach kws X.env)).all (·.1.isSome) = true := by rfl) (hks : (backToKw pos (keywordEach kws X.env)).filterMap (·.1) = ks := by rfl)
    (hdb : (x == ("__debug__" : Str)) = false := by decide)
    (hpl : ((backTo pos (starEach [] X.env)).any (·.1) || (backToKw pos (keywordEach kws X.env)).any (·.1.isNone)) = false := by rfl) :
    RE X W p ρ c (.Call (.Name x xp) [] kws pos) o :=
  pe_imp (pe_callKS0 G hr hg hm hk hb (fun σ => passAt tk σ) hkw hall hks hdb hpl) fun σ H Q h => ⟨tE_sr h, fun zs H2 e2 p2 dzs =>
    ⟨rfl, by rw [dzs.length]; exact hn2, p, c2, gD, o, hg' dzs, p2, ho, fo_at h e2⟩⟩

/-! ### statements -/
theorem rs_ret (h : RE X W p ρ c e (.val d nw c1)) : RS X W p ρ c (.Return (some e) pos) (.rt d nw c1) := ps_imp (ps_ret h) fun D σ H ⟨s, k⟩ => ⟨s, fun v H1 e1 p1 dv hn => k v H1 e1 p1 dv hn⟩
theorem tS_ex {K : PySem.W.Frag} {C : Addr} {fs : List (Str × D)} {De : Ends} {σ : L2.St} {H : Hp} (h : tSt K W p ρ c (.ex C fs c1) De σ H) (Q : VK) : tE K W p ρ c (.ex C fs c1) σ H Q := ⟨h.1, fun dx fv σ' H1 e1 s1 hx hf => h.2 ρ dx fv σ' H1 e1 s1 rfl hx hf⟩
theorem rs_retX {C : Addr} {fs : List (Str × D)} (h : RE X W p ρ c e (.ex C fs c1)) : RS X W p ρ c (.Return (some e) pos) (.ex C fs c1) := ps_imp (ps_ret h) fun D σ H q => tS_ex q _
theorem rs_exprX {C : Addr} {fs : List (Str × D)} (h : RE X W p ρ c e (.ex C fs c1)) (hs : swapsWith e none pos.line X.env = pure false := by rfl) : RS X W p ρ c (.Expr e pos) (.ex C fs c1) := ps_imp (ps_expr h hs) fun D σ H q => tS_ex q _
theorem rs_expr (h : RE X W p ρ c e (.val d nw c1)) (hs : swapsWith e none pos.line X.env = pure false := by rfl) : RS X W p ρ c (.Expr e pos) (.nx ρ c1) := ps_imp (ps_expr h hs) fun D σ H ⟨s, k⟩ => ⟨s, fun v H1 e1 p1 dv hn => k σ H1 e1 (s.mono e1 p1)⟩
theorem rs_set (i : Nat) {x : Str} {pos' : Pos} (hN : X.N.Nodup) (h : RE X W p ρ c e (.val d nw c1)) (hi : X.N[i]? = some x := by rfl) (hx : Loc X.env.scope x := by first | exact Or.inl rfl | exact Or.inr rfl) (hs : swapsWith e (some (.Name x pos')) pos.line X.env = pure false := by rfl)
    (hf : X.fn x = true ∨ X.env.scope.names.lookup x = some .local := by first | exact .inl rfl | exact .inr rfl) : RS X W p ρ c (.Assign [.Name x pos'] e pos) (.nx (ρ.set i (some d)) c1) :=
  ps_imp (ps_set hN hi hx h hs hf) fun De σ H ⟨s, k⟩ => ⟨s, fun v H1 e1 p1 dv hn => k _ H1 e1 ((s.mono e1 p1).set i dv)⟩
theorem rss_nil : RSs X W p ρ c [] (.nx ρ c) := pss_imp pss_nil fun De σ H ⟨s, k⟩ => k σ H (Ext.refl p H) s
theorem rss_cons (h1 : RS X W p ρ c st (.nx ρ1 c1)) (h2 : RSs X W p ρ1 c1 rest so) (hl : ρ1.length = ρ.length := by rfl) : RSs X W p ρ c (st :: rest) so := by
  refine pss_imp (pss_cons h1 h2) fun De σ H h => ?_
  cases so with
  | nx ρ' c' => exact ⟨h.1, fun σ1 H1 e1 s1 => ⟨s1, fun σ2 H2 e2 s2 => h.2 σ2 H2 (e1.trans e2) s2⟩⟩
  | rt d nw c' => exact ⟨h.1, fun σ1 H1 e1 s1 => ⟨s1, fun v H2 e2 p2 dv hn => h.2 v H2 (e1.trans e2) p2 dv fun q => (hn q).back e1⟩⟩
  | ex C fs c' => exact ⟨h.1, fun σ1 H1 e1 s1 => ⟨s1, fun ρ' dx fv σ2 H2 e2 s2 hl' hx hf => h.2 ρ' dx fv σ2 H2 (e1.trans e2) s2 (hl'.trans hl) hx hf⟩⟩
theorem rss_ret (h1 : RS X W p ρ c st (.rt d nw c1)) : RSs X W p ρ c (st :: rest) (.rt d nw c1) := pss_imp (pss_cons h1 pss_never) fun De σ H h => h
theorem rss_ex {C : Addr} {fs : List (Str × D)} (h1 : RS X W p ρ c st (.ex C fs c1)) : RSs X W p ρ c (st :: rest) (.ex C fs c1) := pss_imp (pss_cons h1 pss_never) fun De σ H h => h
theorem st_at {K : PySem.W.Frag} {De : Ends} {σ : L2.St} {H H1 : Hp} (h : tSt K W p ρ c so De σ H) (e1 : Ext p H H1) (p1 : PoolAt K p H1 c1) : tSt K W p ρ c1 so De σ H1 := by
  cases so with
  | nx ρ' c' => exact ⟨h.1.mono e1 p1, fun σ2 H2 e2 s2 => h.2 σ2 H2 (e1.trans e2) s2⟩
  | rt d nw c' => exact ⟨h.1.mono e1 p1, fun v H2 e2 p2 dv hn => h.2 v H2 (e1.trans e2) p2 dv fun q => (hn q).back e1⟩
  | ex C fs c' => exact ⟨h.1.mono e1 p1, fun ρ' dx fv σ2 H2 e2 s2 hl hx hf => h.2 ρ' dx fv σ2 H2 (e1.trans e2) s2 hl hx hf⟩
theorem st_sr {K : PySem.W.Frag} {De : Ends} {σ : L2.St} {H : Hp} (h : tSt K W p ρ c so De σ H) : SR K p H σ ρ c := by
  cases so <;> exact h.1
theorem rs_if {t : Expr} {A B : List Stmt} {kb : Bool} (ht : RT X W p ρ c t (.val kb c1)) (h1 : kb = true → RSs X W p ρ c1 A so) (h2 : kb = false → RSs X W p ρ c1 B so) : RS X W p ρ c (.If t A B pos) so := by
  cases kb with
  | true => exact ps_imp (ps_if ht (h1 rfl) pss_never) fun De σ H h => ⟨st_sr h, fun H1 e1 p1 => st_at h e1 p1⟩
  | false => exact ps_imp (ps_if ht pss_never (h2 rfl)) fun De σ H h => ⟨st_sr h, fun H1 e1 p1 => iteF (st_at h e1 p1)⟩
theorem rs_ifX {t : Expr} {A B : List Stmt} {C : Addr} {fs : List (Str × D)} (ht : RT X W p ρ c t (.ex C fs c1)) : RS X W p ρ c (.If t A B pos) (.ex C fs c1) :=
  ps_imp (ps_if ht pss_never pss_never) fun De σ H h => ⟨h.1, fun dx fv σ' H1 e1 s1 hx hf => h.2 ρ dx fv σ' H1 e1 s1 rfl hx hf⟩
end

/-! ### a def holds its promise -/
section
variable {P : Program} {w : World} {K : PySem.W.Frag} {mg : Str → Option Value} {base : Heap} {x qual : Str} {st : Stmt} {f : Addr} {fd : FuncData} {N ps : List Str} {k : Nat} {R : FSpec}
abbrev Wf : WX := fun _ _ _ _ => False
def BodyOk (X : Cx) (W : WX) (p : HD) (ρ : Rho) (c : PC) (body : List Stmt) : EO → Prop
  | .val d nw c' => RSs X W p ρ c body (.rt d nw c') ∨ (d = .non ∧ ∃ ρ', RSs X W p ρ c body (.nx ρ' c'))
  | .ex C fs c' => RSs X W p ρ c body (.ex C fs c')
theorem spF_len {vs : List V} {H : Hp} {Q : VK} {E : XK} (hl : ∀ ds c o, R ds c o → ds.length = ps.length) (h : spF K R vs H Q E) : vs.length = ps.length := by
  obtain ⟨p, c, ds, o, h1, _, h3, _⟩ := h
  rw [h1.length]
  exact hl _ _ _ h3
theorem fn_val (F : Fun K x qual st f fd) (S : FnScope N ps (defScope st)) (hl : ∀ ds c o, R ds c o → ds.length = ps.length) (hv : ∀ ds c o, R ds c o → ∃ d nw c', o = .val d nw c')
    (body : ∀ (cdv : Value) (A : Around) (outer : List Env) (s : Shared) (H : Hp) (E : XK), Room k (A.deeper (envOfC qual (defScope st) s.heap.objs.size f cdv)) → ∀ (p : HD) (ds : List D) (c : PC) (o : EO), R ds c o →
      BodyOk (cxOf CX0 P w K mg base N qual (defScope st) f cdv A outer s H E).nox Wf p (startR N ds) c (defBody st) o) : FnOk P w K mg base CX0 (k + 1) f fd ps (spF K R) := by
  refine F.ok S (fun vs H Q E h => spF_len hl h) (fun cdv A outer s H vs Q E hr h => ?_)
  obtain ⟨p, c, ds, o, h1, h2, h3, h4⟩ := h
  have b := body cdv A outer s H E hr p ds c o h3
  obtain ⟨d, nw, c', rfl⟩ := hv _ _ _ h3
  rcases b with b | ⟨rfl, ρ', b⟩
  · exact ⟨_, b, sr_start h1 h2, fun v H1 e1 p1 dv hn => h4 v H1 e1 p1 dv hn⟩
  · exact ⟨_, b, sr_start h1 h2, fun σ' H1 e1 s1 => h4 .non H1 e1 s1.pl .non fun _ => New.sc (by intro a q; cases q)⟩
theorem fn_exc (F : Fun K x qual st f fd) (S : FnScope N ps (defScope st)) (hl : ∀ ds c o, R ds c o → ds.length = ps.length)
    (body : ∀ (cdv : Value) (A : Around) (outer : List Env) (s : Shared) (H : Hp) (E : XK), Room k (A.deeper (envOfC qual (defScope st) s.heap.objs.size f cdv)) → ∀ (p : HD) (ds : List D) (c : PC) (o : EO), R ds c o →
      Takes (cxOf (L2.CX P w) P w K mg base N qual (defScope st) f cdv A outer s H E) (fun cls d _ H => E cls d H) →
      BodyOk (cxOf (L2.CX P w) P w K mg base N qual (defScope st) f cdv A outer s H E) (fun cls d _ H => E cls d H) p (startR N ds) c (defBody st) o) : FnOk P w K mg base (L2.CX P w) (k + 1) f fd ps (spF K R) := by
  refine F.okX S (fun vs H Q E h => spF_len hl h) (fun cdv A outer s H vs Q E hr h => ?_)
  obtain ⟨p, c, ds, o, h1, h2, h3, h4⟩ := h
  have b := body cdv A outer s H E hr p ds c o h3 (takes_of rfl rfl rfl rfl)
  cases o with
  | val d nw c' =>
    rcases b with b | ⟨rfl, ρ', b⟩
    · exact ⟨_, b, sr_start h1 h2, fun v H1 e1 p1 dv hn => h4 v H1 e1 p1 dv hn⟩
    · exact ⟨_, b, sr_start h1 h2, fun σ' H1 e1 s1 => h4 .non H1 e1 s1.pl .non fun _ => New.sc (by intro a q; cases q)⟩
  | ex C fs c' => exact ⟨_, b, sr_start h1 h2, fun ρ' dx fv σ' H1 e1 s1 _ hx hf => h4 dx fv H1 e1 s1.pl hx hf⟩
end
end LA

namespace LA
open PySem PySem.Spec PyProof.Rows L2
/-! ### what is walked -/
/-- pairs, each a new tuple -/
def Itp (n : Nat) (f g : Nat → V) : It :=
  ⟨fun i _ => i < n, fun i H v H' => ∃ T, v = .ref T ∧ H T = none ∧ H' = upd H T (.tup [f i, g i]), fun i _ => i = n⟩
theorem turn_pair {P : Program} {w : World} {K : PySem.W.Frag} {elts : List Expr} {kk : Nat} {tpos : Pos} {it : Addr} {fp wr : List Addr} {n : Nat} {f g : Nat → V} {P1 P2 : Nat → Value → Prop} {St : Nat → Heap → Prop}
    (G : ∀ A : Around, A.handled = none → GoesN P w A (.Tuple elts kk tpos) it fp wr n (fun i h₀ v h => ∃ T x y, v = .ref T ∧ h₀.objs.size ≤ T ∧ P1 i x ∧ P2 i y ∧ h.IsTuple T #[x, y]) St)
    (h1 : ∀ i x, i < n → P1 i x → RelV (f i) x) (h2 : ∀ i x, i < n → P2 i x → RelV (g i) x) (mem : it ∈ fp) (obj : ∀ i h, St i h → ∀ b ∈ fp, ∃ o, h.get? b = some o ∧ ∀ v, o.data ≠ .cell v)
    (hself : ∀ (A : Around) (i : Nat) (s : Shared) (Q : Value → Shared → Prop) (E : Value → Shared → Prop), St i s.heap → Q (.ref it) s → wpAny (model P w) A (pyIter (.ref it)) Q E s) :
    Turn P w K (.Tuple elts kk tpos) (Itp n f g) fp it St where
  mem := mem
  obj := obj
  keep := fun i h h' st k => (G { handled := none, frames := none, guards := none, depth := 0, units := 0 } rfl).frame i h h' st k
  item := by
    intro X hP hw hK hc i pins s σ H E I hf st hg
    subst hP hw hK
    have GA := G X.A (I.ok.hd hc)
    refine wpAny_mono (GA.goes i s (fun v s₂ => ∃ x H', Inv X pins σ H' s₂ ∧ RelV x v ∧ (Itp n f g).yld i H x H' ∧ St (i + 1) s₂.heap ∧ ∀ b ∈ fp, H' b = none) E hg st fun v h' tk hY st' hk _ => ?_) (fun r s1 ⟨v, e, q⟩ => ⟨v, e, q⟩) fun _ _ z => z
    obtain ⟨T, x, y, rfl, hT, p1, p2, ht⟩ := hY
    have new : ObjOk X.prog X.w (upd H T (.tup [f i, g i])) h' T (.tup [f i, g i]) := ⟨by show 2 ≤ sizeLine; decide, [x, y], .cons (h1 i x hg p1) (.cons (h2 i y hg p2) .nil), ht⟩
    have I1 : Inv X pins σ (upd H T (.tup [f i, g i])) { s with heap := h', toks := tk } := I.turnedNew (ch := wr) hk (fun b hb => hf b (GA.sub b hb)) hT new
    refine ⟨.ref T, _, I1, rfl, ⟨T, rfl, I.hok.fresh hT, rfl⟩, st', fun b hb => ?_⟩
    obtain ⟨o, e, _⟩ := obj i s.heap st b hb
    rw [upd_ne (Nat.ne_of_lt (Nat.lt_of_lt_of_le (Heap.lt_size e) hT))]
    exact (hf b hb).1
  done := by
    intro X hP hw hK hc i pins s σ H E I hf st hg
    subst hP hw hK
    have GA := G X.A (I.ok.hd hc)
    have e : i = n := hg
    subst e
    exact wpAny_mono (GA.stops s (fun s1 => Inv X pins σ H s1) E st fun h' tk hk _ => I.turnedL hk fun b hb => hf b (GA.sub b hb)) (fun r s1 q => q) fun _ _ z => z
  self := hself
/-- the i-th sign of a text, as a value -/
def sgn (z : Str) (i : Nat) : V := .str ⟨#[z.cps.toList.getD i 0]⟩
theorem sgn_of {z : Str} {i : Nat} {x : Value} (h : ∃ c u, z.cps[i]? = some c ∧ x = .str ⟨#[c]⟩ u) : RelV (sgn z i) x := by
  obtain ⟨c, u, h1, rfl⟩ := h
  have e : z.cps.toList.getD i 0 = c := by
    rw [List.getD_eq_getElem?_getD, Array.getElem?_toList, h1]
    rfl
  exact ⟨u, by rw [e]⟩
def iZipS (ta : TA) : TI := fun σ H R => ta σ H fun vs H1 => ∃ a b : Str, vs = [.str a, .str b] ∧ R (Itp (min a.cps.size b.cps.size) (sgn a) (sgn b)) H1
theorem pi_zipS {X : Cx} {e e2 : Expr} {ta : TA} {p pos tpos : Pos} {elts : List Expr} {kk : Nat} (hg : Gl X "zip") (hm : X.mg "zip" = none) (ha : PA X [e, e2] ta)
    (hs : starEach [e, e2] X.env = (false, eval e X.env) :: starEach [e2] X.env := by rfl) (hpl : (backTo pos (starEach [e2] X.env)).any (·.1) = false := by rfl) :
    PI X (.Tuple elts kk tpos) (.Call (.Name "zip" p) [e, e2] [] pos) (iZipS ta) := by
  refine ⟨fun pins s σ H R I h => ?_⟩
  refine Call_ (ld_blt I hg hm PyProof.Rows.boot_zip (PyProof.Rows.callWith_type1 (thn (ha.run pos pins s σ H _ I h) fun us s1 ⟨vs, H1, I1, r1, q1⟩ => ?_) hs hpl))
  obtain ⟨a, b, ex, q⟩ := q1
  subst ex
  cases r1 with
  | cons r rr =>
    cases rr with
    | cons r' rr =>
      cases rr
      obtain ⟨t, rfl⟩ := r
      obtain ⟨t', rfl⟩ := r'
      refine zip_begins2 (begins_text a t) (begins_text b t') trivial trivial fun h' hz hTI hTO o1 o2 hsz hk => wpAny_pyIter_zip hz ?_
      have I2 : Inv X pins σ H1 { s1 with heap := h' } := I1.kept (t' := s1.toks) hk
      have SZ := zip_sep2 (N := s1.heap.objs.size) (fp1 := []) (fp2 := []) (fun b hb => by cases hb) (fun b hb => by cases hb)
      refine ⟨s1.heap.objs.size + 4, _, _, _, H1, rfl, I2, turn_pair (fun A hA => GoesN.zip2 SZ (Draws.text (A := A.in1) hA _ a t) (Draws.text (A := A.in1) hA _ b t')) (fun i x _ hx => sgn_of hx) (fun i x _ hx => sgn_of hx) (List.mem_cons_self ..) (fun i h st c hc => ?_) (fun A i s Q E st h => wpAny_pyIter_zip st.1 h),
        ⟨hz, hTI, ⟨_, _, hTO⟩, ⟨_, o1, rfl, rfl⟩, ⟨_, o2, rfl, rfl⟩⟩, fun c hc => ?_, q⟩
      · obtain ⟨hz, hTI, ⟨x, y, hTO⟩, ⟨p1, e1, _, d1⟩, ⟨p2, e2, _, d2⟩⟩ := st
        have e' : c = s1.heap.objs.size + 4 ∨ c = s1.heap.objs.size + 2 ∨ c = s1.heap.objs.size + 3 ∨ c = s1.heap.objs.size ∨ c = s1.heap.objs.size + 1 := by simpa using hc
        rcases e' with q | q | q | q | q
        · rw [q]; exact ⟨_, hz, fun v q => nomatch q⟩
        · rw [q]; exact ⟨_, hTI, fun v q => nomatch q⟩
        · rw [q]; exact ⟨_, hTO, fun v q => nomatch q⟩
        · rw [q]; exact ⟨p1, e1, fun v q => by rw [d1] at q; cases q⟩
        · rw [q]; exact ⟨p2, e2, fun v q => by rw [d2] at q; cases q⟩
      · have e' : c = s1.heap.objs.size + 4 ∨ c = s1.heap.objs.size + 2 ∨ c = s1.heap.objs.size + 3 ∨ c = s1.heap.objs.size ∨ c = s1.heap.objs.size + 1 := by simpa using hc
        have hle : s1.heap.objs.size ≤ c := by
          rcases e' with z | z | z | z | z
          · rw [z]; exact Nat.le_add_right _ _
          · rw [z]; exact Nat.le_add_right _ _
          · rw [z]; exact Nat.le_add_right _ _
          · rw [z]; exact Nat.le_refl _
          · rw [z]; exact Nat.le_add_right _ _
        exact I1.fpOk hle (I1.hok.fresh hle)
end LA

namespace LA
open PySem PySem.Spec PyProof.Rows L2
/-- an iterator that yields the data xs, whatever else is made meanwhile -/
def Yields (K : PySem.W.Frag) (p : HD) (J : It) (xs : List D) (H0 : Hp) : Prop :=
  ∀ (q : HD) (c : PC) (H1 : Hp), q.m = p.m → Sub (hide p H0) (hide q H1) → PoolAt K q H1 c →
    J.stop xs.length H1 ∧ ∀ i d, xs[i]? = some d → J.go i H1 ∧ ∀ x H2, J.yld i H1 x H2 → Ext q H1 H2 ∧ PoolAt K q H2 c ∧ DV K q H2 x d
def tI (K : PySem.W.Frag) (W : WX) (p : HD) (ρ : Rho) (c : PC) (xs : List D) (c' : PC) : TI := fun σ H R => SR K p H σ ρ c ∧ ∀ J H', Ext p H H' → PoolAt K p H' c' → Yields K p J xs H' → R J H'
abbrev RI (X : Cx) (W : WX) (p : HD) (ρ : Rho) (c : PC) (tg it : Expr) (xs : List D) (c' : PC) : Prop := PI X tg it (tI X.K W p ρ c xs c')
theorem pi_imp {X : Cx} {tg e : Expr} {t t' : TI} (h : PI X tg e t) (w : ∀ σ H R, t' σ H R → t σ H R) : PI X tg e t' := ⟨fun pins s σ H Q I q => h.run pins s σ H Q I (w σ H Q q)⟩
section
variable {X : Cx} {W : WX} {p : HD} {ρ ρ1 : Rho} {c c1 c2 c3 : PC} {e e2 tg : Expr} {es : List Expr} {pos : Pos} {d d1 d2 : D} {n1 n2 nw : Bool} {K : PySem.W.Frag}
def chars (z : Str) : List D := z.cps.toList.map fun ch => D.str ⟨#[ch]⟩
theorem ri_str {z : Str} (h : RE X W p ρ c e (.val (.str z) nw c1)) : RI X W p ρ c tg e (chars z) c1 :=
  pi_imp (pi_str h) fun σ H R ⟨s, k⟩ => ⟨s, fun v H1 e1 p1 dv _ => by
    cases dv
    refine ⟨z, rfl, k _ H1 e1 p1 fun q c' H2 _ _ p2 => ⟨?_, fun i d hd => ⟨?_, fun x H3 y => ?_⟩⟩⟩
    · show z.cps.size ≤ (chars z).length
      unfold chars
      rw [List.length_map, Array.length_toList]
      exact Nat.le_refl _
    · have hl := (List.getElem?_eq_some_iff.mp hd).1
      unfold chars at hl
      rw [List.length_map, Array.length_toList] at hl
      exact hl
    · obtain ⟨rfl, ch, h1, rfl⟩ := y
      refine ⟨Ext.refl _ _, p2, ?_⟩
      unfold chars at hd
      rw [List.getElem?_map, Array.getElem?_toList, h1] at hd
      have e' := Option.some.inj hd
      rw [← e']
      exact .str _⟩
theorem ri_lst {g : G} {xs : List D} (h : RE X W p ρ c e (.val (.lst g xs) nw c1)) : RI X W p ρ c tg e xs c1 :=
  pi_imp (pi_list h) fun σ H R ⟨s, k⟩ => ⟨s, fun v H1 e1 p1 dv _ => by
    cases dv with
    | @lst a vs _ _ hb hq r =>
      refine ⟨a, rfl, ⟨vs, un_sqL hq⟩, k _ H1 e1 p1 fun q c' H2 qe qs p2 => ?_⟩
      have hq2 : SqL X.K H2 a vs := un_sqL (qs.sqL hq)
      refine ⟨⟨vs, hq2, Nat.le_of_eq r.length⟩, fun i d hd => ?_⟩
      obtain ⟨v, h1, h2⟩ := r.get hd
      refine ⟨⟨vs, v, hq2, h1⟩, fun x H3 y => ?_⟩
      obtain ⟨rfl, h3⟩ := y
      have e' : x = v := Option.some.inj ((h3 vs hq2).symm.trans h1)
      subst e'
      exact ⟨Ext.refl _ _, p2, h2.sub qs (fun i a z => by rw [qe]; exact z)⟩⟩
def intsD (n : Nat) : List D := (List.range n).map fun i => D.int ((i : Nat) : Int)
theorem ri_range {ps : Pos} {n : Int} (hm : X.mg "range" = none) (h : RE X W p ρ c e (.val (.int n) nw c1)) (h1 : -(2 ^ 62) ≤ n) (h2 : n < 2 ^ 62) (hg : Gl X "range" := by rfl) (hs : starEach [e] X.env = [(false, eval e X.env)] := by rfl) : RI X W p ρ c tg (.Call (.Name "range" ps) [e] [] pos) (intsD n.toNat) c1 :=
  pi_imp (pi_range1 hg hm (ra_cons (W := W) h (ra_nil (W := W)) (by rw [hs]; rfl)) hs) fun σ H R ⟨s, k⟩ => ⟨s, fun vs H1 e1 p1 dvs => by
    cases dvs with
    | cons hv hr =>
      cases hr
      cases hv
      refine ⟨n, rfl, h1, h2, k _ H1 e1 p1 fun q c' H2 qe qs p2 => ⟨?_, fun i d hd => ⟨?_, fun x H3 y => ?_⟩⟩⟩
      · show n.toNat ≤ (intsD n.toNat).length
        unfold intsD
        rw [List.length_map, List.length_range]
        exact Nat.le_refl _
      · have hl := (List.getElem?_eq_some_iff.mp hd).1
        unfold intsD at hl
        rw [List.length_map, List.length_range] at hl
        exact hl
      · obtain ⟨rfl, rfl⟩ := y
        refine ⟨Ext.refl _ _, p2, ?_⟩
        have hl := (List.getElem?_eq_some_iff.mp hd).1
        unfold intsD at hd hl
        rw [List.length_map, List.length_range] at hl
        rw [List.getElem?_map, List.getElem?_range hl] at hd
        have e' := Option.some.inj hd
        rw [← e', Int.zero_add]
        exact .int _⟩
/-- pairs of signs -/
def zips (a b : Str) : List D := (List.range (min a.cps.size b.cps.size)).map fun i => D.tup [.str ⟨#[a.cps.toList.getD i 0]⟩, .str ⟨#[b.cps.toList.getD i 0]⟩]
theorem ri_zipS {ps tpos : Pos} {elts : List Expr} {kk : Nat} {a b : Str} (hm : X.mg "zip" = none) (h : RA X W p ρ c [e, e2] (.val [.str a, .str b] c1)) (hg : Gl X "zip" := by rfl)
    (hs : starEach [e, e2] X.env = (false, eval e X.env) :: starEach [e2] X.env := by rfl) (hpl : (backTo pos (starEach [e2] X.env)).any (·.1) = false := by rfl) :
    RI X W p ρ c (.Tuple elts kk tpos) (.Call (.Name "zip" ps) [e, e2] [] pos) (zips a b) c1 :=
  pi_imp (pi_zipS hg hm h hs hpl) fun σ H R ⟨s, k⟩ => ⟨s, fun vs H1 e1 p1 dvs => by
    cases dvs with
    | cons hv hr =>
      cases hr with
      | cons hv2 hr =>
        cases hr
        cases hv
        cases hv2
        refine ⟨a, b, rfl, k _ H1 e1 p1 fun q c' H2 qe qs p2 => ⟨?_, fun i d hd => ⟨?_, fun x H3 y => ?_⟩⟩⟩
        · show (zips a b).length = min a.cps.size b.cps.size
          unfold zips
          rw [List.length_map, List.length_range]
        · have hl := (List.getElem?_eq_some_iff.mp hd).1
          unfold zips at hl
          rw [List.length_map, List.length_range] at hl
          exact hl
        · obtain ⟨T, rfl, hT, rfl⟩ := y
          have hl := (List.getElem?_eq_some_iff.mp hd).1
          unfold zips at hd hl
          rw [List.length_map, List.length_range] at hl
          rw [List.getElem?_map, List.getElem?_range hl] at hd
          have e' := Option.some.inj hd
          rw [← e']
          exact ⟨Ext.new hT, p2.upd hT, .tup (.inl (.inl (hide_upd p2 hT))) (.cons (.str _) (.cons (.str _) .nil))⟩⟩

/-! ### list comprehensions -/
theorem wipe_get {σ : L2.St} {i : Nat} : ∀ {vs : List Nat}, i ∈ vs → i < σ.length → (wipe σ vs)[i]? = some none
  | v :: vs, h, hl => by
    unfold wipe
    by_cases e : v = i
    · subst e
      rw [List.getElem?_set_self (by rw [wipe_length]; exact hl)]
    · rw [List.getElem?_set_ne e]
      exact wipe_get ((List.mem_cons.mp h).resolve_left fun z => e z.symm) hl
theorem wipe_ext {σ τ : L2.St} {vs : List Nat} (hl : σ.length = τ.length) (h : ∀ i, i ∉ vs → σ[i]? = τ[i]?) : wipe σ vs = wipe τ vs := by
  refine List.ext_getElem? fun i => ?_
  by_cases hi : i ∈ vs
  · by_cases hn : i < σ.length
    · rw [wipe_get hi hn, wipe_get hi (by rw [← hl]; exact hn)]
    · rw [List.getElem?_eq_none (by rw [wipe_length]; omega), List.getElem?_eq_none (by rw [wipe_length]; omega)]
  · rw [wipe_out hi, wipe_out hi, h i hi]
theorem wipe_wipe {σ : L2.St} {vs : List Nat} : wipe (wipe σ vs) vs = wipe σ vs := wipe_ext (wipe_length σ vs) fun i hi => wipe_out hi
theorem wipe_set {σ : L2.St} {vs : List Nat} {j : Nat} {x : Option V} (hj : j ∈ vs) : wipe (σ.set j x) vs = wipe σ vs := wipe_ext (List.length_set) fun i hi => List.getElem?_set_ne (fun z => hi (by rw [← z]; exact hj))
/-- the slots vs of the frame forgotten -/
def wipeR (ρ : Rho) : List Nat → Rho
  | [] => ρ
  | v :: vs => (wipeR ρ vs).set v none
theorem wipeR_len (ρ : Rho) : ∀ vs : List Nat, (wipeR ρ vs).length = ρ.length
  | [] => rfl
  | v :: vs => by unfold wipeR; rw [List.length_set, wipeR_len ρ vs]
theorem wipeR_some {ρ : Rho} {i : Nat} {d : D} : ∀ {vs : List Nat}, (wipeR ρ vs)[i]? = some (some d) → ρ[i]? = some (some d) ∧ i ∉ vs
  | [], h => ⟨h, by simp⟩
  | v :: vs, h => by
    unfold wipeR at h
    by_cases hi : v = i
    · subst hi
      rw [List.getElem?_set] at h
      split at h
      · split at h <;> cases h
      · exact absurd rfl ‹¬ _›
    · rw [List.getElem?_set_ne hi] at h
      obtain ⟨h1, h2⟩ := wipeR_some h
      exact ⟨h1, fun m => (List.mem_cons.mp m).elim (fun z => hi z.symm) h2⟩
theorem SR.wipe {H : Hp} {σ : L2.St} (s : SR K p H σ ρ c) (vs : List Nat) : SR K p H (L2.wipe σ vs) (wipeR ρ vs) c :=
  s.weak (by rw [wipe_length, wipeR_len]; exact s.len) (fun i d h => (wipeR_some h).1) fun i v d h1 h2 => by
    rw [wipe_out (wipeR_some h1).2]
    exact h2
/-- what a target does with a datum: the slots it sets -/
structure TgOk (K : PySem.W.Frag) (g : TG) (vs : List Nat) (d : D) (ρ ρ' : Rho) : Prop where
  run : ∀ (q : HD) (c : PC) (x : V) (σ : L2.St) (H : Hp) (Q : L2.St → Hp → Prop), DV K q H x d → SR K q H σ ρ c → PoolAt K q H c → (∀ σ2, SR K q H σ2 ρ' c → L2.wipe σ2 vs = L2.wipe σ vs → Q σ2 H) → g x σ H Q
theorem tg_name {j : Nat} {vs : List Nat} (hj : j ∈ vs) : TgOk K (gName j) vs d ρ (ρ.set j (some d)) := ⟨fun q c x σ H Q dv s hp k => k _ (s.set j dv) (wipe_set hj)⟩
theorem tg_two {i j : Nat} {vs : List Nat} (hi : i ∈ vs) (hj : j ∈ vs) : TgOk K (gTup K 2 (gCons (gName i) (gCons (gName j) gNil))) vs (.tup [d1, d2]) ρ ((ρ.set i (some d1)).set j (some d2)) :=
  ⟨fun q c x σ H Q dv s hp k => by
    cases dv with
    | tup hq r =>
      cases r with
      | cons h1 r =>
        cases r with
        | cons h2 r =>
          cases r
          exact ⟨_, _, rfl, un_sqT hq, rfl, _, _, rfl, _, _, rfl, rfl, k _ ((s.set i h1).set j h2) ((wipe_set hj).trans (wipe_set hi))⟩⟩
/-- what is collected over n turns -/
def coll (b : Nat → Bool) (y : Nat → D) : Nat → List D
  | 0 => []
  | n + 1 => coll b y n ++ if b n then [y n] else []
theorem coll_len (b : Nat → Bool) (y : Nat → D) : ∀ n, (coll b y n).length ≤ n
  | 0 => Nat.le_refl _
  | n + 1 => by
    have h := coll_len b y n
    show (coll b y n ++ if b n then [y n] else []).length ≤ n + 1
    rw [List.length_append]
    split
    · show _ + 1 ≤ _
      omega
    · show _ + 0 ≤ _
      omega
theorem ext_also {p : HD} {a : Addr} {H H' : Hp} (e : Ext p H H') : Ext (p.also a) H H' := e
/-- what the tests and the element of a list comprehension are read by -/
def ttU (K : PySem.W.Frag) (xs : List D) (b : Nat → Bool) (cs cm : Nat → PC) (ρt : Nat → Rho) : TT := fun σ H Q => ∃ (q : HD) (i : Nat) (d : D), xs[i]? = some d ∧ tT K Wf q (ρt i) (cs i) (.val (b i) (cm i)) σ H Q
def teU (K : PySem.W.Frag) (xs : List D) (b : Nat → Bool) (y : Nat → D) (cs cm : Nat → PC) (ρt : Nat → Rho) (nws : Nat → Bool) : TE := fun σ H Q => ∃ (q : HD) (i : Nat) (d : D), xs[i]? = some d ∧ b i = true ∧ tE K Wf q (ρt i) (cm i) (.val (y i) (nws i) (cs (i + 1))) σ H Q
theorem lc_read {xs : List D} {g : TG} {vs : List Nat} {b : Nat → Bool} {y : Nat → D} {cs cm : Nat → PC} {ρt : Nat → Rho} {nws : Nat → Bool}
    (htg : ∀ i d, xs[i]? = some d → TgOk K g vs d (wipeR ρ vs) (ρt i))
    (hno : ∀ i d, xs[i]? = some d → b i = false → cs (i + 1) = cm i) (hz : xs.length ≤ 100000) : ∀ σ H Q, tE K W p ρ c (.val (.lst ⟨false, true⟩ (coll b y xs.length)) true (cs xs.length)) σ H Q → tLc (tI K W p ρ c xs (cs 0)) g (ttU K xs b cs cm ρt) (teU K xs b y cs cm ρt nws) vs σ H Q := by
  refine fun σ H Q ⟨s, k⟩ => ⟨s, fun J H1 e1 p1 yl L nL => ?_⟩
  -- the invariant
  have yl' := yl (p.also L)
  have hsub : Sub (hide p H1) (hide (p.also L) H1) := also_sub nL
  have s1 : SR K p H1 σ ρ (cs 0) := s.mono e1 p1
  have s2 : SR K (p.also L) H1 σ ρ (cs 0) → True := fun _ => trivial
  refine ⟨fun i m H2 => m = xs.length - i ∧ i ≤ xs.length ∧ Ext p H1 H2 ∧ (∃ vs, H2 L = some (.lst vs) ∧ DVs K (p.also L) H2 vs (coll b y i)) ∧ PoolAt K (p.also L) H2 (cs i), ⟨xs.length, by simp, Nat.zero_le _, Ext.new nL, ⟨[], upd_same, .nil⟩, p1.also nL⟩, ?_⟩
  rintro i m H2 ⟨rfl, hi', e2, ⟨vs, hL, dvs⟩, pq⟩
  have p2 := pq.less
  have nLp : L ∉ p.m := fun z => p1.not nL (.inl z)
  obtain ⟨hstop, hgo⟩ := yl' (cs i) H2 rfl (fun b o y => (ext_also e2).hide b o (hsub b o y)) pq
  by_cases hlt : i < xs.length
  · have hd : xs[i]? = some xs[i] := List.getElem?_eq_getElem hlt
    obtain ⟨g1, g2⟩ := hgo i _ hd
    refine .inr ⟨g1, fun H' => ∃ vs, H' L = some (.lst vs) ∧ DVs K (p.also L) H' vs (coll b y (i + 1)) ∧ Ext p H1 H' ∧ PoolAt K (p.also L) H' (cs (i + 1)), fun H' ⟨vs', a1, a2, a3, a4⟩ => ⟨xs.length - (i + 1), by omega, rfl, hlt, a3, ⟨vs', a1, a2⟩, a4⟩, fun x H3 hy => ?_⟩
    obtain ⟨e3, p3, dx⟩ := g2 x H3 hy
    have sH : SR K (p.also L) H3 σ ρ (cs i) := ⟨s.len, fun j d hj => by
      obtain ⟨v, h1, h2⟩ := s1.at' j d hj
      exact ⟨v, h1, ((h2.also nL).mono (ext_also e2)).mono e3⟩, p3⟩
    refine (htg i _ hd).run (p.also L) (cs i) x _ H3 _ dx (sH.wipe _) p3 fun σ2 s2 hw => ⟨hw.trans wipe_wipe, p.also L, i, _, hd, s2, fun H4 e4 p4 => ?_⟩
    have hL4 : H4 L = some (.lst vs) := e4 L _ nLp (e3 L _ nLp hL)
    have e24 : Ext p H2 H4 := fun a o n h => e4 a o n (e3 a o n h)
    cases hb : b i with
    | false =>
      refine iteF ⟨vs, hL4, ?_, e2.trans e24, ?_⟩
      · show DVs K (p.also L) H4 vs (coll b y i ++ if b i then [y i] else [])
        rw [hb, if_neg Bool.false_ne_true, List.append_nil]
        exact dvs.mono (ext_also e24)
      · rw [hno i _ hd hb]
        exact p4
    | true =>
      refine iteT ⟨p.also L, i, _, hd, hb, s2.mono e4 p4, fun v H5 e5 p5 dv _ => ?_⟩
      have hL5 : H5 L = some (.lst vs) := e5 L _ nLp hL4
      have e25 : Ext p H2 H5 := fun a o n h => e5 a o n (e24 a o n h)
      have up : ∀ a o, a ≠ L → H5 a = some o → upd H5 L (.lst (vs ++ [v])) a = some o := fun a o n h => by
        rw [upd_ne n]
        exact h
      have sb : Sub (hide (p.also L) H5) (hide (p.also L) (upd H5 L (.lst (vs ++ [v])))) := fun a o h => by
        obtain ⟨h1, h2⟩ := hide_some h
        have hn : a ≠ L := fun z => h2 (.inr (by rw [z]; exact List.mem_cons_self))
        rw [hide_ne h2]
        exact up a o hn h1
      refine ⟨vs, hL5, ?_, vs ++ [v], upd_same, ?_, ?_, ?_⟩
      · have := coll_len b y i
        rw [dvs.length]
        exact sz_lt (by omega)
      · show DVs K (p.also L) _ (vs ++ [v]) (coll b y i ++ if b i then [y i] else [])
        rw [hb, if_pos rfl]
        exact DVs.app ((dvs.mono (ext_also e25)).sub sb fun _ _ z => z) (.cons (dv.sub sb fun _ _ z => z) .nil)
      · refine fun a o n h => ?_
        have hn : a ≠ L := ne_of_none h nL
        exact up a o hn (e25 a o n (e2 a o n h))
      · exact p5.other List.mem_cons_self nLp
  · have e : i = xs.length := by omega
    subst e
    have hh : hide p H2 L = some (.lst vs) := by
      rw [hide_ne (p1.not nL)]
      exact hL
    exact .inl ⟨hstop, k (.ref L) H2 (e1.trans e2) p2 (.lst ⟨(fun z => nomatch z), fun _ => hh⟩ (.inl (.inl hh)) (dvs.sub sub_also fun _ _ z => z)) fun _ => New.back e1 fun b z => by
      cases z
      exact ⟨⟨nL, nLp⟩, pq, fun g ds z => by
        cases z
        exact ⟨vs, hL, dvs⟩⟩⟩
theorem re_lc {elt iter : Expr} {ifs : List Expr} {scope : Scope} {own : List (Str × Nat)} {xs : List D} {g : TG} (b : Nat → Bool) (y : Nat → D) (cs cm : Nat → PC) (ρt : Nat → Rho) (nws : Nat → Bool) (hc : X.calm = true) (hN : X.N.Nodup) (hi : RI X W p ρ c tg iter xs (cs 0)) (ok : BlkOk X.N X.env.scope scope own)
    (hg : ∀ (s : Shared) (H : Hp) (C : Addr) (cl : List (Str × Addr)) (fp : List Addr), PG (X.blk s H scope (compEnvC scope cl C X.env) fp) tg g)
    (htg : ∀ i d, xs[i]? = some d → TgOk X.K g (own.map (·.2)) d (wipeR ρ (own.map (·.2))) (ρt i))
    (ht : ∀ i d, xs[i]? = some d → ∀ (q : HD) (s : Shared) (H : Hp) (C : Addr) (cl : List (Str × Addr)) (fp : List Addr), PTs (X.blk s H scope (compEnvC scope cl C X.env) fp) ifs (tT X.K Wf q (ρt i) (cs i) (.val (b i) (cm i))))
    (he : ∀ i d, xs[i]? = some d → b i = true → ∀ (q : HD) (s : Shared) (H : Hp) (C : Addr) (cl : List (Str × Addr)) (fp : List Addr), RE (X.blk s H scope (compEnvC scope cl C X.env) fp) Wf q (ρt i) (cm i) elt (.val (y i) (nws i) (cs (i + 1))))
    (hno : ∀ i d, xs[i]? = some d → b i = false → cs (i + 1) = cm i) (hz : xs.length ≤ 100000)
    (hs : ∀ x, foldedSetIterable iter X.env x = pure x := by intro _; rfl) : RE X W p ρ c (.ListComp elt [⟨tg, iter, ifs, 0⟩] scope pos) (.val (.lst ⟨false, true⟩ (coll b y xs.length)) true (cs xs.length)) :=
  pe_imp (pe_lc (tt := ttU X.K xs b cs cm ρt) (te := teU X.K xs b y cs cm ρt nws) hc hN hi ok hg (fun s H C cl fp => ⟨fun pins s' σ H' Q I ⟨q, i, d, hd, h⟩ => (ht i d hd q s H C cl fp).run pins s' σ H' Q I h⟩)
    (fun s H C cl fp => ⟨fun pins s' σ H' Q I ⟨q, i, d, hd, hb, h⟩ => (he i d hd hb q s H C cl fp).run pins s' σ H' Q I h⟩) hs) (lc_read htg hno hz)
/-- name = [..] -/
theorem rs_lc {elt iter : Expr} {ifs : List Expr} {scope : Scope} {own : List (Str × Nat)} {xs : List D} {g : TG} {yn : Str} {py spos : Pos} (j : Nat) (b : Nat → Bool) (y : Nat → D) (cs cm : Nat → PC) (ρt : Nat → Rho) (nws : Nat → Bool) (hc : X.calm = true) (hN : X.N.Nodup) (hi : RI X W p ρ c tg iter xs (cs 0)) (ok : BlkOk X.N X.env.scope scope own)
    (hg : ∀ (s : Shared) (H : Hp) (C : Addr) (cl : List (Str × Addr)) (fp : List Addr), PG (X.blk s H scope (compEnvC scope cl C X.env) fp) tg g)
    (htg : ∀ i d, xs[i]? = some d → TgOk X.K g (own.map (·.2)) d (wipeR ρ (own.map (·.2))) (ρt i))
    (ht : ∀ i d, xs[i]? = some d → ∀ (q : HD) (s : Shared) (H : Hp) (C : Addr) (cl : List (Str × Addr)) (fp : List Addr), PTs (X.blk s H scope (compEnvC scope cl C X.env) fp) ifs (tT X.K Wf q (ρt i) (cs i) (.val (b i) (cm i))))
    (he : ∀ i d, xs[i]? = some d → b i = true → ∀ (q : HD) (s : Shared) (H : Hp) (C : Addr) (cl : List (Str × Addr)) (fp : List Addr), RE (X.blk s H scope (compEnvC scope cl C X.env) fp) Wf q (ρt i) (cm i) elt (.val (y i) (nws i) (cs (i + 1))))
    (hno : ∀ i d, xs[i]? = some d → b i = false → cs (i + 1) = cm i) (hz : xs.length ≤ 100000) (hy : X.N[j]? = some yn := by rfl) (hyl : X.env.scope.names.lookup yn = some .local := by rfl) (hsw : swapsWith (.ListComp elt [⟨tg, iter, ifs, 0⟩] scope pos) (some (.Name yn py)) spos.line X.env = pure true := by exact sw_true rfl rfl rfl (by decide +kernel))
    (hs : ∀ x, foldedSetIterable iter X.env x = pure x := by intro _; rfl) : RS X W p ρ c (.Assign [.Name yn py] (.ListComp elt [⟨tg, iter, ifs, 0⟩] scope pos) spos) (.nx (ρ.set j (some (.lst ⟨false, true⟩ (coll b y xs.length)))) (cs xs.length)) :=
  ps_imp (ps_setLc (tt := ttU X.K xs b cs cm ρt) (te := teU X.K xs b y cs cm ρt nws) hc hN hy hyl hsw hi ok hg (fun s H C cl fp => ⟨fun pins s' σ H' Q I ⟨q, i, d, hd, h⟩ => (ht i d hd q s H C cl fp).run pins s' σ H' Q I h⟩)
    (fun s H C cl fp => ⟨fun pins s' σ H' Q I ⟨q, i, d, hd, hb, h⟩ => (he i d hd hb q s H C cl fp).run pins s' σ H' Q I h⟩) hs) fun De σ H h => lc_read htg hno hz σ H _ ⟨h.1, fun v H1 e1 p1 dv _ => h.2 _ H1 e1 ((h.1.mono e1 p1).set j dv)⟩
end
end LA

namespace LA
open PySem PySem.Spec PyProof.Rows L2
/-! ### data as the model's own data; repr -/
mutual
def toPy : D → PyData
  | .non => .none
  | .bl b => .bool b
  | .int i => .int i
  | .str s => .str s
  | .lst _ xs => .list (toPys xs)
  | .tup xs => .tuple (toPys xs)
  | .dct kvs => .dict (toPyk kvs)
  | .mut _ => .none
  | .ty _ => .none
  | .cls _ => .none
  | .exn _ _ _ => .none
  | .obj _ _ => .none
def toPys : List D → List PyData
  | [] => []
  | d :: r => toPy d :: toPys r
def toPyk : List (Key × D) → List (PyData × PyData)
  | [] => []
  | (k, d) :: r => ((match k with | .inl i => .int i | .inr x => .str x), toPy d) :: toPyk r
end
/-! no pool within, and every list, if big, behind the run's own objects -/
mutual
def okD (big : Bool) : D → Bool
  | .lst g xs => (g.s || !big) && okDs big xs
  | .tup xs => okDs big xs
  | .dct kvs => okDk big kvs
  | .mut _ => false
  | .ty _ => false
  | .cls _ => false
  | .exn _ _ _ => false
  | .obj _ _ => false
  | _ => true
def okDs (big : Bool) : List D → Bool
  | [] => true
  | d :: r => okD big d && okDs big r
def okDk (big : Bool) : List (Key × D) → Bool
  | [] => true
  | (_, d) :: r => okD big d && okDk big r
end
def NoSys (big : Bool) (as : List Addr) : Prop := big = true → sysModules ∉ as
theorem NoSys.app {big : Bool} {as bs : List Addr} (h1 : NoSys big as) (h2 : NoSys big bs) : NoSys big (as ++ bs) := fun b m => (List.mem_append.mp m).elim (h1 b) (h2 b)
section
variable {X : Cx} {pins : List (Addr × Obj)} {σ : L2.St} {H : Hp} {s : Shared} {p : HD}
theorem keys_read {P : Program} {w : World} {h : Heap} : ∀ {es : List DictEntry} {vs : List (Key × Value)}, Pairs (mixKind P w) es vs → ∀ {kvs : List (Key × V)} {ds : List (Key × D)} {K : PySem.W.Frag}, KV kvs vs → DVk K p H kvs ds → ReadsAll h (es.map (·.key)) ((toPyk ds).map (·.1)) [] ∧ Vals (kvs.map (·.2)) (es.map (·.val))
  | _, _, .nil, _, _, _, .nil, .nil => ⟨.nil, .nil⟩
  | e :: es, (k, u) :: vs, .cons h1 h2 h3, (k', v) :: kvs, _, _, .cons r t, .cons (d := d) hd hk => by
    obtain ⟨a1, a2⟩ := keys_read (h := h) h3 t hk
    obtain ⟨r1, r2⟩ := r
    have r1 : k' = k := r1
    have h2 : e.val = u := h2
    subst r1 h2
    refine ⟨?_, .cons r2 a2⟩
    have hkey : keyIs k' e.key = true := h1
    rcases keyIs_shape hkey with ⟨i, t, e1, e2⟩ | ⟨x, t, e1, e2⟩
    · subst e1
      show ReadsAll _ (e.key :: es.map (·.key)) (.int i :: (toPyk _).map (·.1)) ([] ++ [])
      rw [e2]
      exact .cons (.int i t) a1
    · subst e1
      show ReadsAll _ (e.key :: es.map (·.key)) (.str x :: (toPyk _).map (·.1)) ([] ++ [])
      rw [e2]
      exact .cons (.str x t) a1
mutual
theorem reads_of {big : Bool} (I : Inv X pins σ H s) : ∀ (d : D) (v : V) (u : Value), DV X.K p H v d → okD big d = true → RelV v u → ∃ as, Reads s.heap u (toPy d) as ∧ NoSys big as
  | .non, _, _, h, _, r => by
    cases h
    cases r
    exact ⟨[], by unfold toPy; exact .none, fun _ m => nomatch m⟩
  | .bl b, _, _, h, _, r => by
    cases h
    cases r
    exact ⟨[], by unfold toPy; exact .bool b, fun _ m => nomatch m⟩
  | .int i, _, _, h, _, r => by
    cases h
    obtain ⟨t, rfl⟩ := r
    exact ⟨[], by unfold toPy; exact .int i t, fun _ m => nomatch m⟩
  | .str x, _, _, h, _, r => by
    cases h
    obtain ⟨t, rfl⟩ := r
    exact ⟨[], by unfold toPy; exact .str x t, fun _ m => nomatch m⟩
  | .lst g ds, _, _, .lst (a := a) hb hq ha, o, r => by
    obtain rfl := (show _ = Value.ref a from r)
    unfold okD at o
    obtain ⟨o1, o2⟩ := Bool.and_eq_true_iff.mp o
    obtain ⟨its, rv, ⟨ob, n, ho, hc, _, hd⟩, _⟩ := I.list (un_sqL hq)
    obtain ⟨as, q1, q2⟩ := readss_of (big := big) I ds _ its ha o2 rv
    refine ⟨_, by unfold toPy; exact Reads.list ho hc hd q1, fun b m => ?_⟩
    rcases List.mem_cons.mp m with m | m
    · subst b
      have hg : g.s = true := by simpa using o1
      exact hb.1 hg m.symm
    · exact q2 b m
  | .tup ds, _, _, .tup (a := a) hq ha, o, r => by
    obtain rfl := (show _ = Value.ref a from r)
    unfold okD at o
    obtain ⟨its, rv, ⟨ob, ho, hc, n, hd⟩, _⟩ := I.tuple (un_sqT hq)
    obtain ⟨as, q1, q2⟩ := readss_of (big := big) I ds _ its ha o rv
    exact ⟨_, by unfold toPy; exact Reads.tuple ho hc hd q1, q2⟩
  | .dct ds, _, _, .dct (a := a) hq hk, o, r => by
    obtain rfl := (show _ = Value.ref a from r)
    unfold okD at o
    obtain ⟨hz, hs, vs, rel, ob, es, ep, ho, hx, hd, _, hp, _⟩ := dk_rd I.hok (un_rd hq)
    obtain ⟨k1, k2⟩ := keys_read (h := s.heap) hp rel hk
    obtain ⟨bs, q1, q2⟩ := readsk_of (big := big) I ds _ _ hk o k2
    refine ⟨_, by unfold toPy; exact Reads.dict ho hx.1 hd k1 q1, fun b m => ?_⟩
    rcases List.mem_cons.mp m with m | m
    · rw [← m] at hs
      exact absurd hs (by decide)
    · exact q2 b m
  | .mut _, _, _, _, o, _ => by cases o
  | .ty _, _, _, _, o, _ => by cases o
  | .cls _, _, _, _, o, _ => by cases o
  | .exn _ _ _, _, _, _, o, _ => by cases o
  | .obj _ _, _, _, _, o, _ => by cases o
theorem readss_of {big : Bool} (I : Inv X pins σ H s) : ∀ (ds : List D) (vs : List V) (us : List Value), DVs X.K p H vs ds → okDs big ds = true → Vals vs us → ∃ as, ReadsAll s.heap us (toPys ds) as ∧ NoSys big as
  | [], _, _, h, _, r => by
    cases h
    cases r
    exact ⟨[], by unfold toPys; exact .nil, fun _ m => nomatch m⟩
  | d :: ds, _, _, .cons h1 h2, o, r => by
    unfold okDs at o
    obtain ⟨o1, o2⟩ := Bool.and_eq_true_iff.mp o
    cases r with
    | cons r1 r2 =>
      obtain ⟨as, q1, n1⟩ := reads_of (big := big) I d _ _ h1 o1 r1
      obtain ⟨bs, q2, n2⟩ := readss_of (big := big) I ds _ _ h2 o2 r2
      exact ⟨_, by unfold toPys; exact .cons q1 q2, n1.app n2⟩
theorem readsk_of {big : Bool} (I : Inv X pins σ H s) : ∀ (ds : List (Key × D)) (kvs : List (Key × V)) (us : List Value), DVk X.K p H kvs ds → okDk big ds = true → Vals (kvs.map (·.2)) us → ∃ as, ReadsAll s.heap us ((toPyk ds).map (·.2)) as ∧ NoSys big as
  | [], _, _, h, _, r => by
    cases h
    cases r
    exact ⟨[], by unfold toPyk; exact .nil, fun _ m => nomatch m⟩
  | (k, d) :: ds, _, _, .cons h1 h2, o, r => by
    unfold okDk at o
    obtain ⟨o1, o2⟩ := Bool.and_eq_true_iff.mp o
    cases r with
    | cons r1 r2 =>
      obtain ⟨as, q1, n1⟩ := reads_of (big := big) I d _ _ h1 o1 r1
      obtain ⟨bs, q2, n2⟩ := readsk_of (big := big) I ds _ _ h2 o2 r2
      exact ⟨_, by unfold toPyk; exact .cons q1 q2, n1.app n2⟩
end
/-- what repr asks of a datum: big where a dict stands within -/
structure Shows (d : D) : Prop where
  ok : okD (toPy d).hasDict d = true
  sh : (toPy d).showable = true
  dp : (toPy d).depth ≤ 60
  sz : (toPy d).shown.length ≤ sizeLine
theorem shown_int (i : Int) : PyData.shown (.int i) = toString i := by unfold PyData.shown; rfl
def rRep (K : PySem.W.Frag) : List V → Hp → VK → Prop := fun xs H Q => ∃ (p : HD) (v : V) (d : D), xs = [v] ∧ DV K p H v d ∧ Shows d ∧ Q (.str (toPy d).shown) H
theorem call_repr (hg : X.A.guards = some []) (hu : X.A.units + 70 < cLine) : CallR X (.builtin "repr") (rRep X.K) := by
  intro pins s σ H xs us Q I r h
  obtain ⟨p, v, d, rfl, dv, S, q⟩ := h
  obtain ⟨u, rfl, ru⟩ := vals1 r
  have sz := S.sz
  have byref : ∀ a, v = .ref a → wpAny (model X.prog X.w) X.A (call (.builtin "repr") [u]) (EP X pins σ Q) X.xe s := fun a e => by
    subst e
    obtain rfl : u = Value.ref a := ru
    obtain ⟨as, q1, q2⟩ := reads_of (big := (toPy d).hasDict) I d _ _ dv S.ok rfl
    exact repr_of_reads' q1 S.sh q2 hg (by have := S.dp; omega) (fun _ _ e => e) (fun h' u tk hk => ⟨.str _, H, I.kept (t' := tk) hk, ⟨u, rfl⟩, q⟩) sz
  cases dv with
  | non =>
    cases ru
    refine PySem.P.repr_of_none ⟨.str _, H, I.tok _, ⟨_, rfl⟩, ?_⟩
    unfold toPy PyData.shown at q
    exact q
  | bl b =>
    cases ru
    refine PySem.P.repr_of_bool ⟨.str _, H, I.tok _, ⟨_, rfl⟩, ?_⟩
    unfold toPy PyData.shown at q
    exact q
  | int i =>
    obtain ⟨t, rfl⟩ := ru
    have hs := S.sh
    unfold toPy PyData.showable at hs
    refine PySem.P.repr_of_int (of_decide_eq_true hs) ⟨.str _, H, I.tok _, ⟨_, rfl⟩, ?_⟩
    unfold toPy PyData.shown at q
    exact q
  | str x =>
    obtain ⟨t, rfl⟩ := ru
    unfold toPy PyData.shown at sz
    refine PySem.P.repr_of_str ⟨.str _, H, I.tok _, ⟨_, rfl⟩, ?_⟩ sz
    unfold toPy PyData.shown at q
    exact q
  | lst _ _ _ => exact byref _ rfl
  | tup _ _ => exact byref _ rfl
  | dct _ _ => exact byref _ rfl
  | «mut» _ => exact absurd S.ok (by unfold okD; exact Bool.false_ne_true)
  | ty _ => exact absurd S.ok (by unfold okD; exact Bool.false_ne_true)
  | cls _ => exact absurd S.ok (by unfold okD; exact Bool.false_ne_true)
  | exn _ _ => exact absurd S.ok (by unfold okD; exact Bool.false_ne_true)
  | obj _ _ => exact absurd S.ok (by unfold okD; exact Bool.false_ne_true)
end
section
variable {K : PySem.W.Frag} {p : HD} {c : PC}
theorem cv_repr {d : D} (h : Shows d) : CV K p (rRep K) [d] (.str (toPy d).shown) true c := fun vs H Q dvs hp k => by
  cases dvs with
  | cons hv r =>
    cases r
    exact ⟨p, _, d, rfl, hv, h, k _ H (Ext.refl p H) hp (.str _) fun _ => New.sc (by intro a h; cases h)⟩
/-! ### all, isinstance, join, list(range) -/
theorem of_bools {H : Hp} : ∀ {vs : List V} {bs : List Bool}, DVs K p H vs (bs.map D.bl) → vs = bs.map V.bl
  | _, [], .nil => rfl
  | _, b :: r, .cons h t => by
    cases h
    rw [of_bools t]
    rfl
theorem cv_all {g : G} {bs : List Bool} : CV K p (rAll K) [.lst g (bs.map D.bl)] (.bl (bs.all id)) true c := fun vs H Q dvs hp k => by
  cases dvs with
  | cons hv r =>
    cases r
    cases hv with
    | lst _ hq ha =>
      rw [of_bools ha] at hq
      exact ⟨_, bs, rfl, un_sqL hq, k _ H (Ext.refl p H) hp (.bl _) fun _ => New.sc (by intro a h; cases h)⟩
/-- the built-in type of a datum -/
def tyD : D → Option String
  | .non => some "NoneType"
  | .bl _ => some "bool"
  | .int _ => some "int"
  | .str _ => some "str"
  | .lst _ _ => some "list"
  | .tup _ => some "tuple"
  | .dct _ => some "dict"
  | .mut _ => none
  | .ty _ => none
  | .cls _ => none
  | .exn _ _ _ => none
  | .obj _ _ => none
end
end LA

namespace LA
open PySem PySem.Spec PyProof.Rows L2
section
variable {X : Cx} {W : WX} {p : HD} {ρ ρ1 : Rho} {c c1 c2 c3 : PC} {e e2 a b o tg : Expr} {es : List Expr} {pos apos : Pos} {d d1 d2 : D} {n1 n2 nw : Bool} {K : PySem.W.Frag}
/-! ### isinstance -/
theorem tyx_of {H : Hp} {v : V} {d : D} {t : String} (h : DV K p H v d) (e : tyD d = some t) : TyX K H v (.type t) := by
  cases h with
  | non => cases e; exact .base .non
  | bl b => cases e; exact .base (.bl b)
  | int i => cases e; exact .base (.int i)
  | str x => cases e; exact .base (.str x)
  | lst _ hq _ =>
    cases e
    rcases un_sqL hq with (h | ⟨o, h⟩) | ⟨o, its, n, hk, hc, _⟩
    · exact .base (.lst h)
    · exact .base (.frz h)
    · exact .kList hk hc
  | tup hq _ =>
    cases e
    rcases un_sqT hq with (h | ⟨o, h⟩) | ⟨o, its, n, hk, hc, _⟩
    · exact .base (.tup h)
    · exact .fTuple h
    · exact .kTuple hk hc
  | dct hq _ =>
    cases e
    rcases un_rd hq with h | ⟨o, h⟩
    · exact .base (.dK h)
    · exact .fDict h
  | «mut» _ => cases e
  | obj _ _ => cases e
  | ty _ => cases e
  | cls _ => cases e
  | exn _ _ => cases e
theorem cv_isi {t n : String} {k : Bool} (hd : tyD d = some t) (hk : kitB t n = some k) : CV K p (rIsi K) [d, .ty n] (.bl k) true c := fun vs H Q dvs hp kk => by
  cases dvs with
  | cons hv r =>
    cases r with
    | cons hv2 r =>
      cases r
      cases hv2
      exact ⟨_, _, _, _, k, rfl, .ty n, tyx_of hv hd, kit_ty hk, kk _ H (Ext.refl p H) hp (.bl _) fun _ => New.sc (by intro a h; cases h)⟩
theorem re_ty {x : Str} {n : String} (hm : X.mg x = none) (hv : bootBuiltins x = some (.type n)) (hg : Gl X x := by rfl) (hn : x ≠ "__name__" := by decide) (hd : (x == ("__debug__" : Str)) = false := by decide) : RE X W p ρ c (.Name x pos) (.val (.ty n) true c) :=
  re_c (pe_bltn (v := .ty n) hg hm hv rfl hn hd) (fun _ => .ty n) (by intro a h; cases h)
/-! ### sep.join(list of texts) -/
theorem re_join {g : G} {sep : Str} {ss : List Str} (ho : RE X W p ρ c o (.val (.str sep) n1 c1)) (he : RE X W p ρ c1 e (.val (.lst g (ss.map D.str)) n2 c2)) (hz : (ss.map (·.length)).sum + ss.length * sep.length ≤ 16777216)
    (hs : starEach [e] X.env = [(false, eval e X.env)] := by rfl) (hbase : attributeBase o "join" X.env (eval o X.env) = eval o X.env := by rfl) (hline : (apos.endLine == pos.line) = true := by rfl) :
    RE X W p ρ c (.Call (.Attribute o "join" apos) [e] [] pos) (.val (.str (Txt.join sep ss)) true c2) :=
  pe_imp (pe_join ho he hs hbase hline) fun σ H Q ⟨s, k⟩ => ⟨s, fun v H1 e1 p1 dv _ => by
    cases dv
    refine ⟨⟨sep, rfl⟩, s.mono e1 p1, fun u H2 e2 p2 du _ => ?_⟩
    cases du with
    | lst _ hq ha =>
      rw [of_strs ha] at hq
      exact ⟨sep, _, ss, rfl, rfl, .inl (un_sqL hq), hz, k _ H2 (e1.trans e2) p2 (.str _) fun _ => New.sc (by intro a h; cases h)⟩⟩
/-! ### list(range(n)) -/
theorem dvs_ints {H : Hp} : ∀ (l : List Nat), DVs K p H (l.map fun i => V.int ((0 : Int) + (i : Nat))) (l.map fun i => D.int ((i : Nat) : Int))
  | [] => .nil
  | i :: r => .cons (by
    show DV K p H (.int ((0 : Int) + (i : Nat))) (.int ((i : Nat) : Int))
    rw [Int.zero_add]
    exact .int _) (dvs_ints r)
theorem re_listRg {pl pr : Pos} {n : Int} (hc : X.calm = true) (ha : RE X W p ρ c e (.val (.int n) nw c1)) (h0 : 0 ≤ n) (h1 : n ≤ 100000) (hm : X.mg "range" = none) (hml : X.mg "list" = none) (hg : Gl X "range" := by rfl) (hgl : Gl X "list" := by rfl)
    (na : starEach [e] X.env = (false, eval e X.env) :: starEach [] X.env := by rfl)
    (nb : starEach [.Call (.Name "range" pr) [e] [] pos] X.env = (false, eval (.Call (.Name "range" pr) [e] [] pos) X.env) :: starEach [] X.env := by rfl) :
    RE X W p ρ c (.Call (.Name "list" pl) [.Call (.Name "range" pr) [e] [] pos] [] apos) (.val (.lst ⟨false, true⟩ (intsD n.toNat)) true c1) :=
  pe_imp (pe_listRg hc hgl hml (prg_1 hg hm ha na) nb) fun σ H Q ⟨s, k⟩ => ⟨s, fun v H1 e1 p1 dv _ => by
    cases dv
    refine ⟨n, rfl, RgOk.of_le (by decide) (by omega) (by decide) h0, fun q hq => ?_⟩
    have dv : DVs X.K p H1 (rgV 0 n) (intsD n.toNat) := by
      unfold rgV intsD
      rw [Int.sub_zero]
      exact dvs_ints _
    exact k _ _ (e1.trans (Ext.new hq)) (p1.upd hq) (.lst ⟨(fun z => nomatch z), fun _ => hide_upd p1 hq⟩ (.inl (.inl (hide_upd p1 hq))) (dv.mono (Ext.new hq))) fun _ => (New.lst p1 hq dv).back e1⟩
/-! ### {k: v}, the key a written text -/
theorem re_dct1 {x : Str} {j : Nat} {kp : Pos} (hv : ∀ q : HD, RE X W q ρ c e (.val d nw c1)) : RE X W p ρ c (.Dict [some (.Constant (.str x) j kp)] [e] pos) (.val (.dct [(.inr x, d)]) true c1) := by
  have N : ∀ (trs : List (TE × TE)), trs = [(tC (.str x), fun σ H Q => ∃ q : HD, tE X.K W q ρ c (.val d nw c1) σ H Q)] → PPs X pos [some (.Constant (.str x) j kp)] [e] trs := fun trs h => by
    subst h
    exact pps_cons pe_str ⟨fun pins s σ H Q I ⟨q, h⟩ => (hv q).run pins s σ H Q I h⟩ pps_nil
  refine pe_imp (pe_disp (N _ rfl) (by rfl) (by rfl) (fun z => by cases z) (by show 1 ≤ 15; decide)) fun σ H Q ⟨s, k⟩ => ?_
  intro L nL
  have pq : PoolAt X.K (p.also L) (upd H L (.dK [])) c := s.pl.also nL
  have nLp : L ∉ p.m := fun z => s.pl.not nL (.inl z)
  refine ⟨p.also L, ⟨s.len, fun i d hd => ?_, pq⟩, fun v H2 e2 p2 dv _ => ?_⟩
  · obtain ⟨v, h1, h2⟩ := s.at' i d hd
    exact ⟨v, h1, (h2.also nL).mono (Ext.new nL)⟩
  · have hL : H2 L = some (.dK []) := e2 L _ nLp upd_same
    have sb : Sub (hide (p.also L) H2) (hide p (upd H2 L (.dK (mergeK [] [(.inr x, v)])))) := fun a o h => by
      obtain ⟨h1, h2⟩ := hide_some h
      have hn : a ≠ L := fun z => h2 (.inr (by rw [z]; exact List.mem_cons_self))
      rw [hide_ne (show ¬ p.hid a from fun z => h2 (z.elim .inl fun m => .inr (List.mem_cons_of_mem _ m))), upd_ne hn]
      exact h1
    refine ⟨hL, [(.inr x, v)], rfl, by show 1 ≤ 15; decide, ?_⟩
    have e1 : Ext p H (upd H2 L (.dK (mergeK [] [(.inr x, v)]))) := fun a o n h => by
      rw [upd_ne (ne_of_none h nL)]
      exact e2 a o n (by rw [upd_ne (ne_of_none h nL)]; exact h)
    refine k _ _ e1 (p2.other List.mem_cons_self nLp).less (.dct (.inl ?_) (.cons (dv.sub sb fun _ _ z => z) .nil)) fun _ => (fun b z => by
      cases z
      exact ⟨⟨nL, nLp⟩, p2.other List.mem_cons_self nLp, fun g ds z => nomatch z⟩)
    rw [hide_ne (s.pl.not nL), upd_same]
    rfl
end
end LA

namespace LA
open PySem PySem.Spec PyProof.Rows L2
/-! ### try with several clauses, each with or without a name -/
/-- a clause: its class, the slot of its name, what its suite reads -/
structure Cl where
  c : Value
  i : Option Nat
  ts : Addr → Value → Option Addr → TS
def inSlot : Option Nat → V → L2.St → L2.St
  | none, _, σ => σ
  | some i, v, σ => σ.set i (some v)
def outSlot : Option Nat → L2.St → L2.St
  | none, σ => σ
  | some i, σ => σ.set i none
def Ends.behind (D : Ends) (i : Option Nat) : Ends := { nx := fun σ' H' => D.nx (outSlot i σ') H', rt := D.rt, bk := fun σ' H' => D.bk (outSlot i σ') H', ct := fun σ' H' => D.ct (outSlot i σ') H' }
def wCl (K : PySem.W.Frag) (Wo : WX) (D : Ends) : List Cl → WX
  | [] => Wo
  | l :: r => fun cls d σ H => ∃ b, PySem.W.exmOne K cls l.c = some b ∧ (b = true → ∀ a, H a = none → l.ts a cls d (Ends.behind D l.i) (inSlot l.i (.ref a) σ) H) ∧ (b = false → wCl K Wo D r cls d σ H)
inductive ClsOk (X : Cx) : List ExceptHandler → List Cl → Prop
  | nil : ClsOk X [] []
  | bare {x : Str} {c : Value} {ts : Addr → Value → Option Addr → TS} {b0 : Stmt} {su : List Stmt} {np hp : Pos} {hs : List ExceptHandler} {l : List Cl} (nm : Names X x c)
      (run : ∀ (a : Addr) (oe : Obj) (cls : Value) (d : Option Addr) (pn : List (Addr × Obj)), Zc cls d oe → (∃ vs, oe.data = .fields vs) → PSs (X.suite a ((a, oe) :: pn)) (b0 :: su) (ts a cls d)) (r : ClsOk X hs l) :
      ClsOk X (.ExceptHandler (some (.Name x np)) none (b0 :: su) hp :: hs) (⟨c, none, ts⟩ :: l)
  | named {x n : Str} {c : Value} {i : Nat} {ts : Addr → Value → Option Addr → TS} {b0 : Stmt} {su : List Stmt} {np hp : Pos} {hs : List ExceptHandler} {l : List Cl} (nm : Names X x c) (hi : X.N[i]? = some n) (hl : X.env.kindOf n = some .local)
      (run : ∀ (a : Addr) (oe : Obj) (cls : Value) (d : Option Addr) (pn : List (Addr × Obj)), Zc cls d oe → (∃ vs, oe.data = .fields vs) → PSs (X.suite a ((a, oe) :: pn)) (b0 :: su) (ts a cls d)) (r : ClsOk X hs l) :
      ClsOk X (.ExceptHandler (some (.Name x np)) (some n) (b0 :: su) hp :: hs) (⟨c, some i, ts⟩ :: l)
section
variable {X : Cx} {body : List Stmt} {h0 : ExceptHandler} {hs : List ExceptHandler} {l : List Cl} {pos : Pos} {tb : WX → TS} {Wo : WX}
theorem ps_tryCl (hst : X.stack = X.env :: X.outer) (hfr : X.env.frame = some X.env.locals) (hN : X.N.Nodup) (tk : Takes X Wo)
    (hb : ∀ (W : WX) (pn : List (Addr × Obj)) (xe : Value → Shared → Prop), Takes (X.tr pn xe) W → PassesOwn (model X.prog X.w) X.A X.env xe → PSs (X.tr pn xe) body (tb W))
    (hh : ClsOk X (h0 :: hs) l) : PS X (.Try body (h0 :: hs) [] [] pos) (fun D σ H => tb (wCl X.K Wo D l) D σ H) := by
  refine ⟨fun pins s σ H D I hw => ?_⟩
  have OK := I.ok
  have fr2 : X.A.frames = some (X.env :: X.outer) := OK.frames.trans (by rw [hst])
  refine wpAny_Try_except (wpAny_mono ((hb (wCl X.K Wo D l) (X.pn ++ pins) (fun ev sa => wpAny (model X.prog X.w) X.A (noteFrame ev X.env) (fun _ sb => wpAny (model X.prog X.w) X.A (setFlight ev none) (fun _ sc =>
    wpAny (model X.prog X.w) X.A (handleBy ev X.env (h0 :: hs)) (SP X pins D) X.xe sc) X.xe sb) X.xe sa) (fun u sr xx => ?_) PassesOwn.looking).run [] s σ H D (I.toTry _) hw) (fun fl sr q => ?_) fun ev sr q => q)
  · obtain ⟨a, B, sI, pins', σ1, H1, cls, d, rfl, J1, nb, up, sky, na, os, ag, wish⟩ := xx
    have JA : Inv X pins σ1 H1 sI := J1.ofTry OK
    have skyA : Sky B (X.env :: X.outer) a (Zc cls d) X.env.locals sr.heap := by
      rw [← hst]
      exact sky
    show wpAny (model X.prog X.w) X.A (noteFrame (.ref a) X.env) _ _ _
    refine Sky.land Zc.steady fr2 hfr skyA fun hp3 fly upB => ?_
    have JB : Inv X pins σ1 H1 { sr with heap := hp3 } := JA.landed nb fly.1 (up.trans upB) os ag
    obtain ⟨ob, fv, g1, g2, g3⟩ := fly.there
    have notIn : ∀ {hp : Heap} {o : Obj} {ws : Array Value}, hp.FunFrames B (X.env :: X.outer) → hp.get? a = some o → o.data = .fields ws → a ∉ frs (X.env :: X.outer) := fun {hp o ws} ff y z m => by
      obtain ⟨_, o2, y2, nf⟩ := ff.mem m
      rw [y] at y2
      cases y2
      exact nf _ z
    have nAll := notIn fly.2.2.1 g1 g3
    have nLoc : a ≠ X.env.locals := fun z => nAll (List.mem_filterMap.mpr ⟨X.env, List.mem_cons_self, by rw [hfr, z]⟩)
    have nFs : a ∉ X.fs := fun m => by
      obtain ⟨en, hen, z⟩ := List.mem_filterMap.mp m
      exact nAll (List.mem_filterMap.mpr ⟨en, List.mem_cons_of_mem _ hen, z⟩)
    have SB := JB.suite g1 g3 na nLoc nFs
    have seen : ∀ {x : Str} {np : Pos} {c : Value} {Q : Value → Shared → Prop} {E : Value → Shared → Prop}, Names X x c → Q c { sr with heap := hp3 } → wpAny (model X.prog X.w) (X.A.mark (some (.ref a))) (eval (.Name x np) X.env) Q E { sr with heap := hp3 } := fun {x np c Q E} nm q => by
      obtain ⟨hg, hd, hm | ⟨hm, hv, hnn⟩⟩ := nm
      · exact ld_glob (X := X.suite a ((a, ob) :: (X.pn ++ pins))) SB hg hm q hd
      · exact ld_blt (X := X.suite a ((a, ob) :: (X.pn ++ pins))) SB hg hm hv q hnn hd
    have walk : ∀ {hs' : List ExceptHandler} {l' : List Cl}, ClsOk X hs' l' → wCl X.K Wo D l' cls d σ1 H1 → wpAny (model X.prog X.w) X.A (handleBy (.ref a) X.env hs') (SP X pins D) X.xe { sr with heap := hp3 } := by
      intro hs' l' ck
      induction ck with
      | nil =>
        intro wz
        refine wpAny_handleBy_nil ?_
        obtain ⟨z1, z2, z3, oe, vs, T, oT, tz, ho, hz, hdat, hf1, hrst⟩ := id fly
        unfold PySem.passOn
        refine wpAny_bind (wpAny_field ho hdat hf1 ?_)
        rw [if_neg (show ¬ ((Value.ref T == Value.none) = true) by simp)]
        have onw : wpAny (model X.prog X.w) X.A (setFlight (.ref a) X.env.frame) (fun _ sd => wpAny (model X.prog X.w) X.A (throw (.ref a) : Sem Flow) (SP X pins D) X.xe sd) X.xe { sr with heap := hp3 } := by
          rw [hfr]
          refine HandSPX.setFlight_upZ fly fun hp4 held upC => wpAny_throw (tk _ _ ?_)
          exact ⟨a, B, sI, pins, σ1, H1, cls, d, rfl, JA, nb, (up.trans upB).trans upC, .inr (.inr (by rw [hst]; exact held)), na, os, ag, wz⟩
        first
          | exact wpAny_bind (wpAny_pure (wpAny_bind onw))
          | exact wpAny_bind onw
      | @bare x c ts b0 su np hp hs2 l2 nm run r ih =>
        intro wz
        obtain ⟨b, hb1, yes, no⟩ := wz
        refine wpAny_handleBy_cons (codeAny_handlers_test ?_) (by intro z; cases z)
        have LT : PySem.W.Looks (model X.prog X.w) hp3 (typeOf (.ref a)) cls := fun A Q E s' kp q => wpAny_typeOf_ref (kp _ _ g1) (by rw [g2.1]; exact q)
        refine seen nm ((PySem.W.exm_one (M := model X.prog X.w) JB.kIn LT hb1).here ?_)
        cases b with
        | false =>
          show wpAny _ X.A (handleBy (.ref a) X.env hs2) _ _ _
          exact ih (no rfl)
        | true =>
          refine codeAny_handlers_suite ?_
          refine HandSPX.lands_againZ fly fun hp4 fly4 upC => ?_
          have JC : Inv X pins σ1 H1 { sr with heap := hp4 } := JA.landed nb fly4.1 ((up.trans upB).trans upC) os ag
          obtain ⟨o4, w4, y4, z4, d4⟩ := fly4.there
          refine wpAny_mono ((run a o4 cls d (X.pn ++ pins) z4 ⟨_, d4⟩).run [] _ _ H1 _ (JC.suite y4 d4 na nLoc nFs) (yes rfl a na)) (fun fl st q => ?_) fun _ _ z => False.elim z
          cases fl with
          | next => obtain ⟨σ6, H6, S6, q6⟩ := q; exact ⟨σ6, H6, S6.unsuite OK, q6⟩
          | brk => obtain ⟨σ6, H6, S6, q6⟩ := q; exact ⟨σ6, H6, S6.unsuite OK, q6⟩
          | cont => obtain ⟨σ6, H6, S6, q6⟩ := q; exact ⟨σ6, H6, S6.unsuite OK, q6⟩
          | ret u => obtain ⟨v6, σ6, H6, S6, r6, q6⟩ := q; exact ⟨v6, σ6, H6, S6.unsuite OK, r6, q6⟩
      | @named x n c i ts b0 su np hp hs2 l2 nm hi hl run r ih =>
        intro wz
        obtain ⟨b, hb1, yes, no⟩ := wz
        refine wpAny_handleBy_cons (codeAny_handlers_test ?_) (by intro z; cases z)
        have LT : PySem.W.Looks (model X.prog X.w) hp3 (typeOf (.ref a)) cls := fun A Q E s' kp q => wpAny_typeOf_ref (kp _ _ g1) (by rw [g2.1]; exact q)
        refine seen nm ((PySem.W.exm_one (M := model X.prog X.w) JB.kIn LT hb1).here ?_)
        cases b with
        | false =>
          show wpAny _ X.A (handleBy (.ref a) X.env hs2) _ _ _
          exact ih (no rfl)
        | true =>
          refine codeAny_handlers_suite_as ?_
          refine HandSPX.lands_againZ fly fun hp4 fly4 upC => ?_
          have JC : Inv X pins σ1 H1 { sr with heap := hp4 } := JA.landed nb fly4.1 ((up.trans upB).trans upC) os ag
          obtain ⟨o4, w4, y4, z4, d4⟩ := fly4.there
          refine store_ok (X := X.suite a ((a, o4) :: (X.pn ++ pins))) (v := .ref a) (JC.suite y4 d4 na nLoc nFs) hN hi (.inl hl) rfl (fun s5 S5 => ?_) (.inr hl)
          refine wpAny_mono ((run a o4 cls d (X.pn ++ pins) z4 ⟨_, d4⟩).run [] s5 _ H1 _ S5 (yes rfl a na)) (fun fl st q => ?_) fun _ _ z => False.elim z
          have close : ∀ {σ6 : L2.St} {H6 : Hp} {Q : Shared → Prop}, Inv (X.suite a ((a, o4) :: (X.pn ++ pins))) [] σ6 H6 st → (∀ s7, Inv X pins (σ6.set i none) H6 s7 → Q s7) →
              wpAny (model X.prog X.w) X.A (do bindName X.env n .none; unbindBehindTheSuite X.env n hp) (fun _ s7 => Q s7) X.xe st := fun {σ6 H6 Q} S6 hq => gone_ok (S6.unsuite OK) hN hi hl hq
          cases fl with
          | next => obtain ⟨σ6, H6, S6, q6⟩ := q; exact close S6 fun s7 J7 => ⟨_, H6, J7, q6⟩
          | brk => obtain ⟨σ6, H6, S6, q6⟩ := q; exact close S6 fun s7 J7 => ⟨_, H6, J7, q6⟩
          | cont => obtain ⟨σ6, H6, S6, q6⟩ := q; exact close S6 fun s7 J7 => ⟨_, H6, J7, q6⟩
          | ret u => obtain ⟨v6, σ6, H6, S6, r6, q6⟩ := q; exact close S6 fun s7 J7 => ⟨v6, _, H6, J7, r6, q6⟩
    exact walk hh wish
  · cases fl with
    | next => obtain ⟨σ6, H6, J6, q6⟩ := q; exact wpAny_execs_nil ⟨σ6, H6, J6.ofTry OK, q6⟩
    | brk => obtain ⟨σ6, H6, J6, q6⟩ := q; exact ⟨σ6, H6, J6.ofTry OK, q6⟩
    | cont => obtain ⟨σ6, H6, J6, q6⟩ := q; exact ⟨σ6, H6, J6.ofTry OK, q6⟩
    | ret u => obtain ⟨v6, σ6, H6, J6, r6, q6⟩ := q; exact ⟨v6, σ6, H6, J6.ofTry OK, r6, q6⟩
end
end LA

namespace LA
open PySem PySem.Spec PyProof.Rows L2
/-! ### exceptions with fields -/
/-- __init__(self, y): self.f = y -/
def spIni1 (K : PySem.W.Frag) (f : Str) : Sp := fun vs H Q _ => ∃ (a C : Addr) (y : V), vs = [.ref a, y] ∧ OexC K C ∧ PySem.W.findIn K (.ref C) f = some none ∧ H a = some (exo a C none) ∧
  ∀ dx, H dx = none → dx ≠ a → Q .non (upd (upd H dx (exd dx [(f, y)])) a (exo a C (some dx)))
/-- __init__(self, y, z): self.f = y; self.g = z -/
def spIni2 (K : PySem.W.Frag) (f g : Str) : Sp := fun vs H Q _ => ∃ (a C : Addr) (y z : V), vs = [.ref a, y, z] ∧ OexC K C ∧ PySem.W.findIn K (.ref C) f = some none ∧ PySem.W.findIn K (.ref C) g = some none ∧ H a = some (exo a C none) ∧
  ∀ dx, H dx = none → dx ≠ a → Q .non (upd (upd (upd H dx (exd dx [(f, y)])) a (exo a C (some dx))) dx (exd dx [(g, z), (f, y)]))
section
variable {P : Program} {w : World} {K : PySem.W.Frag} {mg : Str → Option Value} {base : Heap} {qual : Str} {st : Stmt} {fI : Addr} {fd : FuncData}
theorem vis_of {N ps : List Str} {sc : Scope} (S : FnScope N ps sc) {x : Str} (h : x ∈ ps) : Vis sc x := (S.par x h).elim .inl fun z => .inr (.inl z)
theorem ok_ini1 {f pn : Str} {q1 q2 q3 q4 : Pos} (F : Fun K "__init__" qual st fI fd) (S : FnScope ["self", pn] ["self", pn] (defScope st)) (hb : defBody st = [.Assign [.Attribute (.Name "self" q1) f q2] (.Name pn q3) q4])
    (h1 : (pn == ("__debug__" : Str)) = false) (h2 : (pn == ("__classdict__" : Str)) = false) : FnOk P w K mg base CX0 1 fI fd ["self", pn] (spIni1 K f) := by
  refine F.ok S (fun vs H Q E h => ?_) (fun cdv A outer s H vs Q E hr h => ?_)
  · obtain ⟨a, C, y, rfl, _⟩ := h
    rfl
  · obtain ⟨a, C, y, rfl, T, hno, ha, k⟩ := h
    rw [hb]
    refine ⟨_, pss_one (ps_ost (pv 0 (hv := vis_of S (List.mem_cons_self ..))) (pv 1 (hN := rfl) (hv := vis_of S (List.mem_cons_of_mem _ (List.mem_cons_self ..))) (hd := h1) (hcd := h2))), ?_⟩
    exact ⟨y, rfl, .ref a, rfl, a, C, rfl, T, hno, .inl ⟨ha, fun dx n ne => k dx n ne⟩⟩
theorem ok_ini2 {f g pn pm : Str} {q1 q2 q3 q4 r1 r2 r3 r4 : Pos} (F : Fun K "__init__" qual st fI fd) (S : FnScope ["self", pn, pm] ["self", pn, pm] (defScope st))
    (hb : defBody st = [.Assign [.Attribute (.Name "self" q1) f q2] (.Name pn q3) q4, .Assign [.Attribute (.Name "self" r1) g r2] (.Name pm r3) r4])
    (h1 : (pn == ("__debug__" : Str)) = false) (h2 : (pn == ("__classdict__" : Str)) = false) (h3 : (pm == ("__debug__" : Str)) = false) (h4 : (pm == ("__classdict__" : Str)) = false) : FnOk P w K mg base CX0 1 fI fd ["self", pn, pm] (spIni2 K f g) := by
  refine F.ok S (fun vs H Q E h => ?_) (fun cdv A outer s H vs Q E hr h => ?_)
  · obtain ⟨a, C, y, z, rfl, _⟩ := h
    rfl
  · obtain ⟨a, C, y, z, rfl, T, hno, hno2, ha, k⟩ := h
    rw [hb]
    have m1 : pn ∈ (["self", pn, pm] : List Str) := List.mem_cons_of_mem _ (List.mem_cons_self ..)
    have m2 : pm ∈ (["self", pn, pm] : List Str) := List.mem_cons_of_mem _ (List.mem_cons_of_mem _ (List.mem_cons_self ..))
    refine ⟨_, pss_cons (ps_ost (pv 0 (hv := vis_of S (List.mem_cons_self ..))) (pv 1 (hN := rfl) (hv := vis_of S m1) (hd := h1) (hcd := h2)))
      (pss_one (ps_ost (pv 0 (hv := vis_of S (List.mem_cons_self ..))) (pv 2 (hN := rfl) (hv := vis_of S m2) (hd := h3) (hcd := h4)))), ?_⟩
    refine ⟨y, rfl, .ref a, rfl, a, C, rfl, T, hno, .inl ⟨ha, fun dx n ne => ?_⟩⟩
    exact ⟨z, rfl, .ref a, rfl, a, C, rfl, T, hno2, .inr ⟨dx, [(f, y)], upd_same, by rw [upd_ne ne]; exact upd_same, (by show 1 ≤ 900; decide), k dx n ne⟩⟩
end
section
variable {X : Cx} {W : WX} {p : HD} {ρ : Rho} {c c1 c2 : PC} {e e2 : Expr} {pos pos2 xp : Pos} {d d2 : D} {n1 n2 : Bool} {x f g pn pm : Str} {C fI : Addr} {fd : FuncData} {k : Nat}
/-- the heap when the exception has left, by what it has in sight -/
theorem fin_ex {K : PySem.W.Frag} {H1 G : Hp} {a dx : Addr} {fs : List (Str × V)} (na : H1 a = none) (nd : H1 dx = none) (hG : ∀ b, b ≠ a → b ≠ dx → G b = H1 b) (hp : PoolAt K p H1 c) : Ext p H1 (upd (L2.del G a) dx (.xd fs)) ∧ PoolAt K p (upd (L2.del G a) dx (.xd fs)) c ∧ hide p (upd (L2.del G a) dx (.xd fs)) dx = some (.xd fs) := by
  have at' : ∀ b, b ≠ a → b ≠ dx → upd (L2.del G a) dx (.xd fs) b = H1 b := fun b h1 h2 => by
    rw [upd_ne h2, del_ne h1, hG b h1 h2]
  have e : Ext p H1 (upd (L2.del G a) dx (.xd fs)) := fun b o _ h => by
    rw [at' b (ne_of_none h na) (ne_of_none h nd)]
    exact h
  refine ⟨e, ⟨⟨hp.1.1, hp.1.2.1, fun i b x h1 h2 => ?_⟩, fun b z => ?_⟩, ?_⟩
  · obtain ⟨o, q⟩ := hp.ex (List.mem_of_getElem? h1)
    exact (hp.1.2.2 i b x h1 h2).sub e.hide (at' b (ne_of_none q na) (ne_of_none q nd))
  · obtain ⟨o, q⟩ := hp.2 b z
    exact ⟨o, by rw [at' b (ne_of_none q na) (ne_of_none q nd)]; exact q⟩
  · rw [hide_ne (hp.not nd), upd_same]
theorem rs_raise1 (hc : X.calm = true) (tk : Takes X W) (T : OexC X.K C) (hno : PySem.W.findIn X.K (.ref C) f = some none) (iC : PySem.W.findIn X.K (.ref C) "__init__" = some (some (.ref fI))) (tI : PySem.W.typeIn X.K (.ref fI) = some (.type "function"))
    (F1 : FnOk X.prog X.w X.K X.mg X.base CX0 k fI fd ["self", pn] (spIni1 X.K f)) (hr : Room (k + 1) X.A) (hb : Binds X.K fd ["self", pn] []) (hm : X.mg x = some (.ref C)) (he : RE X W p ρ c e (.val d n1 c1)) (hg : Gl X x := by rfl)
    (hdb : (x == ("__debug__" : Str)) = false := by decide) (hs : starEach (e :: []) X.env = (false, eval e X.env) :: starEach [] X.env := by rfl) (hpl : (backTo pos (starEach [] X.env)).any (·.1) = false := by rfl) :
    RS X W p ρ c (.Raise (some (.Call (.Name x xp) [e] [] pos)) none pos2) (.ex C [(f, d)] c1) :=
  ps_imp (ps_raise hc tk (pmk_oex T iC tI F1 hr hb .nil pass0 hg hm (ra_cons (W := W) he (ra_nil (W := W)) hs) hdb hs hpl)) fun De σ H h => ⟨h.1, fun vs H1 e1 p1 dvs => by
    cases dvs with
    | @cons y _ _ _ dy r =>
      cases r
      refine ⟨by show 1 ≤ 1000; decide, fun a na => ⟨a, C, y, rfl, T, hno, upd_same, fun dx n ne => ⟨rfl, dx, [(f, y)], upd_same, by rw [upd_ne ne]; exact upd_same, ?_, ?_⟩⟩⟩
      · rw [upd_ne ne] at n
        exact n
      · have nd : H1 dx = none := by
          rw [upd_ne ne] at n
          exact n
        obtain ⟨q1, q2, q3⟩ := fin_ex (p := p) (fs := [(f, y)]) na nd (G := upd (upd (upd H1 a (exo a C none)) dx (exd dx [(f, y)])) a (exo a C (some dx))) (fun b h1 h2 => by rw [upd_ne h1, upd_ne h2, upd_ne h1]) p1
        exact h.2 ρ dx [(f, y)] σ _ (e1.trans q1) (h.1.mono (e1.trans q1) q2) rfl q3 (.cons (dy.mono q1) .nil)⟩
theorem rs_raise2 (hc : X.calm = true) (tk : Takes X W) (T : OexC X.K C) (hno : PySem.W.findIn X.K (.ref C) f = some none) (hno2 : PySem.W.findIn X.K (.ref C) g = some none) (iC : PySem.W.findIn X.K (.ref C) "__init__" = some (some (.ref fI))) (tI : PySem.W.typeIn X.K (.ref fI) = some (.type "function"))
    (F1 : FnOk X.prog X.w X.K X.mg X.base CX0 k fI fd ["self", pn, pm] (spIni2 X.K f g)) (hr : Room (k + 1) X.A) (hb : Binds X.K fd ["self", pn, pm] []) (hm : X.mg x = some (.ref C)) (he : RE X W p ρ c e (.val d n1 c1)) (he2 : RE X W p ρ c1 e2 (.val d2 n2 c2)) (hg : Gl X x := by rfl)
    (hdb : (x == ("__debug__" : Str)) = false := by decide) (hs : starEach (e :: [e2]) X.env = (false, eval e X.env) :: starEach [e2] X.env := by rfl) (hs2 : starEach (e2 :: []) X.env = (false, eval e2 X.env) :: starEach [] X.env := by rfl) (hpl : (backTo pos (starEach [e2] X.env)).any (·.1) = false := by rfl) :
    RS X W p ρ c (.Raise (some (.Call (.Name x xp) [e, e2] [] pos)) none pos2) (.ex C [(g, d2), (f, d)] c2) :=
  ps_imp (ps_raise hc tk (pmk_oex T iC tI F1 hr hb .nil pass0 hg hm (ra_cons (W := W) he (ra_cons (W := W) he2 (ra_nil (W := W)) hs2) hs) hdb hs hpl)) fun De σ H h => ⟨h.1, fun vs H1 e1 p1 dvs => by
    cases dvs with
    | @cons y _ _ _ dy r =>
      cases r with
      | @cons z _ _ _ dz r =>
        cases r
        refine ⟨by show 2 ≤ 1000; decide, fun a na => ⟨a, C, y, z, rfl, T, hno, hno2, upd_same, fun dx n ne => ?_⟩⟩
        have nd : H1 dx = none := by
          rw [upd_ne ne] at n
          exact n
        refine ⟨rfl, dx, [(g, z), (f, y)], by rw [upd_ne (Ne.symm ne)]; exact upd_same, upd_same, nd, ?_⟩
        obtain ⟨q1, q2, q3⟩ := fin_ex (p := p) (fs := [(g, z), (f, y)]) na nd (G := upd (upd (upd (upd H1 a (exo a C none)) dx (exd dx [(f, y)])) a (exo a C (some dx))) dx (exd dx [(g, z), (f, y)])) (fun b h1 h2 => by rw [upd_ne h2, upd_ne h1, upd_ne h2, upd_ne h1]) p1
        exact h.2 ρ dx _ σ _ (e1.trans q1) (h.1.mono (e1.trans q1) q2) rfl q3 (.cons (dz.mono q1) (.cons (dy.mono q1) .nil))⟩
end
/-! ### the field of a caught exception -/
theorem re_xf {X : Cx} {a C dx : Addr} {oe : Obj} {cls : Value} {pn : List (Addr × Obj)} {e : Expr} {pos : Pos} {n : Str} {p : HD} {ρ : Rho} {c c1 : PC} {fs : List (Str × D)} {d : D} {nw : Bool} {W : WX} (T : XfC X.K C) (hno : PySem.W.findIn X.K (.ref C) n = some none) (hz : Zc cls (some dx) oe) (hf : ∃ vs, oe.data = .fields vs) (hc : cls = .ref C)
    (he : RE (X.suite a ((a, oe) :: pn)) W p ρ c e (.val (.exn a dx fs) nw c1)) (hl : fs.lookup n = some d) (hb : attributeBase e n X.env (eval e X.env) = eval e X.env := by rfl) : RE (X.suite a ((a, oe) :: pn)) W p ρ c (.Attribute e n pos) (.val d false c1) :=
  pe_imp (pe_xf T hno hz hf he hb) fun σ H Q ⟨s, k⟩ => ⟨s, fun v H1 e1 p1 dv _ => by
    cases dv with
    | exn hx hfv =>
      obtain ⟨y, h1, h2⟩ := hfv.get hl
      exact ⟨rfl, hc, dx, _, y, rfl, (hide_some hx).1, h1, k y H1 e1 p1 h2 fun q => nomatch q⟩⟩
end LA

namespace LA
open PySem PySem.Spec PyProof.Rows L2
/-! ### for over an iterator of data -/
section
variable {X : Cx} {W : WX} {p : HD} {ρ : Rho} {c : PC} {tg it : Expr} {body : List Stmt} {pos : Pos} {xs : List D} {g : TG} {vs : List Nat}
/-- n turns go on, then the end or a turn that returns -/
theorem rs_for (n : Nat) (ρs ρt : Nat → Rho) (cs : Nat → PC) (o : SO) (hp : PassesOwn (model X.prog X.w) X.A X.env X.xe) (hc : X.calm = true) (h0 : ρs 0 = ρ) (hi : RI X W p ρ c tg it xs (cs 0)) (hg : PG X tg g)
    (htg : ∀ i d, xs[i]? = some d → i ≤ n → TgOk X.K g vs d (ρs i) (ρt i))
    (hb : ∀ i d, xs[i]? = some d → i < n → RSs X W p (ρt i) (cs i) body (.nx (ρs (i + 1)) (cs (i + 1))))
    (hend : (n = xs.length ∧ o = .nx (ρs n) (cs n)) ∨ ∃ d dd nw cc, xs[n]? = some d ∧ o = .rt dd nw cc ∧ RSs X W p (ρt n) (cs n) body o)
    (hs : ∀ x, foldedSetIterable it X.env x = pure x := by intro _; rfl) : RS X W p ρ c (.For tg it body [] pos) o := by
  subst h0
  have hn : n ≤ xs.length := by
    rcases hend with ⟨h, _⟩ | ⟨d, _, _, _, h, _⟩
    · omega
    · have := (List.getElem?_eq_some_iff.mp h).1
      omega
  have PU : PSs X body (fun De σ H => ∃ (i : Nat) (so : SO), RSs X W p (ρt i) (cs i) body so ∧ tSt X.K W p (ρt i) (cs i) so De σ H) := ⟨fun pins s σ H De I ⟨i, so, h1, h2⟩ => h1.run pins s σ H De I h2⟩
  refine ps_imp (ps_for hp hc hi hg PU hs) fun De σ H h => ?_
  refine ⟨st_sr h, fun J H1 e1 p1 yl => ?_⟩
  refine ⟨fun i m σ2 H2 => m = xs.length - i ∧ i ≤ n ∧ Ext p H1 H2 ∧ SR X.K p H2 σ2 (ρs i) (cs i), ⟨xs.length, by simp, Nat.zero_le _, Ext.refl _ _, (st_sr h).mono e1 p1⟩, ?_⟩
  rintro i m σ2 H2 ⟨rfl, hi', e2, s2⟩
  obtain ⟨hstop, hgo⟩ := yl p (cs i) H2 rfl e2.hide s2.pl
  by_cases hlt : i < n
  · have hd : xs[i]? = some (xs[i]'(Nat.lt_of_lt_of_le hlt hn)) := List.getElem?_eq_getElem _
    obtain ⟨g1, g2⟩ := hgo i _ hd
    refine .inr ⟨g1, fun σ' H' => Ext p H1 H' ∧ SR X.K p H' σ' (ρs (i + 1)) (cs (i + 1)), fun σ' H' ⟨a1, a2⟩ => ⟨xs.length - (i + 1), by omega, rfl, hlt, a1, a2⟩, fun x H3 hy => ?_⟩
    obtain ⟨e3, p3, dx⟩ := g2 x H3 hy
    refine (htg i _ hd hi').run p (cs i) x _ H3 _ dx (s2.mono e3 p3) p3 fun σ3 s3 _ => ⟨i, _, hb i _ hd hlt, s3, fun σ4 H4 e4 s4 => ⟨(e2.trans e3).trans e4, s4⟩⟩
  · have e : i = n := by omega
    subst e
    rcases hend with ⟨h1, h2⟩ | ⟨d, dd, nw, cc, h1, h2, h3⟩
    · subst h2
      rw [← h1] at hstop
      exact .inl ⟨hstop, h.2 σ2 H2 (e1.trans e2) s2⟩
    · subst h2
      obtain ⟨g1, g2⟩ := hgo i _ h1
      refine .inr ⟨g1, fun _ _ => False, fun _ _ z => z.elim, fun x H3 hy => ?_⟩
      obtain ⟨e3, p3, dx⟩ := g2 x H3 hy
      refine (htg i _ h1 hi').run p (cs i) x _ H3 _ dx (s2.mono e3 p3) p3 fun σ3 s3 _ => ⟨i, _, h3, s3, fun v H4 e4 p4 dv hn' => ?_⟩
      have e04 : Ext p H H4 := e1.trans (e2.trans (e3.trans e4))
      exact h.2 v H4 e04 p4 dv fun q => (hn' q).back (e1.trans (e2.trans e3))
theorem rs_for_all (ρs ρt : Nat → Rho) (cs : Nat → PC) (hp : PassesOwn (model X.prog X.w) X.A X.env X.xe) (hc : X.calm = true) (h0 : ρs 0 = ρ) (hi : RI X W p ρ c tg it xs (cs 0)) (hg : PG X tg g)
    (htg : ∀ i d, xs[i]? = some d → TgOk X.K g vs d (ρs i) (ρt i))
    (hb : ∀ i d, xs[i]? = some d → RSs X W p (ρt i) (cs i) body (.nx (ρs (i + 1)) (cs (i + 1))))
    (hs : ∀ x, foldedSetIterable it X.env x = pure x := by intro _; rfl) : RS X W p ρ c (.For tg it body [] pos) (.nx (ρs xs.length) (cs xs.length)) :=
  rs_for xs.length ρs ρt cs _ hp hc h0 hi hg (fun i d h _ => htg i d h) (fun i d h _ => hb i d h) (.inl ⟨rfl, rfl⟩) hs
end
/-! ### try -/
inductive Picks (K : PySem.W.Frag) (c : Value) : List Cl → Cl → Prop
  | here {l : Cl} {r : List Cl} : PySem.W.exmOne K c l.c = some true → Picks K c (l :: r) l
  | there {l m : Cl} {r : List Cl} : PySem.W.exmOne K c l.c = some false → Picks K c r m → Picks K c (l :: r) m
theorem wCl_of {K : PySem.W.Frag} {Wo : WX} {De : Ends} {cls : Value} {d : Option Addr} {σ : L2.St} {H : Hp} {m : Cl} : ∀ {l : List Cl}, Picks K cls l m → (∀ a, H a = none → m.ts a cls d (Ends.behind De m.i) (inSlot m.i (.ref a) σ) H) → wCl K Wo De l cls d σ H
  | _, .here h, k => ⟨true, h, (fun _ => k), fun z => nomatch z⟩
  | _, .there h r, k => ⟨false, h, (fun z => nomatch z), fun _ => wCl_of r k⟩
def blank (n : Nat) : Rho := List.replicate n none
theorem SR.blank {K : PySem.W.Frag} {p : HD} {H : Hp} {σ : L2.St} {ρ : Rho} {c : PC} (s : SR K p H σ ρ c) {n : Nat} (hn : ρ.length = n) : SR K p H σ (LA.blank n) c :=
  ⟨by unfold LA.blank; rw [List.length_replicate, ← hn]; exact s.len, (fun i d h => by
    unfold LA.blank at h
    rw [List.getElem?_replicate] at h
    split at h
    · cases h
    · cases h), s.pl⟩
section
variable {X : Cx} {W : WX} {p : HD} {ρ : Rho} {c c1 c2 : PC} {body : List Stmt} {h0 : ExceptHandler} {hs : List ExceptHandler} {l : List Cl} {pos : Pos} {o : SO} {d : D} {nw : Bool} {C : Addr} {fs : List (Str × D)}
/-- what a suite with the exception in slot i is read by -/
def tsD (K : PySem.W.Frag) (W : WX) (p : HD) (n : Nat) (C : Addr) (fs : List (Str × D)) (c1 : PC) (i : Option Nat) (o : SO) : Addr → Value → Option Addr → TS := fun a cls dd De σ H =>
  cls = .ref C ∧ ∃ dx, dd = some dx ∧ tSt K W p (match i with | none => blank n | some i => (blank n).set i (some (.exn a dx fs))) c1 o De σ H
theorem rs_try (hst : X.stack = X.env :: X.outer) (hfr : X.env.frame = some X.env.locals) (hN : X.N.Nodup) (tk : Takes X W)
    (hb : ∀ (W' : WX) (pn : List (Addr × Obj)) (xe : Value → Shared → Prop), Takes (X.tr pn xe) W' → PassesOwn (model X.prog X.w) X.A X.env xe → RSs (X.tr pn xe) W' p ρ c body (.rt d nw c1))
    (hh : ClsOk X (h0 :: hs) l) : RS X W p ρ c (.Try body (h0 :: hs) [] [] pos) (.rt d nw c1) :=
  ps_imp (ps_tryCl (tb := fun W' => tSt X.K W' p ρ c (.rt d nw c1)) hst hfr hN tk hb hh) fun De σ H h => h
theorem rs_tryX {i : Nat} (hst : X.stack = X.env :: X.outer) (hfr : X.env.frame = some X.env.locals) (hN : X.N.Nodup) (tk : Takes X W)
    (hb : ∀ (W' : WX) (pn : List (Addr × Obj)) (xe : Value → Shared → Prop), Takes (X.tr pn xe) W' → PassesOwn (model X.prog X.w) X.A X.env xe → RSs (X.tr pn xe) W' p ρ c body (.ex C fs c1))
    (hh : ClsOk X (h0 :: hs) l) {cv : Value} (pk : Picks X.K (.ref C) l ⟨cv, some i, tsD X.K W p ρ.length C fs c1 (some i) (.rt d nw c2)⟩) : RS X W p ρ c (.Try body (h0 :: hs) [] [] pos) (.rt d nw c2) :=
  ps_imp (ps_tryCl (tb := fun W' => tSt X.K W' p ρ c (.ex C fs c1)) hst hfr hN tk hb hh) fun De σ H h => ⟨h.1, fun ρ' dx fv σ1 H1 e1 s1 hl hx hf => wCl_of pk fun a na =>
    ⟨rfl, dx, rfl, (s1.blank hl).set i (.exn hx hf), fun v H2 e2 p2 dv hn => h.2 v H2 (e1.trans e2) p2 dv fun q => (hn q).back e1⟩⟩
/-- the suites of the clauses: one that is never come to -/
theorem cl_no {x n : Str} {cv : Value} {i : Nat} {b0 : Stmt} {su : List Stmt} {np hp : Pos} (nm : Names X x cv) (hi : X.N[i]? = some n) (hl : X.env.kindOf n = some .local) (r : ClsOk X hs l) :
    ClsOk X (.ExceptHandler (some (.Name x np)) (some n) (b0 :: su) hp :: hs) (⟨cv, some i, fun _ _ _ => tNever⟩ :: l) := .named nm hi hl (fun _ _ _ _ _ _ _ => pss_never) r
theorem cl_no0 {x : Str} {cv : Value} {b0 : Stmt} {su : List Stmt} {np hp : Pos} (nm : Names X x cv) (r : ClsOk X hs l) :
    ClsOk X (.ExceptHandler (some (.Name x np)) none (b0 :: su) hp :: hs) (⟨cv, none, fun _ _ _ => tNever⟩ :: l) := .bare nm (fun _ _ _ _ _ _ _ => pss_never) r
theorem cl_yes {x n : Str} {cv : Value} {i m : Nat} {b0 : Stmt} {su : List Stmt} {np hp : Pos} (nm : Names X x cv) (hi : X.N[i]? = some n) (hl : X.env.kindOf n = some .local)
    (run : ∀ (a dx : Addr) (oe : Obj) (pn : List (Addr × Obj)), Zc (.ref C) (some dx) oe → (∃ vs, oe.data = .fields vs) → RSs (X.suite a ((a, oe) :: pn)) W p ((blank m).set i (some (.exn a dx fs))) c1 (b0 :: su) o) (r : ClsOk X hs l) :
    ClsOk X (.ExceptHandler (some (.Name x np)) (some n) (b0 :: su) hp :: hs) (⟨cv, some i, tsD X.K W p m C fs c1 (some i) o⟩ :: l) :=
  .named nm hi hl (fun a oe cls dd pn z f => ⟨fun pins s σ H De I ⟨h1, dx, h2, h3⟩ => by
    subst h1 h2
    exact (run a dx oe pn z f).run pins s σ H De I h3⟩) r
end
/-! ### a new list that is changed: the rest of a block with it out of sight -/
def scB (d : D) : Bool := (scD d).isSome
theorem scB_ref {K : PySem.W.Frag} {p : HD} {H : Hp} {a : Addr} {d : D} (h : DV K p H (.ref a) d) (e : scB d = true) : False := by
  cases h <;> cases e
inductive LowR (n : Nat) : Rho → Prop
  | nil : LowR n []
  | non {r : Rho} : LowR n r → LowR n (none :: r)
  | one {d : D} {r : Rho} : lowD n d = true → LowR n r → LowR n (some d :: r)
theorem LowR.get {n : Nat} : ∀ {r : Rho}, LowR n r → ∀ (i : Nat) (d : D), r[i]? = some (some d) → lowD n d = true
  | _, .nil, _, _, h => by simp at h
  | _, .non _, 0, _, h => by cases h
  | _, .one h _, 0, _, z => by
    cases Option.some.inj (Option.some.inj z)
    exact h
  | _, .non h, i + 1, d, z => LowR.get h i d z
  | _, .one _ h, i + 1, d, z => LowR.get h i d z
/-- an outcome within, and without -/
inductive Outs (n : Nat) : SO → SO → Prop
  | nx {ρ : Rho} {c c' : PC} : LowR n ρ → c.take n = c' → Outs n (.nx ρ c) (.nx ρ c')
  | rt {d : D} {nw : Bool} {c c' : PC} : lowD n d = true → c.take n = c' → Outs n (.rt d nw c) (.rt d nw c')
  | ex {C : Addr} {fs : List (Str × D)} {c c' : PC} : lowDf n fs = true → c.take n = c' → Outs n (.ex C fs c) (.ex C fs c')
section
variable {K : PySem.W.Frag} {p : HD} {H H1 H2 : Hp} {a : Addr} {c c1 : PC}
theorem mut_at {i : Nat} {b : Addr} (h : p.m[i]? = some b) : (p.mut a).m[i]? = some b := by
  show (p.m ++ [a])[i]? = some b
  rw [List.getElem?_append_left (List.getElem?_eq_some_iff.mp h).1]
  exact h
theorem at_mut {i : Nat} {b : Addr} (l : i < p.m.length) (h : (p.mut a).m[i]? = some b) : p.m[i]? = some b := by
  have h : (p.m ++ [a])[i]? = some b := h
  rw [List.getElem?_append_left l] at h
  exact h
theorem mut_hid {b : Addr} : (p.mut a).hid b ↔ p.hid b ∨ b = a := by
  show b ∈ p.m ++ [a] ∨ b ∈ p.z ↔ (b ∈ p.m ∨ b ∈ p.z) ∨ b = a
  rw [List.mem_append, List.mem_singleton]
  constructor
  · rintro ((h | h) | h)
    · exact .inl (.inl h)
    · exact .inr h
    · exact .inl (.inr h)
  · rintro ((h | h) | h)
    · exact .inl (.inl h)
    · exact .inr h
    · exact .inl (.inr h)
theorem sub_mut : Sub (hide (p.mut a) H) (hide p H) := fun b o h => by
  obtain ⟨h1, h2⟩ := hide_some h
  rw [hide_ne (fun z => h2 (mut_hid.mpr (.inl z)))]
  exact h1
theorem also_mut : Sub (hide (p.also a) H) (hide (p.mut a) H) := fun b o h => by
  obtain ⟨h1, h2⟩ := hide_some h
  rw [hide_ne (show ¬ (p.mut a).hid b from fun z => h2 ((mut_hid.mp z).elim (fun q => q.elim .inl fun q => .inr (List.mem_cons_of_mem _ q)) fun q => .inr (by rw [q]; exact List.mem_cons_self)))]
  exact h1
theorem sub_new (n : H a = none) (e : Ext p H H1) : Sub (hide p H) (hide (p.mut a) H1) := fun b o h => by
  obtain ⟨h1, h2⟩ := hide_some h
  rw [hide_ne (fun z => (mut_hid.mp z).elim h2 fun q => by rw [q, n] at h1; cases h1)]
  exact e b o (fun z => h2 (.inl z)) h1
/-- in -/
theorem PoolAt.in' {x : Cell} (h : PoolAt K (p.also a) H c) (nm : a ∉ p.m) (hx : CellAt K (p.mut a) H a x) : PoolAt K (p.mut a) H (c ++ [x]) := by
  have hl : p.m.length = c.length := h.1.2.1
  refine ⟨⟨?_, ?_, fun i b y hi hy => ?_⟩, fun b m => h.2 b (List.mem_cons_of_mem _ m)⟩
  · show (p.m ++ [a]).Nodup
    rw [List.nodup_append]
    refine ⟨h.1.1, by simp, fun x hx y hy => ?_⟩
    rw [List.mem_singleton.mp hy]
    exact fun z => nm (by rw [← z]; exact hx)
  · show (p.m ++ [a]).length = (c ++ [x]).length
    rw [List.length_append, List.length_append, hl]
    rfl
  · by_cases l : i < p.m.length
    · rw [List.getElem?_append_left (by rw [← hl]; exact l)] at hy
      exact (h.1.2.2 i b y (at_mut l hi) hy).sub also_mut rfl
    · have hi' : (p.m ++ [a])[i]? = some b := hi
      rw [List.getElem?_append_right (by omega)] at hi' hy
      have li := (List.getElem?_eq_some_iff.mp hi').1
      have e : i - p.m.length = 0 := by
        have : i - p.m.length < 1 := li
        omega
      rw [e] at hi'
      rw [show i - c.length = 0 by omega] at hy
      cases hi'
      cases hy
      exact hx
/-- out -/
theorem PoolAt.out (h : PoolAt K (p.mut a) H c) : PoolAt K p H (c.take p.m.length) := by
  have hl : (p.m ++ [a]).length = c.length := h.1.2.1
  rw [List.length_append] at hl
  have hl : p.m.length + 1 = c.length := hl
  refine ⟨⟨?_, ?_, fun i b y hi hy => ?_⟩, fun b m => h.2 b m⟩
  · have q : (p.m ++ [a]).Nodup := h.1.1
    exact (List.nodup_append.mp q).1
  · rw [List.length_take]
    omega
  · have l := (List.getElem?_eq_some_iff.mp hi).1
    rw [List.getElem?_take_of_lt l] at hy
    exact (h.1.2.2 i b y (mut_at hi) hy).sub sub_mut rfl
theorem also_out {b : Addr} (h : PoolAt K ((p.mut a).also b) H c) : PoolAt K (p.also b) H (c.take p.m.length) := PoolAt.out (p := p.also b) (a := a) h
theorem SR.out {σ : L2.St} {ρ : Rho} {n : Nat} (s : SR K (p.mut a) H σ ρ c) (hn : p.m.length = n) (l : LowR n ρ) : SR K p H σ ρ (c.take n) :=
  ⟨s.len, fun i d h => by
    obtain ⟨v, h1, h2⟩ := s.at' i d h
    exact ⟨v, h1, h2.low sub_mut (fun i b li hi => at_mut (by rw [hn]; exact li) hi) (l.get i d h)⟩, by rw [← hn]; exact s.pl.out⟩
theorem sub_also_mut {b : Addr} : Sub (hide ((p.mut a).also b) H) (hide (p.also b) H) := fun x o h => by
  obtain ⟨h1, h2⟩ := hide_some h
  rw [hide_ne (show ¬ (p.also b).hid x from fun z => h2 (z.elim (fun q => .inl (List.mem_append.mpr (.inl q))) .inr))]
  exact h1
theorem New.out {v : V} {d : D} {n : Nat} (hn : p.m.length = n) (l : lowD n d = true) (h : New K (p.mut a) H H1 c v d) : New K p H H1 (c.take n) v d := fun b e => by
  obtain ⟨⟨h1, h2⟩, h3, h4⟩ := h b e
  subst hn
  refine ⟨⟨h1, fun z => h2 (List.mem_append.mpr (.inl z))⟩, also_out h3, fun g ds e' => ?_⟩
  obtain ⟨vs, q1, q2⟩ := h4 g ds e'
  subst e'
  unfold lowD at l
  exact ⟨vs, q1, q2.low (n := p.m.length) sub_also_mut (fun i b li hi => at_mut li hi) l⟩
end
/-! more than one -/
def HD.muts (p : HD) : List Addr → HD
  | [] => p
  | a :: r => (HD.muts p r).mut a
section
variable {K : PySem.W.Frag} {p : HD} {H H1 H2 : Hp} {c c1 : PC}
theorem muts_len : ∀ (as : List Addr), (p.muts as).m.length = p.m.length + as.length
  | [] => rfl
  | a :: r => by
    show ((p.muts r).m ++ [a]).length = _
    rw [List.length_append, muts_len r]
    rfl
theorem muts_mem {b : Addr} : ∀ {as : List Addr}, b ∈ (p.muts as).m → b ∈ p.m ∨ b ∈ as
  | [], h => .inl h
  | a :: r, h => by
    rcases List.mem_append.mp (show b ∈ (p.muts r).m ++ [a] from h) with h | h
    · exact (muts_mem h).elim .inl fun z => .inr (List.mem_cons_of_mem _ z)
    · exact .inr (by rw [List.mem_singleton.mp h]; exact List.mem_cons_self)
theorem sub_muts : ∀ {as : List Addr}, Sub (hide (p.muts as) H) (hide p H)
  | [] => sub_refl _
  | a :: r => Sub.trans sub_mut (sub_muts (as := r))
theorem at_muts {i : Nat} {b : Addr} (l : i < p.m.length) : ∀ {as : List Addr}, (p.muts as).m[i]? = some b → p.m[i]? = some b
  | [], h => h
  | a :: r, h => at_muts l (as := r) (at_mut (by rw [muts_len]; omega) h)
theorem PoolAt.outs : ∀ {as : List Addr} {c : PC}, PoolAt K (p.muts as) H c → PoolAt K p H (c.take p.m.length)
  | [], c, h => by
    have e : c.length ≤ p.m.length := Nat.le_of_eq h.1.2.1.symm
    rw [List.take_of_length_le e]
    exact h
  | a :: r, c, h => by
    have q := PoolAt.outs (as := r) (PoolAt.out (p := p.muts r) h)
    rw [List.take_take, Nat.min_eq_left (by rw [muts_len]; omega)] at q
    exact q
theorem sub_alsos {b : Addr} : ∀ {as : List Addr}, Sub (hide ((p.muts as).also b) H) (hide (p.also b) H)
  | [] => sub_refl _
  | a :: r => Sub.trans (sub_also_mut (p := p.muts r)) (sub_alsos (as := r))
theorem also_outs {b : Addr} : ∀ {as : List Addr} {c : PC}, PoolAt K ((p.muts as).also b) H c → PoolAt K (p.also b) H (c.take p.m.length)
  | [], c, h => by
    have e : c.length ≤ p.m.length := Nat.le_of_eq h.1.2.1.symm
    rw [List.take_of_length_le e]
    exact h
  | a :: r, c, h => by
    have q := also_outs (as := r) (also_out (p := p.muts r) h)
    rw [List.take_take, Nat.min_eq_left (by rw [muts_len]; omega)] at q
    exact q
theorem New.outs {v : V} {d : D} {n : Nat} {as : List Addr} (hn : p.m.length = n) (l : lowD n d = true) (h : New K (p.muts as) H H1 c v d) : New K p H H1 (c.take n) v d := fun b e => by
  obtain ⟨⟨h1, h2⟩, h3, h4⟩ := h b e
  subst hn
  refine ⟨⟨h1, fun z => h2 ?_⟩, also_outs h3, fun g ds e' => ?_⟩
  · have key : ∀ (as : List Addr), b ∈ (p.muts as).m := fun as => by
      induction as with
      | nil => exact z
      | cons a r ih => exact List.mem_append.mpr (.inl ih)
    exact key as
  · obtain ⟨vs, q1, q2⟩ := h4 g ds e'
    subst e'
    unfold lowD at l
    exact ⟨vs, q1, q2.low (n := p.m.length) sub_alsos (fun i b li hi => at_muts (p := p) li hi) l⟩
end
section
variable {X : Cx} {W : WX} {p : HD} {as : List Addr} {ρ ρ1 ρ' : Rho} {c c1 c2 c3 : PC} {e : Expr} {st : Stmt} {sts rest : List Stmt} {pos pos' : Pos} {g : G} {ds ds2 : List D} {so so' : SO} {d : D}
/-- within, with what is wanted without -/
def tSo (K : PySem.W.Frag) (W : WX) (p : HD) (as : List Addr) (ρ : Rho) (c : PC) (so : SO) : TS := fun De σ H => ∃ (H0 : Hp) (σ0 : L2.St) (ρ0 : Rho) (c0 : PC), (∀ a ∈ as, H0 a = none ∧ a ∉ p.m) ∧ Ext p H0 H ∧ tSt K W p ρ0 c0 so De σ0 H0 ∧ ρ.length = ρ0.length ∧ SR K (p.muts as) H σ ρ c
abbrev RSo (X : Cx) (W : WX) (p : HD) (as : List Addr) (ρ : Rho) (c : PC) (sts : List Stmt) (so : SO) : Prop := PSs X sts (tSo X.K W p as ρ c so)
theorem ext_muts {H0 H H1 : Hp} (na : ∀ a ∈ as, H0 a = none ∧ a ∉ p.m) (e1 : Ext p H0 H) (e2 : Ext (p.muts as) H H1) : Ext p H0 H1 := fun b o n q => by
  refine e2 b o (fun z => ?_) (e1 b o n q)
  rcases muts_mem z with z | z
  · exact n z
  · rw [(na b z).1] at q
    cases q
theorem tSo_st {K : PySem.W.Frag} {De : Ends} {σ : L2.St} {H : Hp} (ho : Outs p.m.length so' so) (h : tSo K W p as ρ c so De σ H) : tSt K W (p.muts as) ρ c so' De σ H := by
  obtain ⟨H0, σ0, ρ0, c0, na, e1, h, hl, s⟩ := h
  cases ho with
  | nx hl' hc =>
    subst hc
    exact ⟨s, fun σ' H2 e2 s2 => h.2 σ' H2 (ext_muts na e1 e2) ⟨s2.len, fun i d q => by
      obtain ⟨v, h1, h2⟩ := s2.at' i d q
      exact ⟨v, h1, h2.low sub_muts (fun i b li hi => at_muts li hi) (hl'.get i d q)⟩, s2.pl.outs⟩⟩
  | rt hl' hc =>
    subst hc
    exact ⟨s, fun v H2 e2 p2 dv hw => h.2 v H2 (ext_muts na e1 e2) p2.outs (dv.low sub_muts (fun i b li hi => at_muts li hi) hl') fun q => New.back e1 (New.outs rfl hl' (hw q))⟩
  | ex hl' hc =>
    subst hc
    refine ⟨s, fun ρ2 dx fv σ2 H2 e2 s2 l2 hx hf => ?_⟩
    refine h.2 (List.replicate ρ2.length none) dx fv σ2 H2 (ext_muts na e1 e2) ⟨by rw [List.length_replicate]; exact s2.len, fun i d q => ?_, s2.pl.outs⟩ (by rw [List.length_replicate, l2, hl]) (sub_muts dx _ hx) (hf.low (n := p.m.length) sub_muts (fun i b li hi => at_muts li hi) hl')
    rw [List.getElem?_replicate] at q
    split at q <;> cases q
theorem rso_of (h : RSo X W p [] ρ c sts so) : RSs X W p ρ c sts so := pss_imp h fun De σ H q => ⟨H, σ, ρ, c, (fun _ m => nomatch m), Ext.refl _ _, q, rfl, st_sr q⟩
theorem rso_in (h : RSs X W p ρ c sts so) : RSo X W p [] ρ c sts so := pss_imp h fun De σ H ⟨H0, σ0, ρ0, c0, na, e1, q, hl, s⟩ => by
  cases so with
  | nx ρ' c' => exact ⟨s, fun σ2 H2 e2 s2 => q.2 σ2 H2 (e1.trans e2) s2⟩
  | rt d nw c' => exact ⟨s, fun v H2 e2 p2 dv hn => q.2 v H2 (e1.trans e2) p2 dv fun z => (hn z).back e1⟩
  | ex C fs c' => exact ⟨s, fun ρ' dx fv σ2 H2 e2 s2 hl' hx hf => q.2 ρ' dx fv σ2 H2 (e1.trans e2) s2 (hl'.trans hl) hx hf⟩
/-- the rest within, to its end; c0 of them stand without -/
theorem rso_end (n : Nat) (h : RSs X W (p.muts as) ρ c sts so') (ho : Outs n so' so) (hn : n + as.length = c.length) : RSo X W p as ρ c sts so := pss_imp h fun De σ H q => by
  have e : p.m.length = n := by
    obtain ⟨H0, σ0, ρ0, c0, na, e1, h, hl, s⟩ := q
    have := s.pl.1.2.1
    rw [muts_len] at this
    omega
  exact tSo_st (by rw [e]; exact ho) q
theorem rso_cons (h1 : RS X W (p.muts as) ρ c st (.nx ρ1 c1)) (h2 : RSo X W p as ρ1 c1 rest so) (hl : ρ1.length = ρ.length := by rfl) : RSo X W p as ρ c (st :: rest) so := by
  refine pss_imp (pss_cons h1 h2) fun De σ H ⟨H0, σ0, ρ0, c0, na, e1, h, hl', s⟩ => ⟨s, fun σ1 H1 e2 s1 => ⟨H0, σ0, ρ0, c0, na, ext_muts na e1 e2, h, hl.trans hl', s1⟩⟩
/-- the frame once a new list has been put out of sight -/
theorem SR.in' {a : Addr} {σ : L2.St} {H H1 : Hp} {K : PySem.W.Frag} {i : Nat} (s : SR K p H σ ρ c) (na : H a = none) (nm : a ∉ p.m) (e1 : Ext p H H1) (pa : PoolAt K (p.also a) H1 c1) {vs : List V} (hv : H1 a = some (.lst vs)) (dvs : DVs K (p.also a) H1 vs ds) (hds : lowDs 0 ds = true) :
    SR K (p.mut a) H1 (σ.set i (some (.ref a))) (ρ.set i (some (.mut c1.length))) (c1 ++ [.lst ds]) := by
  have hl : p.m.length = c1.length := pa.1.2.1
  have p1 : PoolAt K (p.mut a) H1 (c1 ++ [.lst ds]) := pa.in' nm ⟨vs, hv, dvs.low (n := 0) (fun b o y => by rw [hide_flat]; exact also_mut b o y) (fun i b li _ => absurd li (Nat.not_lt_zero _)) hds⟩
  refine SR.set ⟨s.len, fun j d q => ?_, p1⟩ i (.mut ?_)
  · obtain ⟨x, q1, q2⟩ := s.at' j d q
    exact ⟨x, q1, q2.sub (sub_new na e1) fun i b hi => mut_at hi⟩
  · show (p.m ++ [a])[c1.length]? = some a
    rw [← hl, List.getElem?_append_right (Nat.le_refl _)]
    simp
/-- a name becomes a new object -/
def tN (K : PySem.W.Frag) (p : HD) (ρ : Rho) (c : PC) (i : Nat) (d : D) (c1 : PC) : TS := fun De σ H => SR K p H σ ρ c ∧ ∀ v H', Ext p H H' → PoolAt K p H' c1 → DV K p H' v d → New K p H H' c1 v d → De.nx (σ.set i (some v)) H'
abbrev RN (X : Cx) (p : HD) (ρ : Rho) (c : PC) (st : Stmt) (i : Nat) (d : D) (c1 : PC) : Prop := PS X st (tN X.K p ρ c i d c1)
theorem rn_set (i : Nat) {x : Str} (hN : X.N.Nodup) (h : RE X W p ρ c e (.val d true c1))
    (hi : X.N[i]? = some x := by rfl) (hx : Loc X.env.scope x := by first | exact Or.inl rfl | exact Or.inr rfl) (hs : swapsWith e (some (.Name x pos')) pos.line X.env = pure false := by rfl)
    (hf : X.fn x = true ∨ X.env.scope.names.lookup x = some .local := by first | exact .inl rfl | exact .inr rfl) : RN X p ρ c (.Assign [.Name x pos'] e pos) i d c1 :=
  ps_imp (ps_set hN hi hx h hs hf) fun De σ H ⟨s, k⟩ => ⟨s, fun v H1 e1 p1 dv hn => k v H1 e1 p1 dv (hn rfl)⟩
/-- x = a new list, out of sight from then on -/
theorem rso_new (i : Nat) (h : RN X (p.muts as) ρ c st i (.lst g ds) c1) (hds : lowDs 0 ds = true)
    (hr : ∀ a, RSo X W p (a :: as) (ρ.set i (some (.mut c1.length))) (c1 ++ [.lst ds]) rest so) : RSo X W p as ρ c (st :: rest) so := by
  have PU : PSs X rest (fun De σ H => ∃ a, tSo X.K W p (a :: as) (ρ.set i (some (.mut c1.length))) (c1 ++ [.lst ds]) so De σ H) := ⟨fun pins s σ H De I ⟨a, h2⟩ => (hr a).run pins s σ H De I h2⟩
  refine pss_imp (pss_cons h PU) fun De σ H ⟨H0, σ0, ρ0, c0, na, e1, q, hl, s⟩ => ⟨s, fun v H1 e2 p1 dv hn => ?_⟩
  cases dv with
  | @lst a vs _ _ hb hq r =>
    obtain ⟨⟨nA, nm⟩, pa, hc⟩ := hn a rfl
    obtain ⟨vs', hv, dvs⟩ := hc _ _ rfl
    have n0 : H0 a = none ∧ a ∉ p.m := by
      have nmp : a ∉ p.m := fun z => nm (by
        have key : ∀ (as : List Addr), a ∈ (p.muts as).m := fun as => by
          induction as with
          | nil => exact z
          | cons b r ih => exact List.mem_append.mpr (.inl ih)
        exact key as)
      refine ⟨?_, nmp⟩
      cases q0 : H0 a with
      | none => rfl
      | some o =>
        rw [e1 a o nmp q0] at nA
        cases nA
    exact ⟨a, H0, σ0, ρ0, c0, fun b m => (List.mem_cons.mp m).elim (fun z => by rw [z]; exact n0) (na b), ext_muts na e1 e2, q, by rw [List.length_set]; exact hl, s.in' nA nm e2 pa hv dvs hds⟩
/-- it comes into sight again -/
theorem rso_frz (i : Nat) {a : Addr} (h : RSo X W p as (ρ.set i (some (.lst ⟨false, true⟩ ds))) c rest so) (hi : ρ[i]? = some (some (.mut c.length))) (hlow : LowR c.length (ρ.set i none)) : RSo X W p (a :: as) ρ (c ++ [.lst ds]) rest so := by
  refine pss_imp h fun De σ H ⟨H0, σ0, ρ0, c0, na, e1, q, hl, s⟩ => ⟨H0, σ0, ρ0, c0, fun b m => na b (List.mem_cons_of_mem _ m), e1, q, by rw [List.length_set]; exact hl, ?_⟩
  have hn : (p.muts as).m.length = c.length := by
    have := s.pl.1.2.1
    rw [List.length_append] at this
    have e : ((p.muts as).m ++ [a]).length = c.length + 1 := this
    rw [List.length_append] at e
    exact Nat.succ.inj e
  have hnm : (p.muts as).m.length = c.length := hn
  have po : PoolAt X.K (p.muts as) H c := by
    have z := PoolAt.out (p := p.muts as) s.pl
    rw [hn, List.take_left'] at z
    · exact z
    · rfl
  have ha : ((p.muts as).m ++ [a])[c.length]? = some a := by
    rw [← hn, List.getElem?_append_right (Nat.le_refl _)]
    simp
  have nda : a ∉ (p.muts as).m := fun z => by
    have nd : ((p.muts as).m ++ [a]).Nodup := s.pl.1.1
    exact (List.nodup_append.mp nd).2.2 a z a (List.mem_singleton.mpr rfl) rfl
  obtain ⟨vs, hv, dvs⟩ : CellAt X.K ((p.muts as).mut a) H a (.lst ds) := s.pl.1.2.2 c.length a (.lst ds) ha (by simp)
  have vis : hide (p.muts as) H a = some (.lst vs) := by
    rw [hide_ne]
    · exact hv
    · rintro (z | z)
      · exact nda z
      · have zz : ∀ (as : List Addr), (p.muts as).z = p.z := fun as => by
          induction as with
          | nil => rfl
          | cons b r ih => exact ih
        rw [zz as] at z
        obtain ⟨o, ho⟩ := (st_sr q).pl.2 a z
        rw [(na a List.mem_cons_self).1] at ho
        cases ho
  refine ⟨?_, fun j d q => ?_, po⟩
  · rw [List.length_set]
    exact s.len
  · by_cases e : i = j
    · subst e
      have lt : i < ρ.length := (List.getElem?_eq_some_iff.mp hi).1
      rw [List.getElem?_set_self lt] at q
      cases q
      obtain ⟨v, h1, h2⟩ := s.at' i _ hi
      refine ⟨v, h1, ?_⟩
      generalize hm : D.mut c.length = dm at h2
      cases h2 <;> cases hm
      rename_i b hb
      have eb : b = a := by
        have hb' : ((p.muts as).m ++ [a])[c.length]? = some b := hb
        rw [ha] at hb'
        exact (Option.some.inj hb').symm
      subst eb
      exact .lst ⟨(fun z => nomatch z), fun _ => vis⟩ (.inl (.inl vis)) (dvs.sub (fun b o y => by rw [hide_flat] at y; exact sub_mut b o y) fun i b z => by simp [HD.flat] at z)
    · have q' := q
      rw [List.getElem?_set_ne e] at q
      obtain ⟨v, h1, h2⟩ := s.at' j d q
      exact ⟨v, h1, h2.low (n := c.length) sub_mut (fun i b li hi => at_mut (by rw [hn]; exact li) hi) (hlow.get j d (by rw [List.getElem?_set_ne e]; exact q))⟩
/-- it is forgotten -/
theorem rso_drop {a : Addr} {x : Cell} (h : RSo X W p as ρ' c rest so) (hw : ∀ (i : Nat) (d : D), ρ'[i]? = some (some d) → ρ[i]? = some (some d)) (hl' : ρ'.length = ρ.length) (hlow : LowR c.length ρ') : RSo X W p (a :: as) ρ (c ++ [x]) rest so := by
  refine pss_imp h fun De σ H ⟨H0, σ0, ρ0, c0, na, e1, q, hl, s⟩ => ⟨H0, σ0, ρ0, c0, fun b m => na b (List.mem_cons_of_mem _ m), e1, q, by rw [hl']; exact hl, ?_⟩
  have hn : (p.muts as).m.length = c.length := by
    have := s.pl.1.2.1
    rw [List.length_append] at this
    have e : ((p.muts as).m ++ [a]).length = c.length + 1 := this
    rw [List.length_append] at e
    exact Nat.succ.inj e
  have po : PoolAt X.K (p.muts as) H c := by
    have z := PoolAt.out (p := p.muts as) s.pl
    rw [hn, List.take_left'] at z
    · exact z
    · rfl
  refine ⟨by rw [hl']; exact s.len, fun j d q => ?_, po⟩
  obtain ⟨v, h1, h2⟩ := s.at' j d (hw j d q)
  exact ⟨v, h1, h2.low (n := c.length) sub_mut (fun i b li hi => at_mut (by rw [hn]; exact li) hi) (hlow.get j d q)⟩
end
end LA

namespace LA
open PySem PySem.Spec PyProof.Rows L2
section
variable {X : Cx} {W : WX} {p : HD} {ρ : Rho} {c c1 c2 : PC} {e ei : Expr} {pos xp jp sp apos cpos : Pos} {d : D} {nw nw2 : Bool} {K : PySem.W.Frag} {x : Str} {k : Nat} {ds : List D}
/-! ### changing lists read and written -/
theorem DV.unflat {H : Hp} {v : V} {d : D} (h : DV K p.flat H v d) : DV K p H v d := h.sub (fun b o y => by rw [hide_flat] at y; exact y) fun i b z => by simp [HD.flat] at z
theorem DVs.unflat {H : Hp} {v : List V} {d : List D} (h : DVs K p.flat H v d) : DVs K p H v d := h.sub (fun b o y => by rw [hide_flat] at y; exact y) fun i b z => by simp [HD.flat] at z
theorem DV.flat {H : Hp} {v : V} {d : D} (h : DV K p H v d) (l : lowD 0 d = true) : DV K p.flat H v d := h.low (fun b o y => by rw [hide_flat]; exact y) (fun i b li _ => absurd li (Nat.not_lt_zero _)) l
theorem DVs.flat {H : Hp} {v : List V} {d : List D} (h : DVs K p H v d) (l : lowDs 0 d = true) : DVs K p.flat H v d := h.low (fun b o y => by rw [hide_flat]; exact y) (fun i b li _ => absurd li (Nat.not_lt_zero _)) l
theorem mut_lst {H : Hp} {v : V} (h : DV K p H v (.mut k)) (hp : PoolAt K p H c) (hc : c[k]? = some (.lst ds)) : ∃ a vs, v = .ref a ∧ p.m[k]? = some a ∧ H a = some (.lst vs) ∧ DVs K p.flat H vs ds := by
  cases h with
  | «mut» ha =>
    obtain ⟨vs, h1, h2⟩ := hp.1.2.2 k _ _ ha hc
    exact ⟨_, vs, rfl, ha, h1, h2⟩
theorem DVs.set {q : HD} {H : Hp} {v : V} {d : D} (h : DV K q H v d) : ∀ {us : List V} {ds : List D} {j : Nat}, DVs K q H us ds → DVs K q H (us.set j v) (ds.set j d)
  | _, _, _, .nil => .nil
  | _, _, 0, .cons _ r => .cons h r
  | _, _, j + 1, .cons h' r => .cons h' (DVs.set h (j := j) r)
theorem ov_ixM {i : Int} {j : Nat} (hc : c[k]? = some (.lst ds)) (e : i = (j : Int)) (h : ds[j]? = some d) : OV K p (rIx K) (.mut k) (.int i) d false c := fun v u H Q dv du hp kk => by
  obtain ⟨a, vs, rfl, _, hv, dvs⟩ := mut_lst dv hp hc
  cases du
  obtain ⟨w, h1, h2⟩ := dvs_atI dvs e h
  exact .inl ⟨_, vs, _, w, rfl, rfl, .inl (.inl hv), h1, kk w H (Ext.refl p H) hp h2.unflat fun q => nomatch q⟩
/-- x[j], written -/
theorem re_mix (i k j : Nat) {n : Nat} (hc : c[k]? = some (.lst ds)) (h : ds[j]? = some d) (hρ : ρ[i]? = some (some (.mut k)) := by rfl) (hN : X.N[i]? = some x := by rfl) (hv : Vis X.env.scope x := by first | exact Or.inl rfl | exact Or.inr (Or.inl rfl) | exact Or.inr (Or.inr rfl))
    (hd : (x == ("__debug__" : Str)) = false := by decide) (hcd : (x == ("__classdict__" : Str)) = false := by decide) : RE X W p ρ c (.Subscript (.Name x xp) (.Constant (.int (j : Nat)) n jp) sp) (.val d false c) :=
  re_ix ix_seq (re_var i hN hρ hv hd hcd) re_int (ov_ixM hc rfl h)
theorem ext_upd {H : Hp} {a : Addr} {o : HO} (m : a ∈ p.m) : Ext p H (upd H a o) := fun b u n y => by
  rw [upd_ne (fun z => n (by rw [z]; exact m))]
  exact y
theorem upd_msub {H : Hp} {a : Addr} {o : HO} (m : a ∈ p.m) : Sub (hide p H) (hide p (upd H a o)) := (ext_upd m).hide
/-- x[idx] = e -/
theorem rs_mst (i k j : Nat) (he : RE X W p ρ c e (.val d nw c1)) (hi : RE X W p ρ c1 ei (.val (.int (j : Nat)) nw2 c2)) (hc : c2[k]? = some (.lst ds)) (hj : j < ds.length) (hl : lowD 0 d = true) (hρ : ρ[i]? = some (some (.mut k)) := by rfl) (hN : X.N[i]? = some x := by rfl) (hv : Vis X.env.scope x := by first | exact Or.inl rfl | exact Or.inr (Or.inl rfl) | exact Or.inr (Or.inr rfl))
    (hd : (x == ("__debug__" : Str)) = false := by decide) (hcd : (x == ("__classdict__" : Str)) = false := by decide)
    (hs : swapsWithSole [.Subscript (.Name x xp) ei sp] e pos.line X.env = pure false := by rfl) (hw : swappedStores [.Subscript (.Name x xp) ei sp] e X.env = pure none := by rfl)
    (h1 : (assignEach [.Subscript (.Name x xp) ei sp] X.env).map (·.2) = [assign (.Subscript (.Name x xp) ei sp) X.env] := by rfl)
    (ha : ∀ v, assign (.Subscript (.Name x xp) ei sp) X.env v = (do
      let ov ← holding [v] (eval (.Name x xp) X.env)
      let iv ← holding [v, ov] (eval ei X.env)
      standAt sp
      holding [v, ov, iv] (setItem ov iv v)
      release [v, ov, iv] []) := by intro _; rfl) :
    RS X W p ρ c (.Assign [.Subscript (.Name x xp) ei sp] e pos) (.nx ρ (c2.set k (.lst (ds.set j d)))) :=
  ps_imp (ps_asg he (pg_sub (pe_var hN hv hd hcd) hi set_list ha) hs hw h1) fun De σ H h => ⟨h.1, fun v H1 e1 p1 dv _ => by
    have s1 := h.1.mono e1 p1
    obtain ⟨o, q1, q2⟩ := s1.at' i _ hρ
    refine ⟨o, q1, s1, fun w H2 e2 p2 dw _ => ?_⟩
    cases dw
    obtain ⟨a, vs, rfl, ha, hv', dvs⟩ := mut_lst (q2.mono e2) p2 hc
    have m : a ∈ p.m := List.mem_of_getElem? ha
    refine ⟨a, vs, (j : Nat), j, rfl, rfl, hv', ?_, ?_⟩
    · unfold ixN
      have : j < vs.length := by rw [dvs.length]; exact hj
      simp [this]
    · refine h.2 σ _ ((e1.trans e2).trans (ext_upd m)) ((s1.mono e2 p2).mono (ext_upd m) (p2.put ha ⟨_, upd_same, ?_⟩))
      have sb : Sub (hide p.flat H2) (hide p.flat (upd H2 a (.lst (vs.set j v)))) := by
        rw [hide_flat, hide_flat]
        exact upd_msub m
      exact DVs.set (((dv.mono e2).flat hl).sub sb fun _ _ z => z) (dvs.sub sb fun _ _ z => z)⟩
theorem re_old (h : RE X W p ρ c e (.val d nw c1)) : RE X W p ρ c e (.val d false c1) := pe_imp h fun σ H Q ⟨s, k⟩ => ⟨s, fun v H1 e1 p1 dv _ => k v H1 e1 p1 dv fun z => nomatch z⟩
/-! ### len of a list -/
theorem cv_lenL {g : G} {ds : List D} : CV K p (fun xs H Q => ∃ x n, xs = [x] ∧ LenV K x H n ∧ Q (.int n) H) [.lst g ds] (.int (ds.length : Nat)) true c := fun vs H Q dvs hp k => by
  cases dvs with
  | cons h r =>
    cases r
    cases h with
    | lst _ hq ha =>
      refine ⟨_, ds.length, rfl, .inl ⟨_, un_sqL hq, ha.length.symm⟩, k _ H (Ext.refl p H) hp (.int _) fun _ => New.sc (by intro a h; cases h)⟩
theorem cv_lenM (hc : c[k]? = some (.lst ds)) : CV K p (fun xs H Q => ∃ x n, xs = [x] ∧ LenV K x H n ∧ Q (.int n) H) [.mut k] (.int (ds.length : Nat)) true c := fun vs H Q dvs hp kk => by
  cases dvs with
  | cons h r =>
    cases r
    obtain ⟨a, us, rfl, _, hv, du⟩ := mut_lst h hp hc
    exact ⟨_, ds.length, rfl, .inl ⟨_, .inl (.inl hv), du.length.symm⟩, kk _ H (Ext.refl p H) hp (.int _) fun _ => New.sc (by intro a h; cases h)⟩
/-- x.append(e) -/
theorem rs_app (i k : Nat) (he : RE X W p ρ c e (.val d nw c1)) (hc0 : ∃ ds0, c[k]? = some (.lst ds0)) (hc : c1[k]? = some (.lst ds)) (hz : ds.length < 100000) (hl : lowD 0 d = true) (hρ : ρ[i]? = some (some (.mut k)) := by rfl) (hN : X.N[i]? = some x := by rfl) (hv : Vis X.env.scope x := by first | exact Or.inl rfl | exact Or.inr (Or.inl rfl) | exact Or.inr (Or.inr rfl))
    (hd : (x == ("__debug__" : Str)) = false := by decide) (hcd : (x == ("__classdict__" : Str)) = false := by decide) (hline : (apos.endLine == cpos.line) = true := by rfl) (hsw : swapsWith (.Call (.Attribute (.Name x xp) "append" apos) [e] [] cpos) none pos.line X.env = pure false := by rfl)
    (hbase : attributeBase (.Name x xp) "append" X.env (eval (.Name x xp) X.env) = eval (.Name x xp) X.env := by rfl) (hst : starEach [e] X.env = (false, eval e X.env) :: starEach [] X.env := by rfl)
    (hfew : ((backTo cpos (starEach [e] X.env)).all (fun x => !x.1) && (backToKw cpos (keywordEach [] X.env)).all (fun x => x.1.isSome)
      && decide (([e] : List Expr).length + ([] : List Keyword).length + (if ([] : List Keyword).isEmpty then 0 else 1) < 30)) = true := by rfl) :
    RS X W p ρ c (.Expr (.Call (.Attribute (.Name x xp) "append" apos) [e] [] cpos) pos) (.nx ρ (c1.set k (.lst (ds ++ [d])))) := by
  have PB := pe_bm (cpos := cpos) (apos := apos) PySem.F.plainAttrs_list PySem.F.slot_list_append PySem.F.type_list_append mt_append (pe_var (pos := xp) hN hv hd hcd) (pa_cons he (pa_nil (X := X)) hst) hbase hfew hline hst
  refine ps_imp (ps_expr PB hsw) fun De σ H h => ?_
  obtain ⟨o, q1, q2⟩ := h.1.at' i _ hρ
  obtain ⟨ds0, hc0⟩ := hc0
  obtain ⟨a, vs0, rfl, ha, hv0, _⟩ := mut_lst q2 h.1.pl hc0
  have m : a ∈ p.m := List.mem_of_getElem? ha
  refine ⟨_, q1, .inl ⟨rfl, _, .inl (.inl hv0)⟩, h.1, fun v H1 e1 p1 dv _ => ?_⟩
  obtain ⟨b, vs, eb, hb, hv1, dvs⟩ := mut_lst (q2.mono e1) p1 hc
  cases eb
  refine ⟨a, vs, v, rfl, rfl, hv1, by rw [dvs.length]; exact sz_lt hz, ?_⟩
  have sb : Sub (hide p.flat H1) (hide p.flat (upd H1 a (.lst (vs ++ [v])))) := by
    rw [hide_flat, hide_flat]
    exact upd_msub m
  exact h.2 σ _ (e1.trans (ext_upd m)) ((h.1.mono e1 p1).mono (ext_upd m) (p1.put ha ⟨_, upd_same, DVs.app (dvs.sub sb fun _ _ z => z) (.cons ((dv.flat hl).sub sb fun _ _ z => z) .nil)⟩))
theorem dvs_erase {q : HD} {H : Hp} : ∀ {us : List V} {es : List D} (j : Nat), DVs K q H us es → DVs K q H (us.eraseIdx j) (es.eraseIdx j)
  | _, _, _, .nil => .nil
  | _, _, 0, .cons _ r => r
  | _, _, j + 1, .cons h r => .cons h (dvs_erase j r)
/-- x.pop(e) -/
theorem re_pop (i k j : Nat) (he : RE X W p ρ c e (.val (.int (j : Nat)) nw c1)) (hc0 : ∃ ds0, c[k]? = some (.lst ds0)) (hc : c1[k]? = some (.lst ds)) (hj : ds[j]? = some d) (hz : ds.length < 100000) (hρ : ρ[i]? = some (some (.mut k)) := by rfl) (hN : X.N[i]? = some x := by rfl) (hv : Vis X.env.scope x := by first | exact Or.inl rfl | exact Or.inr (Or.inl rfl) | exact Or.inr (Or.inr rfl))
    (hd : (x == ("__debug__" : Str)) = false := by decide) (hcd : (x == ("__classdict__" : Str)) = false := by decide) (hline : (apos.endLine == cpos.line) = true := by rfl)
    (hbase : attributeBase (.Name x xp) "pop" X.env (eval (.Name x xp) X.env) = eval (.Name x xp) X.env := by rfl) (hst : starEach [e] X.env = (false, eval e X.env) :: starEach [] X.env := by rfl)
    (hfew : ((backTo cpos (starEach [e] X.env)).all (fun x => !x.1) && (backToKw cpos (keywordEach [] X.env)).all (fun x => x.1.isSome)
      && decide (([e] : List Expr).length + ([] : List Keyword).length + (if ([] : List Keyword).isEmpty then 0 else 1) < 30)) = true := by rfl) :
    RE X W p ρ c (.Call (.Attribute (.Name x xp) "pop" apos) [e] [] cpos) (.val d false (c1.set k (.lst (ds.eraseIdx j)))) := by
  have PB := pe_bm (cpos := cpos) (apos := apos) PySem.F.plainAttrs_list PySem.F.slot_list_pop PySem.F.type_list_pop mt_popAt (pe_var (pos := xp) hN hv hd hcd) (pa_cons he (pa_nil (X := X)) hst) hbase hfew hline hst
  refine pe_imp PB fun σ H Q h => ?_
  obtain ⟨o, q1, q2⟩ := h.1.at' i _ hρ
  obtain ⟨ds0, hc0⟩ := hc0
  obtain ⟨a, vs0, rfl, ha, hv0, _⟩ := mut_lst q2 h.1.pl hc0
  have m : a ∈ p.m := List.mem_of_getElem? ha
  refine ⟨_, q1, .inl ⟨rfl, _, .inl (.inl hv0)⟩, h.1, fun v H1 e1 p1 dv _ => ?_⟩
  cases dv
  obtain ⟨b, vs, eb, hb, hv1, dvs⟩ := mut_lst (q2.mono e1) p1 hc
  cases eb
  obtain ⟨w, hw, dw⟩ := dvs.get hj
  have lj : j < ds.length := (List.getElem?_eq_some_iff.mp hj).1
  refine ⟨a, vs, (j : Nat), j, w, rfl, rfl, hv1, by omega, by omega, ?_, hw, ?_⟩
  · unfold seqIndex?
    have : j < vs.length := by rw [dvs.length]; exact lj
    simp [this]
    try omega
  · have sb : Sub (hide p.flat H1) (hide p.flat (upd H1 a (.lst (vs.eraseIdx j)))) := by
      rw [hide_flat, hide_flat]
      exact upd_msub m
    exact h.2 w _ (e1.trans (ext_upd m)) (p1.put ha ⟨_, upd_same, (dvs_erase j dvs).sub sb fun _ _ z => z⟩) (dw.sub sb fun _ _ z => z).unflat fun q => nomatch q
end
end LA

namespace LA
open PySem PySem.Spec PyProof.Rows L2
/-! ### texts by their signs -/
def tx (l : List Nat) : Str := ⟨l.toArray⟩
theorem tx_list (l : List Nat) : (tx l).cps.toList = l := by unfold tx; simp
theorem tx_len (l : List Nat) : (tx l).length = l.length := by
  show (tx l).cps.size = _
  unfold tx
  simp
theorem str_tx (s : Str) : ∃ l, s = tx l := ⟨s.cps.toList, by unfold tx; simp⟩
def chr1 (n : Nat) : Str := ⟨#[n]⟩
theorem chars_tx (l : List Nat) : chars (tx l) = l.map fun n => D.str (chr1 n) := by
  unfold chars
  rw [tx_list]
  rfl
theorem tx_app (a b : List Nat) : tx a ++ tx b = tx (a ++ b) := by
  show (⟨(tx a).cps ++ (tx b).cps⟩ : Str) = _
  unfold tx
  simp
theorem tx_inj {a b : List Nat} (h : tx a = tx b) : a = b := by rw [← tx_list a, ← tx_list b, h]
theorem join_nil : ∀ l : List Nat, Txt.join (Str.ofString "") (l.map chr1) = tx l := by
  intro l
  unfold Txt.join
  rw [StrLaws.glued_eq_join]
  have e0 : (Str.ofString "") = tx [] := by decide
  rw [e0]
  induction l with
  | nil => rfl
  | cons a r ih =>
    cases r with
    | nil => rfl
    | cons b r =>
      show chr1 a ++ tx [] ++ Str.join (tx []) ((b :: r).map chr1) = _
      rw [ih]
      show tx [a] ++ tx [] ++ tx (b :: r) = _
      rw [tx_app, tx_app]
      rfl
theorem sum_sgn : ∀ l : List Nat, ((l.map chr1).map (·.length)).sum = l.length
  | [] => rfl
  | a :: r => by
    have := sum_sgn r
    simp only [List.map_cons, List.sum_cons, List.length_cons] at this ⊢
    rw [this]
    show 1 + r.length = _
    omega
/-! ### collected lists -/
theorem coll_all (y : Nat → D) : ∀ n, coll (fun _ => true) y n = (List.range n).map y
  | 0 => rfl
  | n + 1 => by
    show coll (fun _ => true) y n ++ (if true then [y n] else []) = _
    rw [coll_all y n, List.range_succ, List.map_append]
    rfl
theorem coll_some (b : Nat → Bool) (y : Nat → D) : ∀ n, coll b y n = ((List.range n).filter b).map y
  | 0 => rfl
  | n + 1 => by
    show coll b y n ++ (if b n then [y n] else []) = _
    rw [coll_some b y n, List.range_succ, List.filter_append, List.map_append]
    cases h : b n <;> simp [h]
section
variable {X : Cx} {W : WX} {p : HD} {ρ : Rho} {c c1 c2 c3 : PC} {e a : Expr} {pos : Pos} {d : D} {nw : Bool} {K : PySem.W.Frag}
/-- text * count -/
theorem op_mulS : OpR X (binaryOp .Mult) (fun x y H Q => ∃ z n, x = .str z ∧ y = .int n ∧ MulOk z n ∧ Q (.str (Txt.mul z n)) H) := by
  intro pins s σ H x y v u Q I rx ry h
  obtain ⟨z, n, rfl, rfl, hok, q⟩ := h
  obtain ⟨t, rfl⟩ := rx
  obtain ⟨t', rfl⟩ := ry
  exact SB.mul hok fun t2 k => ⟨.str _, H, I.tok _, ⟨_, rfl⟩, q⟩
theorem ov_mulS {z : Str} {n : Int} (h : MulOk z n) : OV K p (fun x y H Q => ∃ z n, x = .str z ∧ y = .int n ∧ MulOk z n ∧ Q (.str (Txt.mul z n)) H) (.str z) (.int n) (.str (Txt.mul z n)) true c := fun v u H Q dv du hp k => by
  cases dv
  cases du
  exact ⟨z, n, rfl, rfl, h, k _ H (Ext.refl p H) hp (.str _) fun _ => New.sc (by intro a h; cases h)⟩
theorem re_neg {i : Int} (ha : RE X W p ρ c a (.val (.int i) nw c1)) : RE X W p ρ c (.UnaryOp .USub a pos) (.val (.int (-i)) true c1) :=
  pe_imp (pe_un un_neg ha) fun σ H Q ⟨s, k⟩ => ⟨s, fun v H1 e1 p1 dv _ => by
    cases dv
    exact ⟨i, rfl, k _ H1 e1 p1 (.int _) fun _ => New.sc (by intro a h; cases h)⟩⟩
end
end LA
namespace LA
open PySem PySem.Spec PyProof.Rows L2
/-! ### equality of ints and of texts -/
section
variable {p : HD} {c : PC} {K : PySem.W.Frag}
theorem dec_v {α : Type} {a b : α} [DecidableEq α] {f : α → V} (hf : ∀ x y, f x = f y → x = y) : decide (f a = f b) = decide (a = b) := by
  by_cases h : a = b
  · subst h
    simp
  · rw [decide_eq_false h, decide_eq_false fun z => h (hf _ _ z)]
theorem ov_eqI {i j : Int} : OV K p rEq (.int i) (.int j) (.bl (decide (i = j))) true c := by
  have h := ov_eqS (K := K) (p := p) (c := c) (x := .int i) (y := .int j) rfl rfl rfl
  rw [dec_v (f := V.int) fun x y e => by cases e; rfl] at h
  exact h
theorem ov_eqIt {i j : Int} (h : i = j) : OV K p rEq (.int i) (.int j) (.bl true) true c := by
  have q := ov_eqI (K := K) (p := p) (c := c) (i := i) (j := j)
  rw [decide_eq_true h] at q
  exact q
theorem ov_eqIf {i j : Int} (h : ¬ i = j) : OV K p rEq (.int i) (.int j) (.bl false) true c := by
  have q := ov_eqI (K := K) (p := p) (c := c) (i := i) (j := j)
  rw [decide_eq_false h] at q
  exact q
theorem ov_neI {i j : Int} : OV K p rNe (.int i) (.int j) (.bl (!decide (i = j))) true c := by
  have h := ov_neS (K := K) (p := p) (c := c) (x := .int i) (y := .int j) rfl rfl rfl
  rw [dec_v (f := V.int) fun x y e => by cases e; rfl] at h
  exact h
theorem ov_eqT {i j : Str} : OV K p rEq (.str i) (.str j) (.bl (decide (i = j))) true c := by
  have h := ov_eqS (K := K) (p := p) (c := c) (x := .str i) (y := .str j) rfl rfl rfl
  rw [dec_v (f := V.str) fun x y e => by cases e; rfl] at h
  exact h
theorem ov_neT {i j : Str} : OV K p rNe (.str i) (.str j) (.bl (!decide (i = j))) true c := by
  have h := ov_neS (K := K) (p := p) (c := c) (x := .str i) (y := .str j) rfl rfl rfl
  rw [dec_v (f := V.str) fun x y e => by cases e; rfl] at h
  exact h
end
/-! ### defs that are called by their names -/
structure Def0 (P : Program) (w : World) (K : PySem.W.Frag) (mg : Str → Option Value) (base : Heap) (k : Nat) (x : Str) (ps : List Str) (R : FSpec) : Prop where
  ex : ∃ (f : Addr) (fd : FuncData), FnOk P w K mg base CX0 k f fd ps (spF K R) ∧ mg x = some (.ref f) ∧ PySem.W.keepIn K (.ref f) = true ∧ Binds K fd ps []
structure Def1 (P : Program) (w : World) (K : PySem.W.Frag) (mg : Str → Option Value) (base : Heap) (k : Nat) (x : Str) (ps : List Str) (R : FSpec) : Prop where
  ex : ∃ (f : Addr) (fd : FuncData), FnOk P w K mg base (L2.CX P w) k f fd ps (spF K R) ∧ mg x = some (.ref f) ∧ PySem.W.keepIn K (.ref f) = true ∧ Binds K fd ps []
section
variable {X : Cx} {W : WX} {p : HD} {ρ : Rho} {c c1 c2 : PC} {e : Expr} {es : List Expr} {pos xp : Pos} {d : D} {nw : Bool} {k : Nat} {x : Str} {ps : List Str} {R : FSpec} {ds : List D} {o : EO}
theorem re_c0 (T : Def0 X.prog X.w X.K X.mg X.base k x ps R) (hr : Room k X.A) (ha : RA X W p ρ c (e :: es) (.val ds c1)) (ho : R ds c1 (.val d nw c2))
    (hg : Gl X x := by rfl) (hdb : (x == ("__debug__" : Str)) = false := by decide) (he : starEach (e :: es) X.env = (false, eval e X.env) :: starEach es X.env := by rfl) (hpl : (backTo pos (starEach es X.env)).any (·.1) = false := by rfl) :
    RE X W p ρ c (.Call (.Name x xp) (e :: es) [] pos) (.val d nw c2) := by
  obtain ⟨f, fd, h1, h2, h3, h4⟩ := T.ex
  exact re_call h1 hr h2 h3 h4 ha ho hg hdb he hpl
theorem re_c1 (tk : Takes X W) (T : Def1 X.prog X.w X.K X.mg X.base k x ps R) (hr : Room k X.A) (ha : RA X W p ρ c (e :: es) (.val ds c1)) (ho : R ds c1 o)
    (hg : Gl X x := by rfl) (hdb : (x == ("__debug__" : Str)) = false := by decide) (he : starEach (e :: es) X.env = (false, eval e X.env) :: starEach es X.env := by rfl) (hpl : (backTo pos (starEach es X.env)).any (·.1) = false := by rfl) :
    RE X W p ρ c (.Call (.Name x xp) (e :: es) [] pos) o := by
  obtain ⟨f, fd, h1, h2, h3, h4⟩ := T.ex
  exact re_callX tk h1 hr h2 h3 h4 ha ho hg hdb he hpl
end
end LA
namespace LA
open PySem PySem.Spec PyProof.Rows L2
/-! ### comprehensions without a test; signs joined -/
section
variable {X : Cx} {W : WX} {p : HD} {ρ : Rho} {c c1 c2 : PC} {e o tg : Expr} {pos apos : Pos} {n1 n2 : Bool}
theorem re_joinC {g : G} {l : List Nat} (ho : RE X W p ρ c o (.val (.str (Str.ofString "")) n1 c1)) (he : RE X W p ρ c1 e (.val (.lst g (l.map fun n => D.str (chr1 n))) n2 c2)) (hl : l.length ≤ 1000)
    (hs : starEach [e] X.env = [(false, eval e X.env)] := by rfl) (hbase : attributeBase o "join" X.env (eval o X.env) = eval o X.env := by rfl) (hline : (apos.endLine == pos.line) = true := by rfl) :
    RE X W p ρ c (.Call (.Attribute o "join" apos) [e] [] pos) (.val (.str (tx l)) true c2) := by
  rw [← join_nil]
  refine re_join (g := g) (n2 := n2) (ss := l.map chr1) ho ?_ ?_ hs hbase hline
  · rw [List.map_map]
    exact he
  · rw [sum_sgn]
    show _ + _ * 0 ≤ _
    omega
theorem pts_all {q : HD} : PTs X [] (tT X.K W q ρ c (.val true c)) := ⟨fun pins s σ H Q I h => pts_nil.run pins s σ H Q I (h.2 H (Ext.refl _ _) h.1.pl)⟩
theorem re_lcA {elt iter : Expr} {scope : Scope} {own : List (Str × Nat)} {xs : List D} {g : TG} (y : Nat → D) (cs : Nat → PC) (ρt : Nat → Rho) (nws : Nat → Bool) (hc : X.calm = true) (hN : X.N.Nodup) (hi : RI X W p ρ c tg iter xs (cs 0)) (ok : BlkOk X.N X.env.scope scope own)
    (hg : ∀ (s : Shared) (H : Hp) (C : Addr) (cl : List (Str × Addr)) (fp : List Addr), PG (X.blk s H scope (compEnvC scope cl C X.env) fp) tg g)
    (htg : ∀ i d, xs[i]? = some d → TgOk X.K g (own.map (·.2)) d (wipeR ρ (own.map (·.2))) (ρt i))
    (he : ∀ i d, xs[i]? = some d → ∀ (q : HD) (s : Shared) (H : Hp) (C : Addr) (cl : List (Str × Addr)) (fp : List Addr), RE (X.blk s H scope (compEnvC scope cl C X.env) fp) Wf q (ρt i) (cs i) elt (.val (y i) (nws i) (cs (i + 1))))
    (hz : xs.length ≤ 100000)
    (hs : ∀ x, foldedSetIterable iter X.env x = pure x := by intro _; rfl) : RE X W p ρ c (.ListComp elt [⟨tg, iter, [], 0⟩] scope pos) (.val (.lst ⟨false, true⟩ ((List.range xs.length).map y)) true (cs xs.length)) := by
  rw [← coll_all]
  exact re_lc (fun _ => true) y cs cs ρt nws hc hN hi ok hg htg (fun i d h q s H C cl fp => pts_all) (fun i d h _ q s H C cl fp => he i d h q s H C cl fp) (fun i d h z => nomatch z) hz hs
end
theorem intsD_at {n i : Nat} {d : D} (h : (intsD n)[i]? = some d) : d = .int (i : Nat) ∧ i < n := by
  unfold intsD at h
  have hl := (List.getElem?_eq_some_iff.mp h).1
  rw [List.length_map, List.length_range] at hl
  rw [List.getElem?_map, List.getElem?_range hl] at h
  exact ⟨(Option.some.inj h).symm, hl⟩
theorem intsD_len (n : Nat) : (intsD n).length = n := by unfold intsD; rw [List.length_map, List.length_range]
theorem signs_at {l : List Nat} {i : Nat} {d : D} (h : (chars (tx l))[i]? = some d) : d = .str (chr1 (l.getD i 0)) ∧ i < l.length ∧ l[i]? = some (l.getD i 0) := by
  rw [chars_tx] at h
  have hl := (List.getElem?_eq_some_iff.mp h).1
  rw [List.length_map] at hl
  rw [List.getElem?_map, List.getElem?_eq_getElem hl] at h
  refine ⟨?_, hl, ?_⟩
  · rw [List.getD_eq_getElem?_getD, List.getElem?_eq_getElem hl]
    exact (Option.some.inj h).symm
  · rw [List.getD_eq_getElem?_getD, List.getElem?_eq_getElem hl]
    rfl
theorem signs_len (l : List Nat) : (chars (tx l)).length = l.length := by rw [chars_tx, List.length_map]
end LA
namespace LA
open PySem PySem.Spec PyProof.Rows L2
/-! ### a flat list against [] -/
def flatOk : D → Bool
  | .non => true
  | .bl _ => true
  | .int _ => true
  | .str x => PyData.strOk x
  | _ => false
section
variable {K : PySem.W.Frag} {p : HD} {H : Hp} {c : PC}
theorem dp_of {v : V} {d : D} (h : DV K p H v d) (e : flatOk d = true) : Dp K H v (toPy d) := by
  cases h <;> first | (cases e; done) | (unfold toPy; constructor)
theorem dps_of : ∀ {vs : List V} {ds : List D}, DVs K p H vs ds → ds.all flatOk = true → DpAll K H vs (toPys ds)
  | _, _, .nil, _ => by
    unfold toPys
    exact .nil
  | _, _, .cons h r, e => by
    rw [List.all_cons, Bool.and_eq_true_iff] at e
    unfold toPys
    exact .cons (dp_of h e.1) (dps_of r e.2)
theorem flat_lay : ∀ {ds : List D}, ds.all flatOk = true → PyData.canLayAll0 (toPys ds) = true ∧ PyData.depthAll (toPys ds) = 0
  | [], _ => ⟨by unfold toPys PyData.canLayAll0; rfl, by unfold toPys PyData.depthAll; rfl⟩
  | d :: r, e => by
    rw [List.all_cons, Bool.and_eq_true_iff] at e
    obtain ⟨h1, h2⟩ := flat_lay e.2
    unfold toPys PyData.canLayAll0 PyData.depthAll
    rw [h1, h2]
    have he := e.1
    cases d <;> first | (cases he; done) | (unfold toPy PyData.canLay0 PyData.depth; exact ⟨by first | rfl | (rw [Bool.and_true]; exact he), rfl⟩)
theorem shaped_flat {ds : List D} (e : ds.all flatOk = true) : SeqAt.shaped (.list (toPys ds)) = true := by
  obtain ⟨h1, h2⟩ := flat_lay e
  unfold SeqAt.shaped PyData.canLay0 PyData.depth
  rw [h1, h2]
  rfl
theorem eqv_nil (ds : List D) : PyData.eqv (.list (toPys ds)) (.list []) = ds.isEmpty := by
  cases ds with
  | nil => unfold toPys PyData.eqv PyData.eqvAll; rfl
  | cons d r => unfold toPys PyData.eqv PyData.eqvAll; rfl
theorem toPy_lst {g : G} {ds : List D} : toPy (.lst g ds) = .list (toPys ds) := by unfold toPy; rfl
theorem two_nil {v u : V} {g g2 : G} {ds : List D} (dv : DV K p H v (.lst g ds)) (du : DV K p H u (.lst g2 [])) (e : ds.all flatOk = true) : Dp K H v (.list (toPys ds)) ∧ Dp K H u (.list []) := by
  cases dv with
  | lst _ hq r =>
    cases du with
    | lst _ hq2 r2 =>
      cases r2
      exact ⟨.lst (un_sqL hq) (dps_of r e), .lst (un_sqL hq2) .nil⟩
theorem ov_eqNil {g g2 : G} {ds : List D} (e : ds.all flatOk = true) : OV K p (rEqD K) (.lst g ds) (.lst g2 []) (.bl ds.isEmpty) true c := fun v u H Q dv du hp k => by
  obtain ⟨h1, h2⟩ := two_nil dv du e
  refine ⟨_, _, h1, h2, shaped_flat e, by decide, ?_⟩
  rw [eqv_nil]
  exact k _ H (Ext.refl p H) hp (.bl _) fun _ => New.sc (by intro a h; cases h)
theorem ov_neNil {g g2 : G} {ds : List D} (e : ds.all flatOk = true) : OV K p (rNeD K) (.lst g ds) (.lst g2 []) (.bl (!ds.isEmpty)) true c := fun v u H Q dv du hp k => by
  obtain ⟨h1, h2⟩ := two_nil dv du e
  refine ⟨_, _, h1, h2, shaped_flat e, by decide, ?_⟩
  rw [eqv_nil]
  exact k _ H (Ext.refl p H) hp (.bl _) fun _ => New.sc (by intro a h; cases h)
end
/-! ### isinstance by the kind of a datum -/
def isStrD : D → Bool
  | .str _ => true
  | _ => false
def isLstD : D → Bool
  | .lst _ _ => true
  | _ => false
theorem isi_str {d : D} {t : String} (h : tyD d = some t) : kitB t "str" = some (isStrD d) := by
  cases d <;> first | (cases h; done) | (cases h; first | exact (show kitB _ "str" = some false by decide +kernel) | exact (show kitB _ "str" = some true by decide +kernel))
theorem isi_list {d : D} {t : String} (h : tyD d = some t) : kitB t "list" = some (isLstD d) := by
  cases d <;> first | (cases h; done) | (cases h; first | exact (show kitB _ "list" = some false by decide +kernel) | exact (show kitB _ "list" = some true by decide +kernel))
end LA
namespace LA
open PySem PySem.Spec PyProof.Rows L2
theorem cv_lenT {K : PySem.W.Frag} {p : HD} {c : PC} {l : List Nat} (h : l.length ≤ 100000) : CV K p (fun xs H Q => ∃ x n, xs = [x] ∧ LenV K x H n ∧ Q (.int n) H) [.str (tx l)] (.int (l.length : Nat)) true c := fun vs H Q dvs hp k => by
  cases dvs with
  | cons h1 r =>
    cases r
    cases h1
    exact ⟨_, l.length, rfl, ⟨by rw [tx_len]; exact sz_le h, (tx_len l).symm⟩, k _ H (Ext.refl p H) hp (.int _) fun _ => New.sc (by intro a h; cases h)⟩
end LA
namespace LA
open PySem PySem.Spec PyProof.Rows L2
theorem zips_at {a b : List Nat} {i : Nat} {d : D} (h : (zips (tx a) (tx b))[i]? = some d) : d = .tup [.str (chr1 (a.getD i 0)), .str (chr1 (b.getD i 0))] ∧ i < min a.length b.length := by
  unfold zips at h
  have hl := (List.getElem?_eq_some_iff.mp h).1
  rw [List.length_map, List.length_range] at hl
  rw [List.getElem?_map, List.getElem?_range hl, tx_list, tx_list] at h
  have ea : (tx a).cps.size = a.length := tx_len a
  have eb : (tx b).cps.size = b.length := tx_len b
  rw [ea, eb] at hl
  exact ⟨(Option.some.inj h).symm, hl⟩
theorem zips_len (a b : List Nat) : (zips (tx a) (tx b)).length = min a.length b.length := by
  unfold zips
  have ea : (tx a).cps.size = a.length := tx_len a
  have eb : (tx b).cps.size = b.length := tx_len b
  rw [List.length_map, List.length_range, ea, eb]
theorem at_get {l : List Nat} {i : Nat} (h : i < l.length) : (tx l).cps.toList[i]? = some (l.getD i 0) := by
  rw [tx_list, List.getD_eq_getElem?_getD, List.getElem?_eq_getElem h]
  rfl
end LA
namespace LA
open PySem PySem.Spec PyProof.Rows L2
theorem rt_lstB {X : Cx} {W : WX} {p : HD} {ρ : Rho} {c c1 : PC} {e : Expr} {nw b : Bool} {g : G} {ds : List D} (h : RE X W p ρ c e (.val (.lst g ds) nw c1)) (hb : (!ds.isEmpty) = b) (he : ∀ whole, isTrue e X.env whole = (do let v ← whole; standAt e.pos; holding [v] (truthy v)) := by intro _; rfl) : RT X W p ρ c e (.val b c1) := by
  subst hb
  exact rt_lst h he
end LA
namespace LA
open PySem PySem.Spec PyProof.Rows L2
/-! ### forgetting; targets; the larger and the smaller -/
section
variable {X : Cx} {W : WX} {p : HD} {ρ ρ' ρ1 : Rho} {c c1 c2 : PC} {e tg : Expr} {pos : Pos} {d : D} {nw : Bool} {sts : List Stmt} {g : TG} {vs : List Nat} {K : PySem.W.Frag}
theorem rss_weak (h : RSs X W p ρ c sts (.nx ρ1 c1)) (hl : ρ'.length = ρ1.length) (hw : ∀ (i : Nat) (d : D), ρ'[i]? = some (some d) → ρ1[i]? = some (some d)) : RSs X W p ρ c sts (.nx ρ' c1) :=
  pss_imp h fun De σ H ⟨s, k⟩ => ⟨s, fun σ2 H2 e2 s2 => k σ2 H2 e2 (s2.weak (by rw [hl]; exact s2.len) hw fun i v d _ z => z)⟩
theorem rs_tg (he : RE X W p ρ c e (.val d nw c1)) (hg : PG X tg g) (htg : TgOk X.K g vs d ρ ρ') (hs : swapsWithSole [tg] e pos.line X.env = pure false := by rfl) (hw : swappedStores [tg] e X.env = pure none := by rfl)
    (h1 : (assignEach [tg] X.env).map (·.2) = [assign tg X.env] := by rfl) : RS X W p ρ c (.Assign [tg] e pos) (.nx ρ' c1) :=
  ps_imp (ps_asg he hg hs hw h1) fun De σ H h => ⟨h.1, fun v H1 e1 p1 dv _ => htg.run p c1 v σ H1 _ dv (h.1.mono e1 p1) p1 fun σ2 s2 _ => h.2 σ2 H1 e1 s2⟩
theorem cv_min2 {i j : Int} : CV K p (fun xs H Q => ∃ i j, xs = [.int i, .int j] ∧ Q (.int (if j < i then j else i)) H) [.int i, .int j] (.int (if j < i then j else i)) true c := fun vs H Q dvs hp k => by
  cases dvs with
  | cons h1 r =>
    cases r with
    | cons h2 r =>
      cases r
      cases h1
      cases h2
      exact ⟨i, j, rfl, k _ H (Ext.refl p H) hp (.int _) fun _ => New.sc (by intro a h; cases h)⟩
theorem cv_max2 {i j : Int} : CV K p (fun xs H Q => ∃ i j, xs = [.int i, .int j] ∧ Q (.int (if i < j then j else i)) H) [.int i, .int j] (.int (if i < j then j else i)) true c := fun vs H Q dvs hp k => by
  cases dvs with
  | cons h1 r =>
    cases r with
    | cons h2 r =>
      cases r
      cases h1
      cases h2
      exact ⟨i, j, rfl, k _ H (Ext.refl p H) hp (.int _) fun _ => New.sc (by intro a h; cases h)⟩
end
/-! ### what repr asks of small data -/
def smallI (i : Int) : Bool := decide (0 ≤ i) && decide (i < 10)
def smallD : D → Bool
  | .non => true
  | .bl _ => true
  | .int i => smallI i
  | .str x => PyData.strOk x && decide (x.length ≤ 100)
  | _ => false
theorem small_int : ∀ k : Nat, k < 10 → (PyData.int ((k : Nat) : Int)).showable = true ∧ PyData.intsShort 13 (.int ((k : Nat) : Int)) = true ∧ (PyData.int ((k : Nat) : Int)).weight ≤ 100 := by
  decide +kernel
theorem small_one {d : D} (h : smallD d = true) : okD false d = true ∧ (toPy d).showable = true ∧ (toPy d).canLay0 = true ∧ PyData.intsShort 13 (toPy d) = true ∧ (toPy d).weight ≤ 100 ∧ (toPy d).depth = 0 ∧ (toPy d).hasDict = false := by
  cases d with
  | non => exact ⟨rfl, by unfold toPy; decide +kernel, by unfold toPy; decide +kernel, by unfold toPy; decide +kernel, by unfold toPy; decide +kernel, by unfold toPy; decide +kernel, by unfold toPy; decide +kernel⟩
  | bl b => cases b <;> exact ⟨rfl, by unfold toPy; decide +kernel, by unfold toPy; decide +kernel, by unfold toPy; decide +kernel, by unfold toPy; decide +kernel, by unfold toPy; decide +kernel, by unfold toPy; decide +kernel⟩
  | int i =>
    obtain ⟨h1, h2⟩ := Bool.and_eq_true_iff.mp (show smallI i = true from h)
    have h1 := of_decide_eq_true h1
    have h2 := of_decide_eq_true h2
    obtain ⟨k, rfl⟩ : ∃ k : Nat, i = (k : Nat) := ⟨i.toNat, (Int.toNat_of_nonneg h1).symm⟩
    obtain ⟨a, b, c⟩ := small_int k (by omega)
    exact ⟨rfl, by unfold toPy; exact a, by unfold toPy PyData.canLay0; rfl, by unfold toPy; exact b, by unfold toPy; exact c, by unfold toPy PyData.depth; rfl, by unfold toPy PyData.hasDict; rfl⟩
  | str x =>
    obtain ⟨h1, h2⟩ := Bool.and_eq_true_iff.mp (show (PyData.strOk x && decide (x.length ≤ 100)) = true from h)
    exact ⟨rfl, by unfold toPy PyData.showable; rfl, by unfold toPy PyData.canLay0; exact h1, by unfold toPy PyData.intsShort; rfl, by unfold toPy PyData.weight; exact of_decide_eq_true h2, by unfold toPy PyData.depth; rfl, by unfold toPy PyData.hasDict; rfl⟩
  | _ => cases h
theorem small_all : ∀ {ds : List D}, ds.all smallD = true → okDs false ds = true ∧ PyData.showableAll (toPys ds) = true ∧ PyData.canLayAll0 (toPys ds) = true ∧ PyData.intsShortAll 13 (toPys ds) = true ∧ PyData.weightAll (toPys ds) ≤ 101 * ds.length ∧ PyData.depthAll (toPys ds) = 0 ∧ PyData.hasDictAll (toPys ds) = false
  | [], _ => ⟨rfl, by unfold toPys; decide +kernel, by unfold toPys; decide +kernel, by unfold toPys; decide +kernel, by unfold toPys; decide +kernel, by unfold toPys; decide +kernel, by unfold toPys; decide +kernel⟩
  | d :: r, h => by
    rw [List.all_cons, Bool.and_eq_true_iff] at h
    obtain ⟨a1, a2, a3, a4, a5, a6, a7⟩ := small_one h.1
    obtain ⟨b1, b2, b3, b4, b5, b6, b7⟩ := small_all h.2
    unfold okDs toPys PyData.showableAll PyData.canLayAll0 PyData.intsShortAll PyData.weightAll PyData.depthAll PyData.hasDictAll
    rw [a1, a2, a3, a4, a6, a7, b1, b2, b3, b4, b6, b7, List.length_cons]
    exact ⟨rfl, rfl, rfl, rfl, by omega, rfl, rfl⟩
theorem sz_of {d : PyData} (h1 : d.canLay0 = true) (h2 : PyData.intsShort 13 d = true) (h3 : d.weight ≤ 10000) : d.shown.length ≤ sizeLine := by
  have h := PyData.shown_le 13 (by decide) d (PyData.leavesShort_of_canLay0 13 d h1 h2)
  have e : sizeLine = 16777216 := by decide
  omega
theorem shows_small {d : D} (h : smallD d = true) : Shows d := by
  obtain ⟨a1, a2, a3, a4, a5, a6, a7⟩ := small_one h
  exact ⟨by rw [a7]; exact a1, a2, by omega, sz_of a3 a4 (by omega)⟩
theorem shows_list {g : G} {ds : List D} (h : ds.all smallD = true) (hl : ds.length ≤ 90) : Shows (.lst g ds) := by
  obtain ⟨b1, b2, b3, b4, b5, b6, b7⟩ := small_all h
  refine ⟨?_, ?_, ?_, sz_of ?_ ?_ ?_⟩
  · unfold toPy PyData.hasDict okD
    rw [b7, b1]
    simp
  · unfold toPy PyData.showable
    exact b2
  · unfold toPy PyData.depth
    omega
  · unfold toPy PyData.canLay0
    exact b3
  · unfold toPy PyData.intsShort
    exact b4
  · unfold toPy PyData.weight
    omega
end LA
namespace LA
open PySem PySem.Spec PyProof.Rows L2
/-- the first knows no more than the second -/
inductive Less : Rho → Rho → Prop
  | nil : Less [] []
  | skip {o : Option D} {r r1 : Rho} : Less r r1 → Less (none :: r) (o :: r1)
  | same {o : Option D} {r r1 : Rho} : Less r r1 → Less (o :: r) (o :: r1)
theorem Less.len : ∀ {r r1 : Rho}, Less r r1 → r.length = r1.length
  | _, _, .nil => rfl
  | _, _, .skip h => by rw [List.length_cons, List.length_cons, Less.len h]
  | _, _, .same h => by rw [List.length_cons, List.length_cons, Less.len h]
theorem Less.get : ∀ {r r1 : Rho}, Less r r1 → ∀ (i : Nat) (d : D), r[i]? = some (some d) → r1[i]? = some (some d)
  | _, _, .nil, _, _, h => h
  | _, _, .skip _, 0, _, h => by cases h
  | _, _, .same _, 0, _, h => h
  | _, _, .skip h, i + 1, d, z => Less.get h i d z
  | _, _, .same h, i + 1, d, z => Less.get h i d z
theorem rss_less {X : Cx} {W : WX} {p : HD} {ρ ρ' ρ1 : Rho} {c c1 : PC} {sts : List Stmt} (h : RSs X W p ρ c sts (.nx ρ1 c1)) (hw : Less ρ' ρ1) : RSs X W p ρ c sts (.nx ρ' c1) := rss_weak h hw.len hw.get
/-- data without the pool -/
inductive OkR : Rho → Prop
  | nil : OkR []
  | non {r : Rho} : OkR r → OkR (none :: r)
  | one {d : D} {r : Rho} : okD false d = true → OkR r → OkR (some d :: r)
theorem OkR.get : ∀ {r : Rho}, OkR r → ∀ (i : Nat) (d : D), r[i]? = some (some d) → okD false d = true
  | _, .nil, _, _, h => by simp at h
  | _, .non _, 0, _, h => by cases h
  | _, .one h _, 0, _, z => by
    cases Option.some.inj (Option.some.inj z)
    exact h
  | _, .non h, i + 1, d, z => OkR.get h i d z
  | _, .one _ h, i + 1, d, z => OkR.get h i d z
end LA

namespace LA
open PySem PySem.Spec PyProof.Rows L2
/-! ### one call from one place, its guards in view -/
/-- a def of the text called from the place pl: its body's reading is wanted there alone -/
theorem call_at {CX : CXT} {P : Program} {w : World} {K : PySem.W.Frag} {mg : Str → Option Value} {base : Heap} {k : Nat} {x qual : Str} {st : Stmt} {f : Addr} {fd : FuncData} {N ps : List Str} (F : Fun K x qual st f fd) (S : FnScope N ps (defScope st))
    {pl : Around} {up : List Env} {sh : Shared} {G : Hp} {ag : Args} {us : List Value} {vs : List V} {R : VK} {Ex : XK} (room : Room (k + 1) pl) (e0 : Env0 P w K mg base pl up sh G) (bind : BindsTo sh fd ag (ps.zip us)) (rv : Vals vs us) (len : vs.length = ps.length)
    (body : ∀ cdv : Value, Room k (pl.deeper (envOfC qual (defScope st) sh.heap.objs.size f cdv)) → ∃ t, PSs (cxOf CX P w K mg base N qual (defScope st) f cdv pl up sh G Ex) (defBody st) t ∧ t { nx := fun _ G' => R .non G', rt := R } (L2.start N vs) G) :
    codeAny (model P w) pl (.call (.ref f) ag) (CR CX up P w G sh R Ex) sh := by
  obtain ⟨oc, od, kV, doc, pm, an, cdv, ct, osl, rfl, look, code⟩ := F.ex
  obtain ⟨t, runs, want⟩ := body cdv (room.deeper _)
  have inK : K.In sh.heap := e0.mod.kin.keeps fun b o y => (e0.bs b o y).1
  have noLim : sh.heap.NoLimit := e0.mod.nolimit.keeps fun b o y => (e0.bs b o y).1
  have kinds : ∀ y ∈ ps.zip us, (defScope st).names.lookup y.1 = some .local ∨ ((defScope st).names.lookup y.1 = some .cell ∧ ((cellsFrom (sh.heap.objs.size + 1) (defScope st).names []).lookup y.1).isSome = true) := fun ⟨n, v⟩ my =>
    (S.par n (List.of_mem_zip my).1).elim (fun q => .inl q) fun q => .inr ⟨q, PySem.W.cellsFrom_some _ _ _ (.inl q)⟩
  refine codeAny_call_function room.depth (inK _ _ look) rfl S.co S.gen rfl (PySem.W.codeRec_of inK code) (bind _ _ _ _ ?_)
  refine wpAny_newFunctionEnv_cells S.kind kinds fun env ee s1 new => ?_
  subst ee
  refine ⟨noLim.keeps new.toInCall.keep, codeAny_func ?_⟩
  have J : Inv (cxOf CX P w K mg base N qual (defScope st) f cdv pl up sh G Ex) [] (L2.start N vs) G s1 := inv_start S room.hd e0 len rv new
  refine wpAny_mono (runs.run [] s1 (L2.start N vs) G _ J want) (fun fl s2 got => ?_) fun e s2 got => got
  match fl, got with
  | .ret u, ⟨v, σ2, G2, J2, r2, q2⟩ => exact ⟨v, G2, J2.os, J2.bare, J2.base, J2.hok, r2, q2⟩
  | .next, ⟨σ2, G2, J2, q2⟩ => exact ⟨V.non, G2, J2.os, J2.bare, J2.base, J2.hok, rfl, q2⟩
  | .brk, ⟨_, _, _, z⟩ => exact z.elim
  | .cont, ⟨_, _, _, z⟩ => exact z.elim
/-- what a law ends in -/
def LawEnd (s0 : Shared) : Result → Shared → Prop := fun r s2 => r = .ok (.ret (.bool true)) ∧ OldK s0.heap s2.heap ∧ s2.os = s0.os ∧ AllBare s2.gens
/-- the law's call, from a run over a heap of which the script alone may be tracked -/
theorem law_at {P : Program} {w : World} {K : PySem.W.Frag} {mg mb : Str → Option Value} {fa a : Addr} {s0 : Shared} {its : List Value} {ns : List Int}
    (kin : K.In s0.heap) (nsM : s0.heap.Ns mainGlobals mg) (nsB : s0.heap.Ns builtinsNs mb) (bi : ∀ x : Str, x ≠ "__name__" → mb x = bootBuiltins x) (noL : s0.heap.NoLimit) (gen : s0.gens = #[])
    (obj : s0.heap.get? a = some { cls := .type "list", data := .seq its.toArray }) (whole : IntsAre its ns) (short : ns.length ≤ sizeLine)
    (run : ∀ (base : Heap) (G : Hp), K.In base → base.Ns mainGlobals mg → Env0 P w K mg base callerA [] s0 G → SqL K G a (ns.map V.int) →
      codeAny (model P w) callerA (.call (.ref fa) ⟨[.ref a], []⟩) (CR CX0 [] P w G s0 (fun v _ => v = .bl true) fun _ _ _ => False) s0) :
    codeAny (model P w) callerA (.call (.ref fa) ⟨[.ref a], []⟩) (LawEnd s0) s0 := by
  have vals := vals_ints whole
  have same := whole.length
  -- G tracks nothing, or the script as it stands
  have step : ∀ G : Hp, (∀ b u, G b = some u → b = a ∧ K.lookup a = none ∧ ∃ o xs, u = .frz o (.lst xs)) → HOk P w G s0.heap → SqL K G a (ns.map V.int) → codeAny (model P w) callerA (.call (.ref fa) ⟨[.ref a], []⟩) (LawEnd s0) s0 := by
    intro G only hok sq
    have free : ∀ {b : Addr}, b ≠ a → G b = none := fun {b} ne => by
      cases y : G b with
      | none => rfl
      | some u => exact absurd (only b u y).1 ne
    have noDict : ∀ {b : Addr} {o : Obj} {es : Array DictEntry} {ep : Nat}, s0.heap.get? b = some o → o.data = .dict es ep → G b = none := fun {b o es ep} y1 y2 => free fun z => by
      rw [z, obj] at y1
      cases y1
      cases (show Data.seq its.toArray _ = Data.dict es ep from y2)
    have kept : ∀ {b : Addr} {m : Str → Option Value}, s0.heap.Ns b m → (hidT s0.heap G).Ns b m := fun {b m} ⟨o, es, ep, y1, y2, y3⟩ => ⟨o, es, ep, hidT_get y1 (noDict y1 y2), y2, y3⟩
    have kinB : K.In (hidT s0.heap G) := fun b o y => hidT_get (kin b o y) (by
      cases z : G b with
      | none => rfl
      | some u =>
        obtain ⟨rfl, no, _⟩ := only b u z
        rw [no] at y
        cases y)
    have env : Env0 P w K mg (hidT s0.heap G) callerA [] s0 G := ⟨rfl, ⟨kinB, kept nsM, ⟨mb, kept nsB, bi⟩, noL.elim fun mc q => ⟨mc, kept q.1, q.2⟩⟩, fun b o y => of_hidT y, Nat.le_of_eq (hidT_size _ _), trivial, fun b m => absurd (show b ∈ ([] : List Addr) from m) (by simp), hok, .of_eq gen⟩
    refine codeAny_mono (run _ G kinB (kept nsM) env sq) fun r s2 got => ?_
    match r, got with
    | .error e, z => exact z.elim
    | .ok .next, z => exact z.elim
    | .ok .brk, z => exact z.elim
    | .ok .cont, z => exact z.elim
    | .ok (.ret u), ⟨v, G2, os, bare, un, hok2, rel, q⟩ =>
      have q : v = .bl true := q
      subst q
      obtain rfl : u = Value.bool true := rel
      refine ⟨rfl, OldK.of_keep fun b o y => ?_, os, bare⟩
      cases z : G b with
      | none => exact un.keep b o y z (fun m => absurd (show b ∈ ([] : List Addr) from m) (by simp)) (by simp)
      | some u =>
        obtain ⟨rfl, _, ob, xs, rfl⟩ := only b u z
        obtain ⟨y1, _⟩ := hok b _ z
        obtain ⟨y2, _⟩ := hok2 b _ (un.frzs b ob _ z)
        rw [y] at y1
        cases y1
        exact y2
  cases lk : K.lookup a with
  | some o =>
    have y := kin a o lk
    rw [obj] at y
    cases y
    exact step (fun _ => none) (fun b u z => nomatch z) (fun b u z => nomatch z) (.inr ⟨_, its.toArray, _, lk, rfl, rfl, rfl, by rw [List.size_toArray, same]; exact short, by simpa using vals⟩)
  | none =>
    refine step (fun b => if b = a then some (.frz { cls := .type "list", data := .seq its.toArray } (.lst (ns.map V.int))) else none) (fun b u z => ?_) (fun b u z => ?_) (.inl (.inr ⟨{ cls := .type "list", data := .seq its.toArray }, if_pos rfl⟩))
    · by_cases y : b = a
      · have z := (if_pos y).symm.trans z
        cases z
        exact ⟨y, lk, _, _, rfl⟩
      · cases (if_neg y).symm.trans z
    · by_cases y : b = a
      · have z := (if_pos y).symm.trans z
        cases z
        subst y
        exact ⟨obj, by rw [List.length_map]; exact short, its, _, vals, obj⟩
      · cases (if_neg y).symm.trans z
end LA

namespace LA
open PySem PySem.Spec PyProof.Rows L2
/-! ### enumerate over a text -/
def iEnumS (ta : TA) : TI := fun σ H R => ta σ H fun vs H1 => ∃ z : Str, vs = [.str z] ∧ R (Itp z.cps.size (fun i => .int (i : Nat)) (sgn z)) H1
theorem pi_enumS {X : Cx} {e : Expr} {ta : TA} {p pos tpos : Pos} {elts : List Expr} {kk : Nat} (hg : Gl X "enumerate") (hm : X.mg "enumerate" = none) (ha : PA X [e] ta) (hs : starEach [e] X.env = [(false, eval e X.env)] := by rfl) :
    PI X (.Tuple elts kk tpos) (.Call (.Name "enumerate" p) [e] [] pos) (iEnumS ta) := by
  refine ⟨fun pins s σ H R I h => ?_⟩
  refine Call_ (ld_blt I hg hm boot_enumerate (PyProof.Rows.callWith_type1 (thn (ha.run pos pins s σ H _ I h) fun us sh ⟨vs, H1, I1, r1, q1⟩ => ?_) hs rfl))
  obtain ⟨z, ex, q⟩ := q1
  subst ex
  cases r1 with
  | cons r rr =>
    cases rr
    obtain ⟨t, rfl⟩ := r
    refine call_enumerate_str fun hp en it sz kp => wpAny_pyIter_enum en ?_
    have I2 : Inv X pins σ H1 { sh with heap := hp } := I1.kept (t' := sh.toks) kp
    have ne : sh.heap.objs.size + 1 ≠ sh.heap.objs.size := Nat.succ_ne_self _
    refine ⟨sh.heap.objs.size + 1, _, _, _, H1, rfl, I2, turn_pair (P1 := fun i x => ∃ t, x = .int (i : Nat) t)
      (fun A hA => (GoesN.enumFrom 0 (Draws.text (A := A.in1) hA sh.heap.objs.size z t) (sh.heap.objs.size + 1) ne (fun m => ne (List.mem_singleton.mp m)) (List.mem_singleton.mpr rfl)).mono fun i h0 v h1 _ ⟨T, u, x, ev, big, px, tup⟩ => ⟨T, _, x, ev, big, ⟨u, by rw [Int.zero_add]⟩, px, tup⟩)
      (fun i x _ hx => by obtain ⟨u, rfl⟩ := hx; exact ⟨u, rfl⟩) (fun i x _ hx => sgn_of hx) (List.mem_cons_self ..) (fun i h st c hc => ?_) (fun A i s Q E st h => by obtain ⟨⟨old, y⟩, _⟩ := st; exact wpAny_pyIter_enum y h), ⟨⟨_, en⟩, it⟩, fun c hc => ?_, q⟩
    · obtain ⟨⟨old, y⟩, y2⟩ := st
      rcases List.mem_cons.mp hc with w | w
      · rw [w]
        exact ⟨_, y, fun v q => nomatch q⟩
      · rw [List.mem_singleton.mp w]
        obtain ⟨o, y3, _, y4⟩ := y2
        exact ⟨o, y3, fun v q => by rw [y4] at q; cases q⟩
    · have le : sh.heap.objs.size ≤ c := by
        rcases List.mem_cons.mp hc with w | w
        · rw [w]; exact Nat.le_add_right _ _
        · rw [List.mem_singleton.mp w]; exact Nat.le_refl _
      exact I1.fpOk le (I1.hok.fresh le)
section
variable {X : Cx} {W : WX} {p : HD} {ρ : Rho} {c c1 c2 c3 : PC} {e a b cc : Expr} {pos : Pos} {d1 d2 d3 : D} {n1 n2 n3 nw : Bool} {K : PySem.W.Frag}
def enums (l : List Nat) : List D := (List.range l.length).map fun i => D.tup [.int (i : Nat), .str (chr1 (l.getD i 0))]
theorem enums_at {l : List Nat} {i : Nat} {d : D} (h : (enums l)[i]? = some d) : d = .tup [.int (i : Nat), .str (chr1 (l.getD i 0))] ∧ i < l.length := by
  unfold enums at h
  have hl := (List.getElem?_eq_some_iff.mp h).1
  rw [List.length_map, List.length_range] at hl
  rw [List.getElem?_map, List.getElem?_range hl] at h
  exact ⟨(Option.some.inj h).symm, hl⟩
theorem enums_len (l : List Nat) : (enums l).length = l.length := by unfold enums; rw [List.length_map, List.length_range]
theorem ri_enumS {ps tpos : Pos} {elts : List Expr} {kk : Nat} {l : List Nat} (hm : X.mg "enumerate" = none) (h : RE X W p ρ c e (.val (.str (tx l)) nw c1)) (hg : Gl X "enumerate" := by rfl) (hs : starEach [e] X.env = [(false, eval e X.env)] := by rfl) :
    RI X W p ρ c (.Tuple elts kk tpos) (.Call (.Name "enumerate" ps) [e] [] pos) (enums l) c1 :=
  pi_imp (pi_enumS hg hm (ra_cons (W := W) h (ra_nil (W := W)) (by rw [hs]; rfl)) hs) fun σ H R ⟨s, k⟩ => ⟨s, fun vs H1 e1 p1 dvs => by
    cases dvs with
    | cons hv hr =>
      cases hr
      cases hv
      have sz : (tx l).cps.size = l.length := tx_len l
      refine ⟨_, rfl, k _ H1 e1 p1 fun q c' H2 qe qs p2 => ⟨?_, fun i d hd => ?_⟩⟩
      · show (enums l).length = (tx l).cps.size
        rw [enums_len, sz]
      · obtain ⟨rfl, hi⟩ := enums_at hd
        refine ⟨by show i < (tx l).cps.size; rw [sz]; exact hi, fun x H3 y => ?_⟩
        obtain ⟨T, rfl, hT, rfl⟩ := y
        refine ⟨Ext.new hT, p2.upd hT, .tup (.inl (.inl (hide_upd p2 hT))) (.cons (.int _) (.cons ?_ .nil))⟩
        have e' : LA.sgn (tx l) i = .str (chr1 (l.getD i 0)) := by
          unfold LA.sgn
          rw [tx_list]
          rfl
        rw [e']
        exact .str _⟩
/-! ### a < b < c -/
theorem re_chain {op op' : CmpOp} {r r' : R2} {k1 k2 : Bool} (ho : OpR X (compareOp op) r) (ho' : OpR X (compareOp op') r') (ha : RE X W p ρ c a (.val d1 n1 c1)) (hb : RE X W p ρ c1 b (.val d2 n2 c2)) (hc : RE X W p ρ c2 cc (.val d3 n3 c2)) (h1 : OV X.K p r d1 d2 (.bl k1) true c2) (h2 : OV X.K p r' d2 d3 (.bl k2) true c2)
    (hm : lastMarks [op, op'] [b, cc] = false := by with_unfolding_all rfl) : RE X W p ρ c (.Compare a [op, op'] [b, cc] pos) (.val (.bl (k1 && k2)) true c2) :=
  pe_imp (pe_chain ho ho' ha hb hc hm) fun σ H Q ⟨s, k⟩ => ⟨s, fun v H1 e1 p1 dv _ => ⟨s.mono e1 p1, fun u H2 e2 p2 du _ => h1 v u H2 _ (dv.mono e2) du p2 fun w H3 e3 p3 dw _ => by
    cases dw
    refine ⟨k1, rfl, ?_⟩
    have e13 : Ext p H H3 := (e1.trans e2).trans e3
    cases k1 with
    | false => exact iteF (k _ H3 e13 p3 (.bl false) fun _ => New.sc (by intro a h; cases h))
    | true => exact iteT ⟨s.mono e13 p3, fun w H4 e4 p4 dw _ => h2 u w H4 Q (du.mono (e3.trans e4)) dw p4 fun z H5 e5 p5 dz _ => k z H5 ((e13.trans e4).trans e5) p5 dz fun _ => by
        cases dz
        exact New.sc (by intro a h; cases h)⟩⟩⟩
end
end LA

namespace LA
open PySem PySem.Spec PyProof.Rows L2
theorem SR.sub {K : PySem.W.Frag} {p : HD} {H H' : Hp} {σ : L2.St} {ρ : Rho} {c c' : PC} (s : SR K p H σ ρ c) (e : Sub (hide p H) (hide p H')) (q : PoolAt K p H' c') : SR K p H' σ ρ c' :=
  ⟨s.len, fun i d h => by
    obtain ⟨v, h1, h2⟩ := s.at' i d h
    exact ⟨v, h1, h2.sub e fun _ _ z => z⟩, q⟩
/-! ### comprehensions with two for -/
def flat2 (zs : Nat → List D) (y : Nat → Nat → D) : Nat → List D
  | 0 => []
  | n + 1 => flat2 zs y n ++ (List.range (zs n).length).map (y n)
def tiU2 (K : PySem.W.Frag) (xs : List D) (zs : Nat → List D) (ρt : Nat → Rho) (c : PC) : TI := fun σ H R => ∃ (q : HD) (i : Nat) (d : D), xs[i]? = some d ∧ tI K Wf q (ρt i) c (zs i) c σ H R
def teU2 (K : PySem.W.Frag) (xs : List D) (zs : Nat → List D) (y : Nat → Nat → D) (ρu : Nat → Nat → Rho) (nw : Bool) (c : PC) : TE := fun σ H Q => ∃ (q : HD) (i j : Nat) (d e : D), xs[i]? = some d ∧ (zs i)[j]? = some e ∧ tE K Wf q (ρu i j) c (.val (y i j) nw c) σ H Q
section
variable {X : Cx} {W : WX} {p : HD} {ρ : Rho} {c : PC} {K : PySem.W.Frag}
theorem app_at {a L : Addr} {o : HO} {H5 : Hp} {u : HO} {p : HD} (h : hide (p.also L) H5 a = some o) : hide (p.also L) (upd H5 L u) a = some o := by
  obtain ⟨h1, h2⟩ := hide_some h
  rw [hide_ne h2, upd_ne (fun z => h2 (.inr (by rw [z]; exact List.mem_cons_self)))]
  exact h1
theorem lc2_read {xs : List D} {zs : Nat → List D} {y : Nat → Nat → D} {g g1 : TG} {vs vs1 : List Nat} {ρt : Nat → Rho} {ρu : Nat → Nat → Rho} {nw : Bool}
    (htg : ∀ i d, xs[i]? = some d → TgOk K g vs d (wipeR ρ vs) (ρt i)) (htg1 : ∀ i j d e, xs[i]? = some d → (zs i)[j]? = some e → TgOk K g1 vs1 e (wipeR (ρt i) vs1) (ρu i j))
    (hz : ∀ i j d, xs[i]? = some d → j < (zs i).length → (flat2 zs y i).length + j < 100000) : ∀ σ H Q, tE K W p ρ c (.val (.lst ⟨false, true⟩ (flat2 zs y xs.length)) true c) σ H Q → tLc2 (tI K W p ρ c xs c) g tYes (tiU2 K xs zs ρt c) g1 tYes (teU2 K xs zs y ρu nw c) vs vs1 σ H Q := by
  refine fun σ H Q ⟨s, k⟩ => ⟨s, fun J H1 e1 p1 yl L nL => ?_⟩
  have nLp : L ∉ p.m := fun z => p1.not nL (.inl z)
  have s1 : SR K p H1 σ ρ c := s.mono e1 p1
  refine ⟨fun i m H2 => m = xs.length - i ∧ i ≤ xs.length ∧ Ext p H1 H2 ∧ (∃ us, H2 L = some (.lst us) ∧ DVs K (p.also L) H2 us (flat2 zs y i)) ∧ PoolAt K (p.also L) H2 c, ⟨xs.length, by simp, Nat.zero_le _, Ext.new nL, ⟨[], upd_same, .nil⟩, p1.also nL⟩, ?_⟩
  rintro i m H2 ⟨rfl, hi', e2, ⟨us, hL, dus⟩, p2⟩
  obtain ⟨hstop, hgo⟩ := yl (p.also L) c H2 rfl (fun b o z => (ext_also e2).hide b o (also_sub nL b o z)) p2
  by_cases hlt : i < xs.length
  · have hd : xs[i]? = some xs[i] := List.getElem?_eq_getElem hlt
    obtain ⟨g1', g2⟩ := hgo i _ hd
    refine .inr ⟨g1', fun H' => ∃ us, H' L = some (.lst us) ∧ DVs K (p.also L) H' us (flat2 zs y (i + 1)) ∧ Ext p H1 H' ∧ PoolAt K (p.also L) H' c, fun H' ⟨us', a1, a2, a3, a4⟩ => ⟨xs.length - (i + 1), by omega, rfl, hlt, a3, ⟨us', a1, a2⟩, a4⟩, fun x H3 hy => ?_⟩
    obtain ⟨e3, p3, dx⟩ := g2 x H3 hy
    have sH : SR K (p.also L) H3 σ ρ c := ⟨s.len, fun j d hj => by
      obtain ⟨v, h1, h2⟩ := s1.at' j d hj
      exact ⟨v, h1, ((h2.also nL).mono (ext_also e2)).mono e3⟩, p3⟩
    refine (htg i _ hd).run (p.also L) c x _ H3 _ dx (sH.wipe _) p3 fun σ2 s2 hw => ⟨hw.trans wipe_wipe, ?_⟩
    simp only [tYes, if_true]
    refine ⟨p.also L, i, _, hd, s2, fun J1 H4 e4 p4 yl1 => ?_⟩
    have e14 : Ext p H1 H4 := fun a o n h => e4 a o n (e3 a o n (e2 a o n h))
    have hL4 : H4 L = some (.lst us) := e4 L _ nLp (e3 L _ nLp hL)
    refine ⟨fun j k' H5 => k' = (zs i).length - j ∧ j ≤ (zs i).length ∧ Ext p H1 H5 ∧ (∃ us, H5 L = some (.lst us) ∧ DVs K (p.also L) H5 us (flat2 zs y i ++ (List.range j).map (y i))) ∧ PoolAt K (p.also L) H5 c ∧ Sub (hide (p.also L) H4) (hide (p.also L) H5), ⟨(zs i).length, by simp, Nat.zero_le _, e14, ⟨us, hL4, ?_⟩, p4, fun _ _ z => z⟩, ?_⟩
    · show DVs K _ H4 us (flat2 zs y i ++ [])
      rw [List.append_nil]
      exact (dus.mono e3).mono e4
    · rintro j k' H5 ⟨rfl, hj', e5, ⟨ws, hL5, dws⟩, p5, sb5⟩
      obtain ⟨st1, go1⟩ := yl1 (p.also L) c H5 rfl sb5 p5
      by_cases hjl : j < (zs i).length
      · have he : (zs i)[j]? = some ((zs i)[j]'hjl) := List.getElem?_eq_getElem _
        obtain ⟨go2, yl2⟩ := go1 j _ he
        refine .inr ⟨go2, fun H' => ∃ us, H' L = some (.lst us) ∧ DVs K (p.also L) H' us (flat2 zs y i ++ (List.range (j + 1)).map (y i)) ∧ Ext p H1 H' ∧ PoolAt K (p.also L) H' c ∧ Sub (hide (p.also L) H4) (hide (p.also L) H'), fun H' ⟨us', a1, a2, a3, a4, a5⟩ => ⟨(zs i).length - (j + 1), by omega, rfl, hjl, a3, ⟨us', a1, a2⟩, a4, a5⟩, fun x1 H6 hy1 => ?_⟩
        obtain ⟨e6, p6, dx1⟩ := yl2 x1 H6 hy1
        have s6 : SR K (p.also L) H6 σ2 (ρt i) c := (((s2.mono e4 p4).sub sb5 p5).mono e6 p6)
        refine (htg1 i j _ _ hd he).run (p.also L) c x1 _ H6 _ dx1 (s6.wipe _) p6 fun σ3 s3 hw3 => ⟨hw3.trans wipe_wipe, ?_⟩
        refine ⟨p.also L, i, j, _, _, hd, he, s3, fun v H7 e7 p7 dv _ => ?_⟩
        have e57 : Ext (p.also L) H5 H7 := fun a o n h => e7 a o n (e6 a o n h)
        have hL7 : H7 L = some (.lst ws) := e57 L _ nLp hL5
        have sb : Sub (hide (p.also L) H7) (hide (p.also L) (upd H7 L (.lst (ws ++ [v])))) := fun a o h => app_at h
        refine ⟨ws, hL7, ?_, ws ++ [v], upd_same, ?_, ?_, ?_, fun b o z => sb b o (e57.hide b o (sb5 b o z))⟩
        · rw [dws.length, List.length_append, List.length_map, List.length_range]
          exact sz_lt (hz i j _ hd hjl)
        · rw [List.range_succ, List.map_append, ← List.append_assoc]
          exact DVs.app ((dws.mono e57).sub sb fun _ _ z => z) (.cons (dv.sub sb fun _ _ z => z) .nil)
        · intro a o n h
          rw [upd_ne (ne_of_none h nL)]
          exact e57 a o n (e5 a o n h)
        · exact p7.other List.mem_cons_self nLp
      · have ej : j = (zs i).length := by omega
        subst ej
        exact .inl ⟨st1, ws, hL5, dws, e5, p5⟩
  · have e : i = xs.length := by omega
    subst e
    have hh : hide p H2 L = some (.lst us) := by
      rw [hide_ne (p1.not nL)]
      exact hL
    exact .inl ⟨hstop, k (.ref L) H2 (e1.trans e2) p2.less (.lst ⟨(fun z => nomatch z), fun _ => hh⟩ (.inl (.inl hh)) (dus.sub sub_also fun _ _ z => z)) fun _ => New.back e1 fun b z => by
      cases z
      exact ⟨⟨nL, nLp⟩, p2, fun g ds z => by
        cases z
        exact ⟨us, hL, dus⟩⟩⟩
/-- name = [e for x in xs for y in ys] -/
theorem rs_lc2 {elt iter iter1 tg tg1 : Expr} {scope : Scope} {own : List (Str × Nat)} {vs1 : List Nat} {xs : List D} {g g1 : TG} {yn : Str} {py pos spos : Pos} (j : Nat) (zs : Nat → List D) (y : Nat → Nat → D) (ρt : Nat → Rho) (ρu : Nat → Nat → Rho) (nw : Bool) (hc : X.calm = true) (hN : X.N.Nodup) (hi : RI X W p ρ c tg iter xs c) (ok : BlkOk X.N X.env.scope scope own) (hv : ∀ i ∈ vs1, i ∈ own.map (·.2))
    (hg : ∀ (s : Shared) (H : Hp) (C : Addr) (cl : List (Str × Addr)) (fp : List Addr), PG (X.blk s H scope (compEnvC scope cl C X.env) fp) tg g) (hg1 : ∀ (s : Shared) (H : Hp) (C : Addr) (cl : List (Str × Addr)) (fp : List Addr), PG (X.blk s H scope (compEnvC scope cl C X.env) fp) tg1 g1)
    (hi1 : ∀ i d, xs[i]? = some d → ∀ (q : HD) (s : Shared) (H : Hp) (C : Addr) (cl : List (Str × Addr)) (fp : List Addr), RI (X.blk s H scope (compEnvC scope cl C X.env) fp) Wf q (ρt i) c tg1 iter1 (zs i) c)
    (htg : ∀ i d, xs[i]? = some d → TgOk X.K g (own.map (·.2)) d (wipeR ρ (own.map (·.2))) (ρt i)) (htg1 : ∀ i j d e, xs[i]? = some d → (zs i)[j]? = some e → TgOk X.K g1 vs1 e (wipeR (ρt i) vs1) (ρu i j))
    (he : ∀ i j d e, xs[i]? = some d → (zs i)[j]? = some e → ∀ (q : HD) (s : Shared) (H : Hp) (C : Addr) (cl : List (Str × Addr)) (fp : List Addr), RE (X.blk s H scope (compEnvC scope cl C X.env) fp) Wf q (ρu i j) c elt (.val (y i j) nw c))
    (hz : ∀ i j d, xs[i]? = some d → j < (zs i).length → (flat2 zs y i).length + j < 100000) (hy : X.N[j]? = some yn := by rfl) (hyl : X.env.scope.names.lookup yn = some .local := by rfl)
    (hsw : swapsWith (.ListComp elt [⟨tg, iter, [], 0⟩, ⟨tg1, iter1, [], 0⟩] scope pos) (some (.Name yn py)) spos.line X.env = pure true := by exact sw_true rfl rfl rfl (by decide +kernel))
    (hs : ∀ x, foldedSetIterable iter X.env x = pure x := by intro _; rfl) (hs1 : ∀ env x, foldedSetIterable iter1 env x = pure x := by intro _ _; rfl) :
    RS X W p ρ c (.Assign [.Name yn py] (.ListComp elt [⟨tg, iter, [], 0⟩, ⟨tg1, iter1, [], 0⟩] scope pos) spos) (.nx (ρ.set j (some (.lst ⟨false, true⟩ (flat2 zs y xs.length)))) c) :=
  ps_imp (ps_setLc2 (wi1 := tiU2 X.K xs zs ρt c) (te := teU2 X.K xs zs y ρu nw c) hc hN hy hyl hsw hi ok hv hg (fun _ _ _ _ _ => pts_nil) (fun s H C cl fp => ⟨fun pins s' σ H' Q I ⟨q, i, d, hd, h⟩ => (hi1 i d hd q s H C cl fp).run pins s' σ H' Q I h⟩) hg1 (fun _ _ _ _ _ => pts_nil)
    (fun s H C cl fp => ⟨fun pins s' σ H' Q I ⟨q, i, j, d, e, hd, he', h⟩ => (he i j d e hd he' q s H C cl fp).run pins s' σ H' Q I h⟩) hs hs1) fun De σ H h => lc2_read htg htg1 hz σ H _ ⟨h.1, fun v H1 e1 p1 dv _ => h.2 _ H1 e1 ((h.1.mono e1 p1).set j dv)⟩
end
section
variable {X : Cx} {W : WX} {p : HD} {ρ : Rho} {c : PC} {tg : Expr}
theorem rn_lc {elt iter : Expr} {ifs : List Expr} {scope : Scope} {own : List (Str × Nat)} {xs : List D} {g : TG} {yn : Str} {py pos spos : Pos} (j : Nat) (b : Nat → Bool) (y : Nat → D) (cs cm : Nat → PC) (ρt : Nat → Rho) (nws : Nat → Bool) (hc : X.calm = true) (hN : X.N.Nodup) (hi : RI X W p ρ c tg iter xs (cs 0)) (ok : BlkOk X.N X.env.scope scope own)
    (hg : ∀ (s : Shared) (H : Hp) (C : Addr) (cl : List (Str × Addr)) (fp : List Addr), PG (X.blk s H scope (compEnvC scope cl C X.env) fp) tg g)
    (htg : ∀ i d, xs[i]? = some d → TgOk X.K g (own.map (·.2)) d (wipeR ρ (own.map (·.2))) (ρt i))
    (ht : ∀ i d, xs[i]? = some d → ∀ (q : HD) (s : Shared) (H : Hp) (C : Addr) (cl : List (Str × Addr)) (fp : List Addr), PTs (X.blk s H scope (compEnvC scope cl C X.env) fp) ifs (tT X.K Wf q (ρt i) (cs i) (.val (b i) (cm i))))
    (he : ∀ i d, xs[i]? = some d → b i = true → ∀ (q : HD) (s : Shared) (H : Hp) (C : Addr) (cl : List (Str × Addr)) (fp : List Addr), RE (X.blk s H scope (compEnvC scope cl C X.env) fp) Wf q (ρt i) (cm i) elt (.val (y i) (nws i) (cs (i + 1))))
    (hno : ∀ i d, xs[i]? = some d → b i = false → cs (i + 1) = cm i) (hz : xs.length ≤ 100000) (hy : X.N[j]? = some yn := by rfl) (hyl : X.env.scope.names.lookup yn = some .local := by rfl) (hsw : swapsWith (.ListComp elt [⟨tg, iter, ifs, 0⟩] scope pos) (some (.Name yn py)) spos.line X.env = pure true := by exact sw_true rfl rfl rfl (by decide +kernel))
    (hs : ∀ x, foldedSetIterable iter X.env x = pure x := by intro _; rfl) : RN X p ρ c (.Assign [.Name yn py] (.ListComp elt [⟨tg, iter, ifs, 0⟩] scope pos) spos) j (.lst ⟨false, true⟩ (coll b y xs.length)) (cs xs.length) :=
  ps_imp (ps_setLc (tt := ttU X.K xs b cs cm ρt) (te := teU X.K xs b y cs cm ρt nws) hc hN hy hyl hsw hi ok hg (fun s H C cl fp => ⟨fun pins s' σ H' Q I ⟨q, i, d, hd, h⟩ => (ht i d hd q s H C cl fp).run pins s' σ H' Q I h⟩)
    (fun s H C cl fp => ⟨fun pins s' σ H' Q I ⟨q, i, d, hd, hb, h⟩ => (he i d hd hb q s H C cl fp).run pins s' σ H' Q I h⟩) hs) fun De σ H h => lc_read htg hno hz σ H _ ⟨h.1, fun v H1 e1 p1 dv hn => h.2 _ H1 e1 p1 dv (hn rfl)⟩
end
end LA

namespace LA
open PySem PySem.Spec PyProof.Rows L2
/-! ### defs with default values -/
structure Def1D (P : Program) (w : World) (K : PySem.W.Frag) (mg : Str → Option Value) (base : Heap) (k : Nat) (x : Str) (ps : List Str) (R : FSpec) (dvs : List V) : Prop where
  ex : ∃ (f : Addr) (fd : FuncData) (ds : List Value), FnOk P w K mg base (L2.CX P w) k f fd ps (spF K R) ∧ mg x = some (.ref f) ∧ PySem.W.keepIn K (.ref f) = true ∧ Vals dvs ds ∧ Binds K fd ps ds
section
variable {X : Cx} {W : WX} {p : HD} {ρ : Rho} {c c1 c2 : PC} {e : Expr} {es : List Expr} {pos xp : Pos} {d : D} {nw : Bool} {k : Nat} {x : Str} {ps : List Str} {R : FSpec} {ds es' : List D} {o : EO} {dvs : List V}
theorem re_c1D (tk : Takes X W) (T : Def1D X.prog X.w X.K X.mg X.base k x ps R dvs) (hr : Room k X.A) (ha : RA X W p ρ c (e :: es) (.val ds c1)) (hd : ∀ q H, DVs X.K q H dvs es') (ho : R (ds ++ es') c1 o)
    (hg : Gl X x := by rfl) (hdb : (x == ("__debug__" : Str)) = false := by decide) (he : starEach (e :: es) X.env = (false, eval e X.env) :: starEach es X.env := by rfl) (hpl : (backTo pos (starEach es X.env)).any (·.1) = false := by rfl) :
    RE X W p ρ c (.Call (.Name x xp) (e :: es) [] pos) o := by
  obtain ⟨f, fd, us, G, hm, hk, hv, hb⟩ := T.ex
  exact pe_imp (pe_callSD G hr hg hm hk hb hv (fun σ => passAt tk σ) ha hdb he hpl) fun σ H Q h => ⟨tE_sr h, fun vs H1 e1 p1 dvs' => ⟨p, c1, ds ++ es', o, DVs.app dvs' (hd p H1), p1, ho, fo_at h e1⟩⟩
end
section
variable {P : Program} {w : World} {K : PySem.W.Frag} {mg : Str → Option Value} {base : Heap} {x qual : Str} {f : Addr} {fd : FuncData} {N ps : List Str} {k : Nat} {R : FSpec} {params : Arguments} {body : List Stmt} {scope : Scope} {dvs : List V} {kws : List (Str × V)}
theorem fn_excD (F : FunD K x qual params body scope dvs kws f fd) (S : FnScope N ps scope) (hl : ∀ ds c o, R ds c o → ds.length = ps.length)
    (bd : ∀ (cdv : Value) (A : Around) (outer : List Env) (s : Shared) (H : Hp) (E : XK), Room k (A.deeper (envOfC qual scope s.heap.objs.size f cdv)) → ∀ (p : HD) (ds : List D) (c : PC) (o : EO), R ds c o →
      Takes (cxOf (L2.CX P w) P w K mg base N qual scope f cdv A outer s H E) (fun cls d _ H => E cls d H) →
      BodyOk (cxOf (L2.CX P w) P w K mg base N qual scope f cdv A outer s H E) (fun cls d _ H => E cls d H) p (startR N ds) c body o) : FnOk P w K mg base (L2.CX P w) (k + 1) f fd ps (spF K R) := by
  refine F.ok S (fun vs H Q E h => spF_len hl h) (fun cdv A outer s H vs Q E hr h => ?_)
  obtain ⟨p, c, ds, o, h1, h2, h3, h4⟩ := h
  have b := bd cdv A outer s H E hr p ds c o h3 (takes_of rfl rfl rfl rfl)
  cases o with
  | val d nw c' =>
    rcases b with b | ⟨rfl, ρ', b⟩
    · exact ⟨_, b, sr_start h1 h2, fun v H1 e1 p1 dv hn => h4 v H1 e1 p1 dv hn⟩
    · exact ⟨_, b, sr_start h1 h2, fun σ' H1 e1 s1 => h4 .non H1 e1 s1.pl .non fun _ => New.sc (by intro a q; cases q)⟩
  | ex C fs c' => exact ⟨_, b, sr_start h1 h2, fun ρ' dx fv σ' H1 e1 s1 _ hx hf => h4 dx fv H1 e1 s1.pl hx hf⟩
end
end LA

namespace LA
open PySem PySem.Spec PyProof.Rows L2
section
variable {X : Cx} {W : WX} {p : HD} {ρ ρ' : Rho} {c c1 : PC} {e a : Expr} {pos : Pos} {d : D} {nw k : Bool} {K : PySem.W.Frag}
theorem re_not (h : RE X W p ρ c a (.val (.bl k) nw c1)) : RE X W p ρ c (.UnaryOp .Not a pos) (.val (.bl (!k)) true c1) :=
  pe_imp (pe_not h) fun σ H Q ⟨s, kk⟩ => ⟨s, fun v H1 e1 p1 dv _ => by
    cases dv
    exact ⟨k, rfl, kk _ H1 e1 p1 (.bl _) fun _ => New.sc (by intro a h; cases h)⟩⟩
theorem ov_neB {i j : Bool} : OV K p rNe (.bl i) (.bl j) (.bl (!decide (i = j))) true c := by
  have h := ov_neS (K := K) (p := p) (c := c) (x := .bl i) (y := .bl j) rfl rfl rfl
  rw [dec_v (f := V.bl) fun x y e => by cases e; rfl] at h
  exact h
/-! lists added, repeated -/
theorem ov_cat {g1 g2 : G} {xs ys : List D} (h1 : g1.t = true) (h2 : g2.t = true) (hz : xs.length + ys.length ≤ 100000) : OV K p rCat (.lst g1 xs) (.lst g2 ys) (.lst ⟨false, true⟩ (xs ++ ys)) true c := fun v u H Q dv du hp k => by
  cases dv with
  | lst hb hq r =>
    cases du with
    | lst hb2 hq2 r2 =>
      refine ⟨_, _, _, _, rfl, rfl, (hide_some (hb.2 h1)).1, (hide_some (hb2.2 h2)).1, by rw [r.length, r2.length]; exact sz_le hz, fun q hn => ?_⟩
      exact k _ _ (Ext.new hn) (hp.upd hn) (.lst ⟨(fun z => nomatch z), fun _ => hide_upd hp hn⟩ (.inl (.inl (hide_upd hp hn))) ((r.mono (Ext.new hn)).app (r2.mono (Ext.new hn)))) fun _ => New.lst hp hn (r.app r2)
theorem dvs_rep {H : Hp} {us : List V} {ds : List D} (h : DVs K p H us ds) : ∀ n : Nat, DVs K p H (List.replicate n us).flatten (List.replicate n ds).flatten
  | 0 => .nil
  | n + 1 => by
    rw [List.replicate_succ, List.replicate_succ, List.flatten_cons, List.flatten_cons]
    exact h.app (dvs_rep h n)
theorem ov_rep {g1 : G} {xs : List D} {n : Int} (h1 : g1.t = true) (hn0 : -100000 ≤ n) (hn1 : n ≤ 100000) (hz : xs.length * n.toNat ≤ 100000) : OV K p L2.rRep (.lst g1 xs) (.int n) (.lst ⟨false, true⟩ (List.replicate n.toNat xs).flatten) true c := fun v u H Q dv du hp k => by
  cases du
  cases dv with
  | lst hb hq r =>
    have e1 : (-(2 ^ 63) : Int) = -9223372036854775808 := by decide
    have e2 : (2 ^ 63 : Int) = 9223372036854775808 := by decide
    refine ⟨_, n, _, rfl, rfl, (hide_some (hb.2 h1)).1, by omega, by omega, by rw [r.length]; exact sz_le hz, fun q hn => ?_⟩
    exact k _ _ (Ext.new hn) (hp.upd hn) (.lst ⟨(fun z => nomatch z), fun _ => hide_upd hp hn⟩ (.inl (.inl (hide_upd hp hn))) ((dvs_rep r _).mono (Ext.new hn))) fun _ => New.lst hp hn (dvs_rep r _)
end
/-! isinstance -/
def isIntD : D → Bool
  | .int _ => true
  | .bl _ => true
  | _ => false
def isBlD : D → Bool
  | .bl _ => true
  | _ => false
theorem isi_int {d : D} {t : String} (h : tyD d = some t) : kitB t "int" = some (isIntD d) := by
  cases d <;> first | (cases h; done) | (cases h; first | exact (show kitB _ "int" = some false by decide +kernel) | exact (show kitB _ "int" = some true by decide +kernel))
theorem isi_bool {d : D} {t : String} (h : tyD d = some t) : kitB t "bool" = some (isBlD d) := by
  cases d <;> first | (cases h; done) | (cases h; first | exact (show kitB _ "bool" = some false by decide +kernel) | exact (show kitB _ "bool" = some true by decide +kernel))
/-! ### collected lists, more -/
theorem range_get {α : Type} (l : List Nat) (f : Nat → α) : (List.range l.length).map (fun i => f (l.getD i 0)) = l.map f := by
  refine List.ext_getElem? fun i => ?_
  by_cases hi : i < l.length
  · simp [hi, List.getElem?_range]
  · simp [hi]
theorem all_get (l : List Nat) (f : Nat → Bool) : ((List.range l.length).all fun i => f (l.getD i 0)) = l.all f := by
  have h := congrArg (fun x : List Bool => x.all id) (range_get l f)
  rw [List.all_map, List.all_map] at h
  exact h
theorem coll_none (b : Nat → Bool) (y : Nat → D) (n : Nat) : (coll b y n).isEmpty = (List.range n).all fun i => !b i := by
  rw [coll_some, List.isEmpty_map]
  induction (List.range n) with
  | nil => rfl
  | cons a r ih =>
    rw [List.filter_cons, List.all_cons]
    cases b a <;> simp [ih]
theorem coll_congr {b b' : Nat → Bool} {y : Nat → D} : ∀ {n : Nat}, (∀ i, i < n → b i = b' i) → coll b y n = coll b' y n
  | 0, _ => rfl
  | n + 1, h => by
    show coll b y n ++ (if b n then [y n] else []) = coll b' y n ++ (if b' n then [y n] else [])
    rw [coll_congr fun i hi => h i (by omega), h n (by omega)]
theorem ints_flat (b : Nat → Bool) (n : Nat) : (coll b (fun i => D.int (i : Nat)) n).all flatOk = true := by
  rw [coll_some, List.all_map, List.all_eq_true]
  intro i _
  rfl
/-! ### what raises within arguments -/
section
variable {X : Cx} {W : WX} {p : HD} {ρ : Rho} {c c1 : PC} {e : Expr} {es : List Expr} {pos ps : Pos} {C : Addr} {fs : List (Str × D)} {nw : Bool} {g : G} {xs : List D}
theorem ra_ex (h : RE X W p ρ c e (.ex C fs c1)) (hs : starEach (e :: es) X.env = (false, eval e X.env) :: starEach es X.env := by rfl) : RA X W p ρ c (e :: es) (.ex C fs c1) :=
  pa_imp (pa_cons h (⟨fun _ _ _ _ _ _ _ z => z.elim⟩ : PA X es (fun _ _ _ => False)) hs) fun σ H Q h => h
theorem re_callBX {id : String} {x : Str} {r : List V → Hp → VK → Prop} (hc : CallR X (.builtin id) r) (hm : X.mg x = none) (hv : bootBuiltins x = some (.builtin id)) (ha : RA X W p ρ c (e :: es) (.ex C fs c1))
    (hg : Gl X x := by rfl) (hn : x ≠ "__name__" := by decide) (hdb : (x == ("__debug__" : Str)) = false := by decide)
    (he : starEach (e :: es) X.env = (false, eval e X.env) :: starEach es X.env := by rfl) (hpl : (backTo pos (starEach es X.env)).any (·.1) = false := by rfl) : RE X W p ρ c (.Call (.Name x ps) (e :: es) [] pos) (.ex C fs c1) :=
  pe_imp (pe_callB hc hg hm hv ha hn hdb he hpl) fun σ H Q h => h
/-- a list of which no more is told than that it may be written -/
theorem re_dull (h : RE X W p ρ c e (.val (.lst g xs) nw c1)) : RE X W p ρ c e (.val (.lst ⟨false, g.t⟩ xs) nw c1) := pe_imp h fun σ H Q ⟨s, k⟩ => ⟨s, fun v H1 e1 p1 dv hn => k v H1 e1 p1 (by
  cases dv with
  | lst hb hq r => exact .lst ⟨(fun z => nomatch z), hb.2⟩ hq r) fun q => (hn q).g⟩
end
/-! ### defs whose guards are in view -/
structure FnG (P : Program) (w : World) (K : PySem.W.Frag) (mg : Str → Option Value) (base : Heap) (k : Nat) (f : Addr) (fd : FuncData) (ps : List Str) (sp : Sp) : Prop where
  len : ∀ (vs : List V) (Hs : Hp) (R : VK) (Ex : XK), sp vs Hs R Ex → vs.length = ps.length
  run : ∀ (pl : Around) (up : List Env) (sh : Shared) (Hs : Hp) (ag : Args) (us : List Value) (vs : List V) (R : VK), pl.guards = some [] → Room k pl → Env0 P w K mg base pl up sh Hs → BindsTo sh fd ag (ps.zip us) → Vals vs us → sp vs Hs R E0 →
    codeAny (model P w) pl (.call (.ref f) ag) (CR CX0 up P w Hs sh R E0) sh
structure DefG (P : Program) (w : World) (K : PySem.W.Frag) (mg : Str → Option Value) (base : Heap) (k : Nat) (x : Str) (ps : List Str) (R : FSpec) : Prop where
  ex : ∃ (f : Addr) (fd : FuncData), FnG P w K mg base k f fd ps (spF K R) ∧ mg x = some (.ref f) ∧ PySem.W.keepIn K (.ref f) = true ∧ Binds K fd ps []
section
variable {P : Program} {w : World} {K : PySem.W.Frag} {mg : Str → Option Value} {base : Heap} {x qual : Str} {st : Stmt} {f : Addr} {fd : FuncData} {N ps : List Str} {k : Nat} {R : FSpec}
theorem fn_g (F : Fun K x qual st f fd) (S : FnScope N ps (defScope st)) (hl : ∀ ds c o, R ds c o → ds.length = ps.length) (hv : ∀ ds c o, R ds c o → ∃ d nw c', o = .val d nw c')
    (body : ∀ (cdv : Value) (A : Around) (outer : List Env) (s : Shared) (H : Hp), A.guards = some [] → Room k (A.deeper (envOfC qual (defScope st) s.heap.objs.size f cdv)) → ∀ (p : HD) (ds : List D) (c : PC) (o : EO), R ds c o →
      BodyOk (cxOf CX0 P w K mg base N qual (defScope st) f cdv A outer s H E0).nox Wf p (startR N ds) c (defBody st) o) : FnG P w K mg base (k + 1) f fd ps (spF K R) := by
  refine ⟨fun vs Hs Q Ex h => spF_len hl h, fun pl up sh Hs ag us vs Q gu room e0 bind rv h => ?_⟩
  refine call_at F S room e0 bind rv (spF_len hl h) fun cdv hr => ?_
  obtain ⟨p, c, ds, o, h1, h2, h3, h4⟩ := h
  have b := body cdv pl up sh Hs gu hr p ds c o h3
  obtain ⟨d, nw, c', rfl⟩ := hv _ _ _ h3
  rcases b with b | ⟨rfl, ρ', b⟩
  · exact ⟨_, b.nox, sr_start h1 h2, fun v H1 e1 p1 dv hn => h4 v H1 e1 p1 dv hn⟩
  · exact ⟨_, b.nox, sr_start h1 h2, fun σ' H1 e1 s1 => h4 .non H1 e1 s1.pl .non fun _ => New.sc (by intro a q; cases q)⟩
end
section
variable {X : Cx} {W : WX} {p : HD} {ρ : Rho} {c c1 c2 : PC} {e : Expr} {es : List Expr} {pos xp : Pos} {d : D} {nw : Bool} {k : Nat} {x : Str} {ps : List Str} {R : FSpec} {ds : List D}
theorem re_cG (T : DefG X.prog X.w X.K X.mg X.base k x ps R) (hr : Room k X.A) (gu : X.A.guards = some []) (ha : RA X W p ρ c (e :: es) (.val ds c1)) (ho : R ds c1 (.val d nw c2))
    (hg : Gl X x := by rfl) (hdb : (x == ("__debug__" : Str)) = false := by decide) (he : starEach (e :: es) X.env = (false, eval e X.env) :: starEach es X.env := by rfl) (hpl : (backTo pos (starEach es X.env)).any (·.1) = false := by rfl) :
    RE X W p ρ c (.Call (.Name x xp) (e :: es) [] pos) (.val d nw c2) := by
  obtain ⟨f, fd, F, hm, hk, hb⟩ := T.ex
  have P1 : PE X (.Call (.Name x xp) (e :: es) [] pos) (fun σ H Q => tA X.K W p ρ c (.val ds c1) σ H fun vs H1 => spF X.K R vs H1 Q E0) := by
    refine ⟨fun pins s σ H Q I h => ?_⟩
    refine wpAny_Call_Name_kw (ld_glob I hg hm ?_ hdb)
    refine PySem.W.callWith_K (h₀ := X.base) I.ok.mod.kin hk (thn (ha.run pos pins s σ H _ I h) fun us sh ⟨vs, H1, I1, r, q⟩ => ⟨I1.kIn, ?_⟩) he hpl
    have bd := hb sh us I1.kIn (by rw [List.append_nil, ← r.length]; exact F.len _ _ _ _ q)
    rw [List.append_nil] at bd
    refine wpAny_call (codeAny_mono (F.run X.A X.stack sh H1 ⟨us, []⟩ us vs Q gu hr I1.env0 bd r q) fun rs s' hq => ?_)
    cases rs with
    | error ev =>
      exact False.elim hq
    | ok fl =>
      cases fl with
      | ret u => exact I1.after hq
      | next => exact False.elim hq
      | brk => exact False.elim hq
      | cont => exact False.elim hq
  exact pe_imp P1 fun σ H Q ⟨s, kk⟩ => ⟨s, fun vs H1 e1 p1 dvs => ⟨p, c1, ds, .val d nw c2, dvs, p1, ho, fun v H2 e2 p2 dv hn => kk v H2 (e1.trans e2) p2 dv fun q => (hn q).back e1⟩⟩
end
section
variable {X : Cx} {W : WX} {p : HD} {ρ : Rho} {c c1 c2 : PC} {a b cc : Expr} {pos : Pos} {d1 d2 d3 : D} {n1 n2 n3 : Bool}
theorem rt_chain {op op' : CmpOp} {r r' : R2} {k1 k2 : Bool} (ho : OpR X (compareOp op) r) (ho' : OpR X (compareOp op') r') (ha : RE X W p ρ c a (.val d1 n1 c1)) (hb : RE X W p ρ c1 b (.val d2 n2 c2)) (hc : RE X W p ρ c2 cc (.val d3 n3 c2)) (h1 : OV X.K p r d1 d2 (.bl k1) true c2) (h2 : OV X.K p r' d2 d3 (.bl k2) true c2)
    (hm : lastMarks [op, op'] [b, cc] = false := by with_unfolding_all rfl) : RT X W p ρ c (.Compare a [op, op'] [b, cc] pos) (.val (k1 && k2) c2) :=
  pt_imp (pt_chain ho ho' ha hb hc hm) fun σ H Q ⟨s, k⟩ => ⟨s, fun v H1 e1 p1 dv _ => ⟨s.mono e1 p1, fun u H2 e2 p2 du _ => h1 v u H2 _ (dv.mono e2) du p2 fun w H3 e3 p3 dw _ => by
    cases dw
    refine ⟨k1, rfl, ?_⟩
    have e13 : Ext p H H3 := (e1.trans e2).trans e3
    cases k1 with
    | false => exact iteF ⟨false, rfl, k H3 e13 p3⟩
    | true => exact iteT ⟨s.mono e13 p3, fun w H4 e4 p4 dw _ => h2 u w H4 _ (du.mono (e3.trans e4)) dw p4 fun z H5 e5 p5 dz _ => by
        cases dz
        exact ⟨k2, rfl, k H5 ((e13.trans e4).trans e5) p5⟩⟩⟩⟩
end
/-! ### longer lists shown -/
theorem sz_big {d : PyData} (h1 : d.canLay0 = true) (h2 : PyData.intsShort 13 d = true) (h3 : d.weight ≤ 1000000) : d.shown.length ≤ sizeLine := by
  have h := PyData.shown_le 13 (by decide) d (PyData.leavesShort_of_canLay0 13 d h1 h2)
  have e : sizeLine = 16777216 := by decide
  omega
theorem shows_big {g : G} {ds : List D} (h : ds.all smallD = true) (hl : ds.length ≤ 5000) : Shows (.lst g ds) := by
  obtain ⟨b1, b2, b3, b4, b5, b6, b7⟩ := small_all h
  refine ⟨?_, ?_, ?_, sz_big ?_ ?_ ?_⟩
  · unfold toPy PyData.hasDict okD
    rw [b7, b1]
    simp
  · unfold toPy PyData.showable
    exact b2
  · unfold toPy PyData.depth
    omega
  · unfold toPy PyData.canLay0
    exact b3
  · unfold toPy PyData.intsShort
    exact b4
  · unfold toPy PyData.weight
    omega
theorem small_text {l : List Nat} (hl : l.length ≤ 100) (h : ∀ n ∈ l, n < 0x110000) : smallD (.str (tx l)) = true := by
  have ok : PyData.strOk (tx l) = true := by
    unfold PyData.strOk
    rw [← Array.all_toList, tx_list, List.all_eq_true]
    intro n hn
    exact decide_eq_true (h n hn)
  show (PyData.strOk (tx l) && decide ((tx l).length ≤ 100)) = true
  rw [ok, tx_len, decide_eq_true hl]
  rfl
end LA

namespace LA
open PySem PySem.Spec PyProof.Rows L2
/-! ### slices -/
section
variable {X : Cx} {W : WX} {p : HD} {ρ : Rho} {c c1 c2 c3 : PC} {e : Expr} {lo hi : Option Expr} {pos p2 : Pos} {n1 n2 nw : Bool} {i : Int} {ol oh : Option Int} {K : PySem.W.Frag} {g : G} {xs : List D}
def tPt (K : PySem.W.Frag) (p : HD) (ρ : Rho) (c : PC) (oi : Option Int) (c' : PC) : L2.TO := fun σ H R => SR K p H σ ρ c ∧ ∀ H', Ext p H H' → PoolAt K p H' c' → R oi H'
abbrev RP (X : Cx) (p : HD) (ρ : Rho) (c : PC) (o : Option Expr) (oi : Option Int) (c' : PC) : Prop := PO X o (tPt X.K p ρ c oi c')
theorem po_imp {o : Option Expr} {t t' : L2.TO} (h : PO X o t) (w : ∀ σ H Q, t' σ H Q → t σ H Q) : PO X o t' := ⟨fun pins s σ H Q I q => h.run pins s σ H Q I (w σ H Q q)⟩
theorem rp_none : RP X p ρ c none none c := po_imp po_none fun σ H R ⟨s, k⟩ => k H (Ext.refl _ _) s.pl
theorem rp_some (h : RE X W p ρ c e (.val (.int i) nw c1)) : RP X p ρ c (some e) (some i) c1 := po_imp (po_some h) fun σ H R ⟨s, k⟩ => ⟨s, fun v H1 e1 p1 dv _ => by
  cases dv
  exact ⟨i, rfl, k H1 e1 p1⟩⟩
theorem re_slS {z : Str} (he : RE X W p ρ c e (.val (.str z) n1 c1)) (hl : RP X p ρ c1 lo ol c2) (hh : RP X p ρ c2 hi oh c3) (hz : z.length ≤ sizeLine) : RE X W p ρ c (.Subscript e (.Slice lo hi none p2) pos) (.val (.str (cutS z ol oh)) true c3) :=
  pe_imp (pe_slice sl_str he hl hh) fun σ H Q ⟨s, k⟩ => ⟨s, fun v H1 e1 p1 dv _ => ⟨s.mono e1 p1, fun H2 e2 q2 => ⟨s.mono (e1.trans e2) q2, fun H3 e3 q3 => by
    cases dv
    exact ⟨z, rfl, hz, k _ H3 ((e1.trans e2).trans e3) q3 (.str _) fun _ => New.sc (by intro a h; cases h)⟩⟩⟩⟩
def cutD (xs : List D) (lo hi : Option Int) : List D := (xs.drop (HT.sIx xs.length 0 lo)).take (HT.sIx xs.length xs.length hi - HT.sIx xs.length 0 lo)
theorem dvs_drop {H : Hp} : ∀ (n : Nat) {us : List V} {ds : List D}, DVs K p H us ds → DVs K p H (us.drop n) (ds.drop n)
  | 0, _, _, h => h
  | n + 1, _, _, .nil => .nil
  | n + 1, _, _, .cons _ r => dvs_drop n r
theorem dvs_take {H : Hp} : ∀ (n : Nat) {us : List V} {ds : List D}, DVs K p H us ds → DVs K p H (us.take n) (ds.take n)
  | 0, _, _, _ => by simp only [List.take_zero]; exact .nil
  | n + 1, _, _, .nil => .nil
  | n + 1, _, _, .cons h r => .cons h (dvs_take n r)
theorem re_slL (he : RE X W p ρ c e (.val (.lst g xs) n1 c1)) (hl : RP X p ρ c1 lo ol c2) (hh : RP X p ρ c2 hi oh c3) : RE X W p ρ c (.Subscript e (.Slice lo hi none p2) pos) (.val (.lst ⟨false, true⟩ (cutD xs ol oh)) true c3) :=
  pe_imp (pe_slice sl_list he hl hh) fun σ H Q ⟨s, k⟩ => ⟨s, fun v H1 e1 p1 dv _ => ⟨s.mono e1 p1, fun H2 e2 q2 => ⟨s.mono (e1.trans e2) q2, fun H3 e3 q3 => by
    cases (dv.mono e2).mono e3 with
    | @lst a0 ys _ _ hb hq r =>
      refine ⟨_, _, rfl, un_sqL hq, fun a na => ?_⟩
      have e4 := (e1.trans e2).trans e3
      have key : DVs X.K p H3 (cutV ys ol oh) (cutD xs ol oh) := by
        unfold cutV cutD
        rw [r.length]
        exact dvs_take _ (dvs_drop _ r)
      exact k _ _ (e4.trans (Ext.new na)) (q3.upd na) (.lst ⟨(fun z => nomatch z), fun _ => hide_upd q3 na⟩ (.inl (.inl (hide_upd q3 na))) (key.mono (Ext.new na))) fun _ => (New.lst q3 na key).back e4⟩⟩⟩
end
/-! ### texts and numbers, tuples of lists -/
section
variable {K : PySem.W.Frag} {p : HD} {c : PC}
theorem cv_strI {i : Int} (h : i.natAbs.log2 < 1920) : CV K p (fun xs H Q => ∃ i, xs = [.int i] ∧ i.natAbs.log2 < 1920 ∧ Q (.str (toString i)) H) [.int i] (.str (toString i)) true c := fun vs H Q dvs hp k => by
  cases dvs with
  | cons h1 r =>
    cases r
    cases h1
    exact ⟨i, rfl, h, k _ H (Ext.refl p H) hp (.str _) fun _ => New.sc (by intro a h; cases h)⟩
theorem cv_intS {z : Str} {n : Int} (h : PySem.intText? z = some n) (hz : z.length ≤ 640) : CV K p (fun xs H Q => ∃ a n, xs = [.str a] ∧ PySem.intText? a = some n ∧ a.length ≤ 640 ∧ Q (.int n) H) [.str z] (.int n) true c := fun vs H Q dvs hp k => by
  cases dvs with
  | cons h1 r =>
    cases r
    cases h1
    exact ⟨z, n, rfl, h, hz, k _ H (Ext.refl p H) hp (.int _) fun _ => New.sc (by intro a h; cases h)⟩
theorem cv_tupL {g : G} {xs : List D} : CV K p (fun xs H Q => ∃ p ys, xs = [.ref p] ∧ ((SqL K H p ys ∧ ∀ l, H l = none → Q (.ref l) (upd H l (.tup ys))) ∨ (SqT K H p ys ∧ Q (.ref p) H))) [.lst g xs] (.tup xs) true c := fun vs H Q dvs hp k => by
  cases dvs with
  | cons h1 r =>
    cases r
    cases h1 with
    | lst hb hq ha =>
      exact ⟨_, _, rfl, .inl ⟨un_sqL hq, fun l nl => k _ _ (Ext.new nl) (hp.upd nl) (.tup (.inl (.inl (hide_upd hp nl))) (ha.mono (Ext.new nl))) fun _ => New.oth hp nl (by intro _ _ z; cases z)⟩⟩
/-- x in a list of flat items -/
theorem ov_inL {g : G} {x : D} {ds : List D} {v : V} {xs : List V} {neg : Bool} (hx : scD x = some v) (hs : ds.map scD = xs.map some) (fx : flatV v = true) (fs : xs.all flatV = true) :
    OV K p (rIn K neg) x (.lst g ds) (.bl (if neg then !inV v xs else inV v xs)) true c := fun v' u' H Q dv du hp k => by
  have e1 := dv_sc dv hx
  subst e1
  cases du with
  | lst hb h r =>
    have e2 := dvs_sc r hs
    subst e2
    exact ⟨_, _, rfl, .inl (un_sqL h), fx, fs, k _ H (Ext.refl p H) hp (.bl _) fun _ => New.sc (by intro a h; cases h)⟩
end
end LA
namespace LA
open PySem PySem.Spec PyProof.Rows L2
/-! ### isinstance by one of two types -/
section
variable {X : Cx} {W : WX} {p : HD} {ρ : Rho} {c c1 : PC} {e : Expr} {pos ps tp q1 q2 : Pos} {d : D} {nw b : Bool} {x1 x2 : Str} {t1 t2 t : String} {kk : Nat}
theorem re_isiT (hm : X.mg "isinstance" = none) (he : RE X W p ρ c e (.val d nw c1)) (h1 : X.mg x1 = none) (h2 : X.mg x2 = none) (b1 : bootBuiltins x1 = some (.type t1)) (b2 : bootBuiltins x2 = some (.type t2)) (ht : tyD d = some t) (hk : PySem.W.kitAny X.K (.type t) [.type t1, .type t2] = some b)
    (hg : Gl X "isinstance" := by rfl) (g1 : Gl X x1 := by rfl) (g2 : Gl X x2 := by rfl) (n1 : x1 ≠ "__name__" := by decide) (n2 : x2 ≠ "__name__" := by decide) (z1 : (x1 == ("__debug__" : Str)) = false := by decide) (z2 : (x2 == ("__debug__" : Str)) = false := by decide)
    (s0 : starEach [e, .Tuple [.Name x1 q1, .Name x2 q2] kk tp] X.env = (false, eval e X.env) :: starEach [.Tuple [.Name x1 q1, .Name x2 q2] kk tp] X.env := by rfl) (s1 : starEach [.Tuple [.Name x1 q1, .Name x2 q2] kk tp] X.env = (false, eval (.Tuple [.Name x1 q1, .Name x2 q2] kk tp) X.env) :: starEach [] X.env := by rfl)
    (s2 : starEach [.Name x1 q1, .Name x2 q2] X.env = (false, eval (.Name x1 q1) X.env) :: starEach [.Name x2 q2] X.env := by rfl) (s3 : starEach [.Name x2 q2] X.env = (false, eval (.Name x2 q2) X.env) :: starEach [] X.env := by rfl) (hpl : (backTo pos (starEach [.Tuple [.Name x1 q1, .Name x2 q2] kk tp] X.env)).any (·.1) = false := by rfl) :
    RE X W p ρ c (.Call (.Name "isinstance" ps) [e, .Tuple [.Name x1 q1, .Name x2 q2] kk tp] [] pos) (.val (.bl b) true c1) :=
  pe_imp (pe_callB call_isiT hg hm PyProof.Rows.boot_isinstance (pa_cons he (pa_cons (pe_tup (pa_cons (pe_bltn (v := .ty t1) g1 h1 b1 rfl n1 z1) (pa_cons (pe_bltn (v := .ty t2) g2 h2 b2 rfl n2 z2) (pa_nil (X := X)) s3) s2)) (pa_nil (X := X)) s1) s0) (by decide) (by decide) s0 hpl) fun σ H Q ⟨s, k⟩ => ⟨s, fun v H1 e1 p1 dv _ => ⟨by show 2 ≤ sizeLine; decide, fun a na =>
    ⟨v, a, _, _, _, b, rfl, upd_same, .cons (.ty t1) (.cons (.ty t2) .nil), tyx_of (dv.mono (Ext.new na)) ht, hk, k _ _ (e1.trans (Ext.new na)) (p1.upd na) (.bl b) fun _ => New.sc (by intro a h; cases h)⟩⟩⟩
end
end LA

namespace LA
open PySem PySem.Spec PyProof.Rows L2
/-! ### how many different ints -/
def difN (ns : List Int) (i : Nat) : Nat := (firstMet (fun i => ns.getD i 0) i).length
def dupAt (ns : List Int) (k : Nat) : Bool := (List.range k).any fun j => ns.getD j 0 == ns.getD k 0
theorem any_mem {l : List Int} {k : Int} : l.any (· == k) = true ↔ k ∈ l := by
  rw [List.any_eq_true]
  constructor
  · rintro ⟨x, h1, h2⟩
    rw [← eq_of_beq h2]
    exact h1
  · intro h
    exact ⟨k, h, beq_self_eq_true k⟩
theorem dif_succ (ns : List Int) (i : Nat) : difN ns (i + 1) = difN ns i + if dupAt ns i then 0 else 1 := by
  unfold difN
  rw [firstMet_succ]
  unfold step_dedup
  have e : (firstMet (fun i => ns.getD i 0) i).any (· == ns.getD i 0) = dupAt ns i := by
    rw [firstMet_any, List.any_map]
    rfl
  cases h : dupAt ns i with
  | true =>
    rw [h] at e
    rw [if_pos e]
    simp
  | false =>
    rw [h] at e
    rw [if_neg (by rw [e]; exact Bool.false_ne_true), List.length_append]
    simp
theorem dif_le (ns : List Int) (i : Nat) : difN ns i ≤ i := firstMet_length_le _ i
theorem dif_eq (ns : List Int) : ∀ i, difN ns i = i ↔ ∀ k, k < i → dupAt ns k = false
  | 0 => ⟨fun _ k h => absurd h (Nat.not_lt_zero k), fun _ => rfl⟩
  | i + 1 => by
    have ih := dif_eq ns i
    have le := dif_le ns i
    rw [dif_succ]
    constructor
    · intro h k hk
      by_cases hd : dupAt ns i = true
      · rw [if_pos hd] at h
        omega
      · rw [if_neg hd] at h
        by_cases e : k = i
        · rw [e]
          exact Bool.eq_false_iff.mpr hd
        · exact ih.mp (by omega) k (by omega)
    · intro h
      have h1 := ih.mpr fun k hk => h k (by omega)
      have h2 := h i (by omega)
      rw [h2, h1]
      rfl
theorem first_nodup (val : Nat → Int) : ∀ i, (firstMet val i).Nodup
  | 0 => List.nodup_nil
  | i + 1 => by
    rw [firstMet_succ]
    unfold step_dedup
    split
    · exact first_nodup val i
    · rename_i h
      rw [List.nodup_append]
      refine ⟨first_nodup val i, by simp, fun x hx y hy => ?_⟩
      rw [List.mem_singleton.mp hy]
      intro z
      exact h (any_mem.mpr (by rw [← z]; exact hx))
theorem first_mem {ns : List Int} {k : Int} : k ∈ firstMet (fun i => ns.getD i 0) ns.length ↔ k ∈ ns := by
  rw [← any_mem, firstMet_any, any_mem]
  have e : (List.range ns.length).map (fun i => ns.getD i 0) = ns := by
    refine List.ext_getElem? fun i => ?_
    by_cases hi : i < ns.length
    · rw [List.getElem?_map, List.getElem?_range hi, List.getElem?_eq_getElem hi]
      show some (ns.getD i 0) = _
      rw [List.getD_eq_getElem?_getD, List.getElem?_eq_getElem hi]
      rfl
    · rw [List.getElem?_eq_none (by simpa using hi), List.getElem?_eq_none (by omega)]
  rw [e]
section
variable {X : Cx} {W : WX} {p : HD} {ρ : Rho} {c c1 : PC} {a e tg : Expr} {pos p1 p2 q : Pos} {d : D} {nw : Bool} {ns : List Int} {K : PySem.W.Frag}
theorem of_ints {H : Hp} : ∀ {vs : List V} {ns : List Int}, DVs K p H vs (ns.map D.int) → vs = ns.map V.int
  | _, [], .nil => rfl
  | _, n :: r, .cons h t => by
    cases h
    rw [of_ints t]
    rfl
def isSeqOf (d : D) (ds : List D) : Prop := (∃ g, d = .lst g ds) ∨ d = .tup ds
def tLenSet (K : PySem.W.Frag) (ta : TE) : TE := fun σ H Q => ta σ H fun x H1 => ∃ (l : Addr) (ns : List Int), x = V.ref l ∧ (SqL K H1 l (ns.map V.int) ∨ SqT K H1 l (ns.map V.int)) ∧ ns.length < 64 ∧ Q (.int (difN ns ns.length : Nat)) H1
theorem pe_lenSet' {ta : TE} (hc : X.calm = true) (hg : Gl X "len") (hm : X.mg "len" = none) (hg2 : Gl X "set") (hm2 : X.mg "set" = none) (ha : PE X a ta)
    (na : starEach [a] X.env = (false, eval a X.env) :: starEach [] X.env := by rfl) : PE X (.Call (.Name "len" p1) [.Call (.Name "set" p2) [a] [] q] [] pos) (tLenSet X.K ta) := by
  refine ⟨fun pins s σ H Q I h => ?_⟩
  refine Call_ (ld_blt I hg hm PySem.boot_len ?_)
  refine PyProof.Rows.callWith_builtin1 (PyProof.Rows.args_cons ?_ rfl) rfl rfl
  refine Call_ (ld_blt I hg2 hm2 PyProof.Rows.boot_set ?_)
  refine PyProof.Rows.callWith_type1 (PyProof.Rows.args_cons (thn (ha.run pins s σ H _ I h) fun v s1 ⟨x, H1, I1, r1, q1⟩ => PyProof.Rows.args_nil ?_) na) na rfl
  obtain ⟨l, ns, rfl, hq, h1, q1⟩ := q1
  cases r1
  rcases hq with hq | hq
  · obtain ⟨its, r, pl, hz⟩ := I1.list hq
    have hl : its.toArray.size = ns.length := by rw [List.size_toArray, ← r.length, List.length_map]
    refine call_set_list (I1.ok.hd hc) pl.isList (ns := ns) (by simpa using r.ints) (by unfold scanBound; omega) fun h' tk hS hk => ?_
    rw [hl] at hS
    refine PyProof.Rows.args_nil ?_
    obtain ⟨o, es, ep, t, ho, hex, hd, _, _, _, hf, hn⟩ := hS
    have I2 : Inv X pins σ H1 { s1 with heap := h', toks := tk } := I1.kept fun b o e => hk b o (Heap.lt_size e) e
    have hn' : es.size = difN ns ns.length := hn
    have hle := dif_le ns ns.length
    refine call_len_set ho hex hd hf (by omega) ⟨.int (difN ns ns.length : Nat), H1, I2.tok _, ⟨_, by rw [hn']⟩, q1⟩
  · obtain ⟨its, rv, pt, hz⟩ := I1.tuple hq
    have hi : IntsAre its.toArray.toList ns := ints_of_vals rv
    have hd := I1.ok.hd hc
    refine call_set_tupI ns hd (show s1.heap.IsTuple l its.toArray from pt) hi (by unfold scanBound; omega) fun h' tk c R1 hcn k => ?_
    refine PyProof.Rows.args_nil ?_
    obtain ⟨o, es, ep, t, ho, hex, hdt, g, nd, hm3, hb, hf, hn, hr, hl2⟩ := R1
    have I2 : Inv X pins σ H1 { s1 with heap := h', toks := tk } := I1.kept fun b o e => k b o e
    have hn' : es.size = difN ns ns.length := by
      have pm : (es.toList.map keyOf).Perm (firstMet (fun i => ns.getD i 0) ns.length) := (List.perm_ext_iff_of_nodup nd (first_nodup _ _)).mpr fun k => by
        rw [first_mem, ← hm3 k, decide_eq_true_eq]
      have := pm.length_eq
      rw [List.length_map, Array.length_toList] at this
      exact this
    have hle := dif_le ns ns.length
    refine call_len_set ho hex hdt hf (by omega) ⟨.int (difN ns ns.length : Nat), H1, I2.tok _, ⟨_, by rw [hn']⟩, q1⟩
theorem re_lenSet (hc : X.calm = true) (hm : X.mg "len" = none) (hm2 : X.mg "set" = none) (ha : RE X W p ρ c a (.val d nw c1)) (hd : isSeqOf d (ns.map D.int)) (hl : ns.length < 64) {m : Nat} (hlm : ns.length = m) (hg : Gl X "len" := by rfl) (hg2 : Gl X "set" := by rfl)
    (na : starEach [a] X.env = (false, eval a X.env) :: starEach [] X.env := by rfl) : RE X W p ρ c (.Call (.Name "len" p1) [.Call (.Name "set" p2) [a] [] q] [] pos) (.val (.int (difN ns m : Nat)) true c1) := by
  subst hlm
  exact pe_imp (pe_lenSet' hc hg hm hg2 hm2 ha na) fun σ H Q ⟨s, k⟩ => ⟨s, fun v H1 e1 p1 dv _ => by
    have kk := k (.int (difN ns ns.length : Nat)) H1 e1 p1 (.int _) fun _ => New.sc (by intro a h; cases h)
    rcases hd with ⟨g, rfl⟩ | rfl
    · cases dv with
      | @lst a vs _ _ hb hq r =>
        rw [of_ints r] at hq
        exact ⟨a, ns, rfl, .inl (un_sqL hq), hl, kk⟩
    · cases dv with
      | @tup a vs _ hq r =>
        rw [of_ints r] at hq
        exact ⟨a, ns, rfl, .inr (un_sqT hq), hl, kk⟩⟩
/-! ### walks over tuples -/
theorem ri_tup {xs : List D} (h : RE X W p ρ c e (.val (.tup xs) nw c1)) : RI X W p ρ c tg e xs c1 :=
  pi_imp (pi_tup h) fun σ H R ⟨s, k⟩ => ⟨s, fun v H1 e1 p1 dv _ => by
    cases dv with
    | @tup a vs _ hq r =>
      refine ⟨a, rfl, ⟨vs, un_sqT hq⟩, k _ H1 e1 p1 fun q c' H2 qe qs p2 => ?_⟩
      have hq2 : SqT X.K H2 a vs := un_sqT (qs.sqT hq)
      refine ⟨⟨vs, hq2, Nat.le_of_eq r.length⟩, fun i d hd => ?_⟩
      obtain ⟨v, h1, h2⟩ := r.get hd
      refine ⟨⟨vs, v, hq2, h1⟩, fun x H3 y => ?_⟩
      obtain ⟨rfl, h3⟩ := y
      have e' : x = v := Option.some.inj ((h3 vs hq2).symm.trans h1)
      subst e'
      exact ⟨Ext.refl _ _, p2, h2.sub qs (fun i a z => by rw [qe]; exact z)⟩⟩
end
end LA

namespace LA
open PySem PySem.Spec PyProof.Rows L2
/-! ### what repr asks, of lists of lists -/
structure Tiny (w k : Nat) (d : D) : Prop where
  ok : okD false d = true
  sh : (toPy d).showable = true
  lay : (toPy d).canLay0 = true
  ish : PyData.intsShort 13 (toPy d) = true
  wt : (toPy d).weight ≤ w
  dp : (toPy d).depth ≤ k
  nd : (toPy d).hasDict = false
theorem tiny_small {d : D} (h : smallD d = true) : Tiny 100 0 d := by
  obtain ⟨a1, a2, a3, a4, a5, a6, a7⟩ := small_one h
  exact ⟨a1, a2, a3, a4, a5, Nat.le_of_eq a6, a7⟩
theorem Tiny.up {w k w' k' : Nat} {d : D} (h : Tiny w k d) (h1 : w ≤ w') (h2 : k ≤ k') : Tiny w' k' d := ⟨h.ok, h.sh, h.lay, h.ish, Nat.le_trans h.wt h1, Nat.le_trans h.dp h2, h.nd⟩
theorem tiny_all {w k : Nat} : ∀ {ds : List D}, (∀ d ∈ ds, Tiny w k d) → okDs false ds = true ∧ PyData.showableAll (toPys ds) = true ∧ PyData.canLayAll0 (toPys ds) = true ∧ PyData.intsShortAll 13 (toPys ds) = true ∧ PyData.weightAll (toPys ds) ≤ (w + 1) * ds.length ∧ PyData.depthAll (toPys ds) ≤ k ∧ PyData.hasDictAll (toPys ds) = false
  | [], _ => ⟨rfl, by unfold toPys; decide +kernel, by unfold toPys; decide +kernel, by unfold toPys; decide +kernel, by unfold toPys PyData.weightAll; omega, by unfold toPys PyData.depthAll; omega, by unfold toPys; decide +kernel⟩
  | d :: r, h => by
    obtain ⟨a1, a2, a3, a4, a5, a6, a7⟩ := h d List.mem_cons_self
    obtain ⟨b1, b2, b3, b4, b5, b6, b7⟩ := tiny_all (ds := r) fun x m => h x (List.mem_cons_of_mem _ m)
    unfold okDs toPys PyData.showableAll PyData.canLayAll0 PyData.intsShortAll PyData.weightAll PyData.depthAll PyData.hasDictAll
    rw [a1, a2, a3, a4, a7, b1, b2, b3, b4, b7, List.length_cons]
    refine ⟨rfl, rfl, rfl, rfl, ?_, ?_, rfl⟩
    · rw [Nat.mul_add, Nat.mul_one]
      omega
    · omega
theorem Tiny.lst {w k n : Nat} {g : G} {ds : List D} (h : ∀ d ∈ ds, Tiny w k d) (hl : ds.length ≤ n) : Tiny ((w + 1) * n + 10) (k + 1) (.lst g ds) := by
  obtain ⟨b1, b2, b3, b4, b5, b6, b7⟩ := tiny_all h
  have hm : (w + 1) * ds.length ≤ (w + 1) * n := Nat.mul_le_mul_left _ hl
  refine ⟨?_, ?_, ?_, ?_, ?_, ?_, ?_⟩
  · unfold okD
    rw [b1]
    simp
  · unfold toPy PyData.showable
    exact b2
  · unfold toPy PyData.canLay0
    exact b3
  · unfold toPy PyData.intsShort
    exact b4
  · unfold toPy PyData.weight
    omega
  · unfold toPy PyData.depth
    omega
  · unfold toPy PyData.hasDict
    exact b7
theorem Tiny.tup {w k n : Nat} {ds : List D} (h : ∀ d ∈ ds, Tiny w k d) (hl : ds.length ≤ n) : Tiny ((w + 1) * n + 10) (k + 1) (.tup ds) := by
  obtain ⟨b1, b2, b3, b4, b5, b6, b7⟩ := tiny_all h
  have hm : (w + 1) * ds.length ≤ (w + 1) * n := Nat.mul_le_mul_left _ hl
  refine ⟨?_, ?_, ?_, ?_, ?_, ?_, ?_⟩
  · unfold okD
    exact b1
  · unfold toPy PyData.showable
    exact b2
  · unfold toPy PyData.canLay0
    exact b3
  · unfold toPy PyData.intsShort
    exact b4
  · unfold toPy PyData.weight
    omega
  · unfold toPy PyData.depth
    omega
  · unfold toPy PyData.hasDict
    exact b7
theorem Tiny.shows {w k : Nat} {d : D} (h : Tiny w k d) (hw : w ≤ 1000000) (hk : k ≤ 60) : Shows d := by
  have := h.wt
  have := h.dp
  exact ⟨by rw [h.nd]; exact h.ok, h.sh, by omega, sz_big h.lay h.ish (by omega)⟩
theorem Tiny.one {w k : Nat} {d : D} (h : Tiny w k d) {s : Str} (hs : smallD (.str s) = true) (hw : 100 ≤ w) (hw2 : w ≤ 100000) (hk : k ≤ 50) : Shows (.lst ⟨true, true⟩ [.str s, d]) := by
  refine (Tiny.lst (w := w) (k := k) (n := 2) (ds := [.str s, d]) (fun x m => ?_) (Nat.le_refl 2)).shows (by omega) (by omega)
  rcases List.mem_cons.mp m with rfl | m
  · exact (tiny_small hs).up hw (Nat.zero_le _)
  · rw [List.mem_singleton.mp m]
    exact h
/-! ### the pool -/
structure Pl where
  cell : Int
  cnt : Int
  big : Bool
  k : Int
def Pl.ds (c : Pl) : List D := [.int c.cell, .int c.cnt, .bl c.big, .int c.k]
def Pl.c (c : Pl) : Cell := .lst c.ds
def celOf (ns : List Int) (k : Int) : Int := ns.getD k.toNat 0
def bigOf (x : Int) : Bool := decide (x ≥ 10 ^ 18)
def poolOf (ns : List Int) (k : Int) : Pl := ⟨celOf ns k, 0, bigOf (celOf ns k), k⟩
def drawV (c : Pl) (m : Int) : Int := if c.big then c.cell % m else (((((c.cell * 48271 + (c.cnt + 1) * 104729 + c.k * 8191 + 11) % 2147483647) ^ (3 : Int).toNat + (c.cnt + 1) * 7919) % 2147483629) ^ (5 : Int).toNat % 2147483587) / 16 % m
def drawC (c : Pl) (m : Int) : Pl := ⟨if c.big then c.cell / m else c.cell, c.cnt + 1, c.big, c.k⟩
theorem drawV_in {c : Pl} {m : Int} (h : 0 < m) : 0 ≤ drawV c m ∧ drawV c m < m := by
  unfold drawV
  split
  · exact ⟨Int.emod_nonneg _ (by omega), Int.emod_lt_of_pos _ h⟩
  · exact ⟨Int.emod_nonneg _ (by omega), Int.emod_lt_of_pos _ h⟩
/-- the digit drawn, as a place -/
def drawN (c : Pl) (n : Nat) : Nat := (drawV c (n : Nat)).toNat
theorem drawN_lt {c : Pl} {n : Nat} (h : 0 < n) : drawN c n < n := by
  have := drawV_in (c := c) (m := (n : Nat)) (by omega)
  unfold drawN
  omega
theorem drawN_eq {c : Pl} {n : Nat} (h : 0 < n) : drawV c (n : Nat) = ((drawN c n : Nat) : Int) := by
  have := drawV_in (c := c) (m := (n : Nat)) (by omega)
  unfold drawN
  omega
def poolR : FSpec := fun ds c o => ∃ (g : G) (ns : List Int) (k : Nat), ds = [.lst g (ns.map D.int), .int (k : Nat)] ∧ o = .val (.lst ⟨true, true⟩ (poolOf ns k).ds) true c
def drawR : FSpec := fun ds c o => ∃ (i : Nat) (m : Int) (x : Pl), ds = [.mut i, .int m] ∧ c[i]? = some x.c ∧ 0 < m ∧ m < 1073741824 ∧ o = .val (.int (drawV x m)) false (c.set i (drawC x m).c)
theorem at_set {α : Type} {c : List α} {i : Nat} {x y : α} (h : c[i]? = some x) : (c.set i y)[i]? = some y := by
  rw [List.getElem?_set_self (List.getElem?_eq_some_iff.mp h).1]
theorem small_pow {x m : Int} (h : 0 < m) (hm : m ≤ 2147483648) : (x % m).natAbs < 2 ^ 64 := by
  have h1 := Int.emod_nonneg x (show m ≠ 0 by omega)
  have h2 := Int.emod_lt_of_pos x h
  have : (2 : Nat) ^ 64 = 18446744073709551616 := by decide
  omega
theorem cmul_r {i j : Int} (h1 : -1000000000 < j) (h2 : j < 1000000000) : CMul i j := by
  have e1 : (-(2 ^ 64) : Int) = -18446744073709551616 := by decide
  have e2 : (2 ^ 64 : Int) = 18446744073709551616 := by decide
  exact .inr ⟨by omega, by omega⟩
end LA

namespace LA
open PySem PySem.Spec PyProof.Rows L2
/-! ### error classes of one field -/
structure Err1 (P : Program) (w : World) (K : PySem.W.Frag) (mg : Str → Option Value) (base : Heap) (x f : Str) (C : Addr) : Prop where
  ox : OexC K C
  xf : XfC K C
  no : PySem.W.findIn K (.ref C) f = some none
  ini : ∃ g fd pn, PySem.W.findIn K (.ref C) "__init__" = some (some (.ref g)) ∧ PySem.W.typeIn K (.ref g) = some (.type "function") ∧ FnOk P w K mg base CX0 1 g fd ["self", pn] (spIni1 K f) ∧ Binds K fd ["self", pn] []
  mg : mg x = some (.ref C)
section
variable {X : Cx} {W : WX} {p : HD} {ρ : Rho} {c c1 : PC} {e : Expr} {pos pos2 xp : Pos} {d : D} {n1 : Bool} {x f : Str} {C : Addr}
theorem rs_raiseG (hc : X.calm = true) (tk : Takes X W) (E : Err1 X.prog X.w X.K X.mg X.base x f C) (hr : Room 2 X.A) (he : RE X W p ρ c e (.val d n1 c1)) (hg : Gl X x := by rfl)
    (hdb : (x == ("__debug__" : Str)) = false := by decide) (hs : starEach (e :: []) X.env = (false, eval e X.env) :: starEach [] X.env := by rfl) (hpl : (backTo pos (starEach [] X.env)).any (·.1) = false := by rfl) :
    RS X W p ρ c (.Raise (some (.Call (.Name x xp) [e] [] pos)) none pos2) (.ex C [(f, d)] c1) := by
  obtain ⟨g, fd, pn, h1, h2, h3, h4⟩ := E.ini
  exact rs_raise1 hc tk E.ox E.no h1 h2 h3 hr h4 E.mg he hg hdb hs hpl
end
theorem cv_lenTup {K : PySem.W.Frag} {p : HD} {c : PC} {ds : List D} : CV K p (fun xs H Q => ∃ x n, xs = [x] ∧ LenV K x H n ∧ Q (.int n) H) [.tup ds] (.int (ds.length : Nat)) true c := fun vs H Q dvs hp k => by
  cases dvs with
  | cons h r =>
    cases r
    cases h with
    | tup hq ha =>
      refine ⟨_, ds.length, rfl, .inr ⟨_, un_sqT hq, ha.length.symm⟩, k _ H (Ext.refl p H) hp (.int _) fun _ => New.sc (by intro a h; cases h)⟩
theorem kit2 {K : PySem.W.Frag} {t a b : String} {b1 b2 : Bool} (h1 : kitB t a = some b1) (h2 : kitB t b = some b2) : PySem.W.kitAny K (.type t) [.type a, .type b] = some (b1 || b2) := by
  unfold PySem.W.kitAny
  rw [kit_ty h1]
  cases b1 with
  | true => rfl
  | false =>
    show PySem.W.kitAny K (.type t) [.type b] = some b2
    unfold PySem.W.kitAny
    rw [kit_ty h2]
    cases b2 <;> rfl
/-! ### what an expression gives, as what a statement does -/
def asSt : EO → SO
  | .val d nw c => .rt d nw c
  | .ex C fs c => .ex C fs c
theorem rss_retO {X : Cx} {W : WX} {p : HD} {ρ : Rho} {c : PC} {e : Expr} {pos : Pos} {o : EO} {rest : List Stmt} (h : RE X W p ρ c e o) : RSs X W p ρ c (.Return (some e) pos :: rest) (asSt o) := by
  cases o with
  | val d nw c' => exact rss_ret (rs_ret h)
  | ex C fs c' => exact rss_ex (rs_retX h)
theorem rss_ifO {X : Cx} {W : WX} {p : HD} {ρ : Rho} {c c1 : PC} {t : Expr} {A : List Stmt} {pos : Pos} {o : EO} {rest : List Stmt} (ht : RT X W p ρ c t (.val true c1)) (h : RSs X W p ρ c1 A (asSt o)) : RSs X W p ρ c (.If t A [] pos :: rest) (asSt o) := by
  cases o with
  | val d nw c' => exact rss_ret (rs_if (kb := true) ht (fun _ => h) fun z => nomatch z)
  | ex C fs c' => exact rss_ex (rs_if (kb := true) ht (fun _ => h) fun z => nomatch z)
theorem bodyOk_of {X : Cx} {W : WX} {p : HD} {ρ : Rho} {c : PC} {body : List Stmt} {o : EO} (h : RSs X W p ρ c body (asSt o)) : BodyOk X W p ρ c body o := by
  cases o with
  | val d nw c' => exact .inl h
  | ex C fs c' => exact h
/-! ### parts of texts -/
theorem cut_lo {l : List Nat} {i : Nat} (h : i ≤ l.length) : cutS (tx l) none (some (i : Nat)) = tx (l.take i) := by
  unfold cutS
  rw [HT.sIx_none, HT.sIx_nat, tx_list, tx_len, Nat.min_eq_left h]
  rfl
theorem cut_hi {l : List Nat} {i : Nat} (h : i ≤ l.length) : cutS (tx l) (some (i : Nat)) none = tx (l.drop i) := by
  unfold cutS
  rw [HT.sIx_none, HT.sIx_nat, tx_list, tx_len, Nat.min_eq_left h, List.take_of_length_le (by rw [List.length_drop]; omega)]
  rfl
theorem set_cut {l : List Nat} {i : Nat} {a : Nat} (h : i < l.length) : l.take i ++ [a] ++ l.drop (i + 1) = l.set i a := by
  rw [List.set_eq_take_append_cons_drop, if_pos h, List.append_assoc]
  rfl
theorem digit_str {i : Int} (h : i = 0 ∨ i = 1) : (toString i).toList.map Char.toNat = [48 + i.toNat] := by
  rcases h with rfl | rfl <;> decide
/-! ### signs that are not of a text -/
def odds (a l : List Nat) : List D := coll (fun i => !decide (l.getD i 0 ∈ a)) (fun i => .str (chr1 (l.getD i 0))) l.length
theorem odds_nil (a l : List Nat) : (odds a l).isEmpty = l.all fun n => decide (n ∈ a) := by
  unfold odds
  rw [coll_none, ← all_get l]
  congr 1
  funext i
  rw [Bool.not_not]
theorem odds_ok {a l : List Nat} (h : ∀ n ∈ l, n < 0x110000) : (odds a l).all flatOk = true := by
  unfold odds
  rw [coll_some, List.all_map, List.all_eq_true]
  intro i hi
  have hi' := List.mem_range.mp (List.mem_filter.mp hi).1
  show PyData.strOk (chr1 (l.getD i 0)) = true
  unfold PyData.strOk chr1
  have : l.getD i 0 ∈ l := by
    rw [List.getD_eq_getElem?_getD, List.getElem?_eq_getElem hi']
    exact List.getElem_mem _
  have q := h _ this
  generalize l.getD i 0 = m at q
  simp [q]
/-- the first place at which a test fails -/
theorem first_bad (b : Nat → Bool) : ∀ n : Nat, ∃ m, m ≤ n ∧ (∀ i, i < m → b i = true) ∧ (m = n ∨ (m < n ∧ b m = false))
  | 0 => ⟨0, Nat.le_refl _, (fun i h => absurd h (Nat.not_lt_zero i)), .inl rfl⟩
  | n + 1 => by
    obtain ⟨m, h1, h2, h3⟩ := first_bad b n
    rcases h3 with rfl | ⟨h3, h4⟩
    · cases hb : b m with
      | false => exact ⟨m, by omega, h2, .inr ⟨by omega, hb⟩⟩
      | true => exact ⟨m + 1, Nat.le_refl _, (fun i hi => by
          by_cases e : i = m
          · rw [e, hb]
          · exact h2 i (by omega)), .inl rfl⟩
    · exact ⟨m, by omega, h2, .inr ⟨by omega, h4⟩⟩
theorem ov_ixSeq {K : PySem.W.Frag} {p : HD} {c : PC} {b d : D} {xs : List D} {i : Int} {j : Nat} (h : isSeqOf b xs) (e : i = (j : Int)) (hx : xs[j]? = some d) : OV K p (rIx K) b (.int i) d false c := by
  rcases h with ⟨g, rfl⟩ | rfl
  · exact ov_ixL e hx
  · exact ov_ixT e hx
theorem cv_lenSeq {K : PySem.W.Frag} {p : HD} {c : PC} {b : D} {xs : List D} (h : isSeqOf b xs) : CV K p (fun xs H Q => ∃ x n, xs = [x] ∧ LenV K x H n ∧ Q (.int n) H) [b] (.int (xs.length : Nat)) true c := by
  rcases h with ⟨g, rfl⟩ | rfl
  · exact cv_lenL
  · exact cv_lenTup
structure Def1K (P : Program) (w : World) (K : PySem.W.Frag) (mg : Str → Option Value) (base : Heap) (k : Nat) (x : Str) (ps : List Str) (R : FSpec) (n : Nat) (ks : List Str) (g : List Value → List Value → List Value) (gV : List V → List V → List V) : Prop where
  ex : ∃ (f : Addr) (fd : FuncData), FnOk P w K mg base (L2.CX P w) k f fd ps (spF K R) ∧ mg x = some (.ref f) ∧ PySem.W.keepIn K (.ref f) = true ∧ KBn K fd ps n ks g gV
/-! ### what the head leaves -/
/-- a def of the top as the head has left it -/
structure Gf (K : PySem.W.Frag) (x : Str) (st : Stmt) : Prop where
  ex : ∃ f fd, PySem.W.nsIn K mainGlobals x = some (some (.ref f)) ∧ Fun K x x st f fd
theorem gf_mk {K : PySem.W.Frag} {x : Str} {st : Stmt} {f : Addr} {oc kV dc pm cd ct : Value} {od an : Option Addr} {sl : Array (Option Value)} (a : PySem.W.nsIn K mainGlobals x = some (some (.ref f)))
    (l : K.lookup f = some ⟨oc, od, .func (PySem.W.fnOf x x (defArgs st) (defBody st) (defScope st) .none kV dc pm an cd ct), sl⟩) (c : PySem.W.codeIn K cd x = true) (k : PySem.W.keepIn K (.ref f) = true) : Gf K x st := ⟨⟨f, _, a, fun_mk l c k⟩⟩
/-- an error class and its maker -/
structure Ge (K : PySem.W.Frag) (x q : Str) (st : Stmt) (C : Addr) : Prop where
  ns : PySem.W.nsIn K mainGlobals x = some (some (.ref C))
  ox : OexC K C
  xf : XfC K C
  ini : ∃ f fd, PySem.W.findIn K (.ref C) "__init__" = some (some (.ref f)) ∧ PySem.W.typeIn K (.ref f) = some (.type "function") ∧ Fun K "__init__" q st f fd
theorem ge_mk {K : PySem.W.Frag} {x q nm qn : Str} {st : Stmt} {C f N : Addr} {bs bm sub : List Value} {sn : List Str} {ab : Bool} {col : Option Bool} {dd od an : Option Addr} {m0 m1 m2 m3 m5 : Option Value} {oc kV dc pm cd ct : Value} {sl : Array (Option Value)}
    (ns : PySem.W.nsIn K mainGlobals x = some (some (.ref C))) (xL : K.lookup C = some (excClassObj nm qn C N bs bm true sn sub ab col dd m0 m1 m2 m3 m5 "ValueError.__new__")) (hv : PySem.HandSPX.refsVE bm = true) (sa : PySem.W.findIn K (.ref C) "__setattr__" = some (some (.builtin "object.__setattr__")))
    (eC : PySem.W.subIn K (.ref C) (.type "BaseException") = some true) (tC : PySem.W.typeIn K (.ref C) = some (.type "type")) (kC : PySem.W.keepIn K (.ref C) = true) (ga : PySem.W.findIn K (.ref C) "__getattribute__" = some (some (.builtin "BaseException.__getattribute__"))) (gg : PySem.W.findIn K (.ref C) "__getattr__" = some none) (hC : PySem.W.hasDictIn K C = true)
    (a : PySem.W.findIn K (.ref C) "__init__" = some (some (.ref f))) (t : PySem.W.typeIn K (.ref f) = some (.type "function")) (l : K.lookup f = some ⟨oc, od, .func (PySem.W.fnOf "__init__" q (defArgs st) (defBody st) (defScope st) .none kV dc pm an cd ct), sl⟩) (c : PySem.W.codeIn K cd q = true) (k : PySem.W.keepIn K (.ref f) = true) : Ge K x q st C :=
  ⟨ns, ⟨⟨nm, qn, N, bs, bm, sn, sub, ab, col, dd, m0, m1, m2, m3, m5, xL, hv⟩, sa, eC, tC, kC⟩, ⟨ga, gg, eC, hC⟩, f, _, a, t, fun_mk l c k⟩
theorem gn_mk {K : PySem.W.Frag} {x : Str} {C : Addr} (ns : PySem.W.nsIn K mainGlobals x = some (some (.ref C))) : PySem.W.nsIn K mainGlobals x = some (some (.ref C)) := ns
section
variable {P : Program} {w : World} {K : PySem.W.Frag} {mg : Str → Option Value} {base h : Heap} {x : Str} {st : Stmt} {ps : List Str} {k : Nat} {R : FSpec}
theorem def0 (X : K.In h) (G : h.Ns mainGlobals mg) (g : Gf K x st) (hf : ∀ f fd, Fun K x x st f fd → FnOk P w K mg base CX0 k f fd ps (spF K R))
    (hb : ∀ (kV doc pm : Value) (an : Option Addr) (cdv ct : Value) (us : List Value), us.length = ps.length → bindArgs (PySem.W.fnOf x x (defArgs st) (defBody st) (defScope st) .none kV doc pm an cdv ct) ⟨us, []⟩ = pure (ps.zip us)) : Def0 P w K mg base k x ps R := by
  obtain ⟨f, fd, a, F⟩ := g.ex
  exact ⟨⟨f, fd, hf f fd F, PySem.W.mg_of X G a, F.kp, F.binds hb⟩⟩
theorem def1 (X : K.In h) (G : h.Ns mainGlobals mg) (g : Gf K x st) (hf : ∀ f fd, Fun K x x st f fd → FnOk P w K mg base (L2.CX P w) k f fd ps (spF K R))
    (hb : ∀ (kV doc pm : Value) (an : Option Addr) (cdv ct : Value) (us : List Value), us.length = ps.length → bindArgs (PySem.W.fnOf x x (defArgs st) (defBody st) (defScope st) .none kV doc pm an cdv ct) ⟨us, []⟩ = pure (ps.zip us)) : Def1 P w K mg base k x ps R := by
  obtain ⟨f, fd, a, F⟩ := g.ex
  exact ⟨⟨f, fd, hf f fd F, PySem.W.mg_of X G a, F.kp, F.binds hb⟩⟩
theorem err1 {q f pn : Str} {C : Addr} {q1 q2 q3 q4 : Pos} (X : K.In h) (G : h.Ns mainGlobals mg) (g : Ge K x q st C) (no : PySem.W.findIn K (.ref C) f = some none) (S : FnScope ["self", pn] ["self", pn] (defScope st)) (hb : defBody st = [.Assign [.Attribute (.Name "self" q1) f q2] (.Name pn q3) q4])
    (h1 : (pn == ("__debug__" : Str)) = false) (h2 : (pn == ("__classdict__" : Str)) = false)
    (hbd : ∀ (kV doc pm : Value) (an : Option Addr) (cdv ct : Value) (us : List Value), us.length = (["self", pn] : List Str).length → bindArgs (PySem.W.fnOf "__init__" q (defArgs st) (defBody st) (defScope st) .none kV doc pm an cdv ct) ⟨us, []⟩ = pure ((["self", pn] : List Str).zip us)) : Err1 P w K mg base x f C := by
  obtain ⟨f1, fd, i1, t1, F⟩ := g.ini
  exact ⟨g.ox, g.xf, no, ⟨f1, fd, pn, i1, t1, ok_ini1 F S hb h1 h2, F.binds hbd⟩, PySem.W.mg_of X G g.ns⟩
theorem def1K {n : Nat} {ks : List Str} {g' : List Value → List Value → List Value} {gV : List V → List V → List V} (X : K.In h) (G : h.Ns mainGlobals mg) (g : Gf K x st) (hf : ∀ f fd, Fun K x x st f fd → FnOk P w K mg base (L2.CX P w) k f fd ps (spF K R))
    (hb : ∀ (kV doc pm : Value) (an : Option Addr) (cdv ct : Value) (us ws : List Value), us.length = n → ws.length = ks.length → bindArgs (PySem.W.fnOf x x (defArgs st) (defBody st) (defScope st) .none kV doc pm an cdv ct) ⟨us, ks.zip ws⟩ = pure (ps.zip (g' us ws)))
    (hv : ∀ {vs : List V} {us : List Value} {zs : List V} {ws : List Value}, Vals vs us → Vals zs ws → Vals (gV vs zs) (g' us ws)) : Def1K P w K mg base k x ps R n ks g' gV := by
  obtain ⟨f, fd, a, F⟩ := g.ex
  refine ⟨⟨f, fd, hf f fd F, PySem.W.mg_of X G a, F.kp, ⟨fun s us ws _ h1 h2 => ?_, hv⟩⟩⟩
  obtain ⟨oc, od, kV, doc, pm, an, cdv, ct, osl, rfl, _⟩ := F.ex
  exact .of_eq (hb kV doc pm an cdv ct us ws h1 h2)
theorem vals_rev : ∀ {vs : List V} {us : List Value}, Vals vs us → Vals vs.reverse us.reverse
  | _, _, .nil => .nil
  | _, _, .cons h r => by
    rw [List.reverse_cons, List.reverse_cons]
    exact (vals_rev r).append (.cons h .nil)
end
theorem dvs_script {K : PySem.W.Frag} {H : Hp} {a : Addr} {ns : List Int} (sq : SqL K H a (ns.map V.int)) : DVs K ⟨[], []⟩ H [.ref a] [.lst ⟨false, false⟩ (ns.map D.int)] := by
  refine .cons (.lst ⟨(fun z => nomatch z), fun z => nomatch z⟩ (Sub.sqL (fun b o y => ?_) sq) ?_) .nil
  · rw [hide_ne]
    · exact y
    · rintro (z | z)
      · cases z
      · cases z
  · clear sq
    induction ns with
    | nil => exact .nil
    | cons n r ih => exact .cons (.int n) ih
theorem pool_none {K : PySem.W.Frag} {H : Hp} : PoolAt K ⟨[], []⟩ H [] := ⟨⟨List.nodup_nil, rfl, fun i b x h => by simp at h⟩, fun b z => nomatch z⟩
end LA

namespace LA
open PySem PySem.Spec PyProof.Rows L2
/-! ### the bag -/
structure Bg where
  xs : List Int
  w : Int
  s : Int
  n : Int
def Bg.ds (b : Bg) : List D := [.lst ⟨false, true⟩ (b.xs.map D.int), .int b.w, .int b.s, .int b.n]
def Bg.c (b : Bg) : Cell := .lst b.ds
def abI (i : Int) : Int := if i < 0 then -i else i
/-- a cell is taken -/
def Bg.took (b : Bg) : Bg := match b.xs with
  | [] => b
  | x :: r => if b.w = 0 then ⟨r, if abI x ≥ 10 ^ (18 : Int).toNat then abI x else b.w, (b.s * 69069 + x * 48271 + 5) % 2147483647, b.n⟩ else b
def mixV (s n m : Int) : Int := (((((s + n * 40692) % 2147483647) ^ (3 : Int).toNat + n * 16807 + 7) % 2147483629) ^ (2 : Int).toNat + 3 * ((((s + n * 40692) % 2147483647) ^ (3 : Int).toNat + n * 16807 + 7) % 2147483629)) % 2147483587 / 8 % m
def bagV (b : Bg) (m : Int) : Int := if b.took.w > 0 then b.took.w % m else mixV b.took.s (b.took.n + 1) m
def bagC (b : Bg) (m : Int) : Bg := if b.took.w > 0 then { b.took with w := b.took.w / m } else { b.took with n := b.took.n + 1 }
theorem bagV_in {b : Bg} {m : Int} (h : 0 < m) : 0 ≤ bagV b m ∧ bagV b m < m := by
  unfold bagV mixV
  split
  · exact ⟨Int.emod_nonneg _ (by omega), Int.emod_lt_of_pos _ h⟩
  · exact ⟨Int.emod_nonneg _ (by omega), Int.emod_lt_of_pos _ h⟩
def bagR : FSpec := fun ds c o => ∃ (g : G) (ns : List Int), ds = [.lst g (ns.map D.int)] ∧ o = .val (.lst ⟨true, true⟩ (Bg.ds ⟨ns, 0, 29, 0⟩)) true c
def bdrawR : FSpec := fun ds c o => ∃ (m : Int) (b : Bg), ds = [.mut 0, .int m] ∧ c = [b.c] ∧ 0 < m ∧ m.natAbs.log2 < 9000 ∧ o = .val (.int (bagV b m)) false [(bagC b m).c]
section
variable {X : Cx} {W : WX} {p : HD} {ρ : Rho} {c c1 : PC} {e : Expr} {es : List Expr} {pos xp : Pos} {d : D} {nw : Bool} {K : PySem.W.Frag} {g : G} {xs : List D} {ds : List D} {x : Str}
theorem cv_listL : CV K p (fun vs H Q => ∃ p ys, vs = [.ref p] ∧ (SqL K H p ys ∨ SqT K H p ys) ∧ ∀ l, H l = none → Q (.ref l) (upd H l (.lst ys))) [.lst g xs] (.lst ⟨false, true⟩ xs) true c := fun vs H Q dvs hp k => by
  cases dvs with
  | cons h1 r =>
    cases r
    cases h1 with
    | lst hb hq ha =>
      exact ⟨_, _, rfl, .inl (un_sqL hq), fun l nl => k _ _ (Ext.new nl) (hp.upd nl) (.lst ⟨(fun z => nomatch z), fun _ => hide_upd hp nl⟩ (.inl (.inl (hide_upd hp nl))) (ha.mono (Ext.new nl))) fun _ => New.lst hp nl ha⟩
theorem cv_listT : CV K p (fun vs H Q => ∃ p ys, vs = [.ref p] ∧ (SqL K H p ys ∨ SqT K H p ys) ∧ ∀ l, H l = none → Q (.ref l) (upd H l (.lst ys))) [.tup xs] (.lst ⟨false, true⟩ xs) true c := fun vs H Q dvs hp k => by
  cases dvs with
  | cons h1 r =>
    cases r
    cases h1 with
    | tup hq ha =>
      exact ⟨_, _, rfl, .inr (un_sqT hq), fun l nl => k _ _ (Ext.new nl) (hp.upd nl) (.lst ⟨(fun z => nomatch z), fun _ => hide_upd hp nl⟩ (.inl (.inl (hide_upd hp nl))) (ha.mono (Ext.new nl))) fun _ => New.lst hp nl ha⟩
theorem cv_abs {i : Int} : CV K p (fun xs H Q => ∃ i, xs = [.int i] ∧ Q (.int (if i < 0 then -i else i)) H) [.int i] (.int (abI i)) true c := fun vs H Q dvs hp k => by
  cases dvs with
  | cons h r =>
    cases r
    cases h
    exact ⟨i, rfl, k _ H (Ext.refl p H) hp (.int _) fun _ => New.sc (by intro a h; cases h)⟩
theorem cv_gcd {a b : Int} : CV K p rGcd [.int a, .int b] (.int ((Nat.gcd a.natAbs b.natAbs : Nat) : Int)) true c := fun vs H Q dvs hp k => by
  cases dvs with
  | cons h r =>
    cases r with
    | cons h2 r =>
      cases r
      cases h
      cases h2
      exact ⟨a, b, rfl, k _ H (Ext.refl p H) hp (.int _) fun _ => New.sc (by intro a h; cases h)⟩
/-- a call of a built-in that stands under a module's name -/
theorem re_callBf {id : String} {r : List V → Hp → VK → Prop} (hc : CallR X (.builtin id) r) (hm : X.mg x = some (.builtin id)) (ha : RA X W p ρ c (e :: es) (.val ds c1)) (hr : CV X.K p r ds d nw c1)
    (hg : Gl X x := by rfl) (hdb : (x == ("__debug__" : Str)) = false := by decide)
    (he : starEach (e :: es) X.env = (false, eval e X.env) :: starEach es X.env := by rfl) (hpl : (backTo pos (starEach es X.env)).any (·.1) = false := by rfl) : RE X W p ρ c (.Call (.Name x xp) (e :: es) [] pos) (.val d nw c1) :=
  pe_imp (pe_callBfun hc hg hm ha hdb he hpl) fun σ H Q ⟨s, k⟩ => ⟨s, fun vs H1 e1 p1 dvs => hr vs H1 Q dvs p1 fun w H2 e2 p2 dw hn => k w H2 (e1.trans e2) p2 dw fun q => (hn q).back e1⟩
end
/-- // by any int but 0 -/
theorem op_fdivA {X : Cx} : OpR X (binaryOp .FloorDiv) (rI (fun _ j => j ≠ 0 ∧ j.natAbs.log2 < 9000) fun i j => .int (i.fdiv j)) := opI fun i j _ _ _ _ _ hc q => floordiv_int hc.1 q (.inl (PyProof.noPylong_of_log2 hc.2))
theorem log_lt {m : Int} {n : Nat} (h : m.natAbs < 2 ^ n) (hn : 0 < n) : m.natAbs.log2 < n := PySem.Flt.log2_lt_of hn h
end LA

namespace K56
open PySem PySem.Spec PyProof.Rows L2 LA
def top (i : Nat) : Stmt := PySem.Challenge.pw_leastlooks_k56_costs_of_trees.main.body.getD i (.Pass ⟨0, 0, 0, 0⟩)
abbrev sBag : Stmt := top 31
abbrev sDraw : Stmt := top 32
/-- built-in names that the text leaves alone -/
structure Glb (mg : Str → Option Value) : Prop where
  len : mg "len" = none
  int : mg "int" = none
  range : mg "range" = none
  list : mg "list" = none
  str : mg "str" = none
  isi : mg "isinstance" = none
  all : mg "all" = none
  repr : mg "repr" = none
  min : mg "min" = none
  max : mg "max" = none
  zip : mg "zip" = none
  iter : mg "iter" = none
  tuple : mg "tuple" = none
  bool : mg "bool" = none
  abs : mg "abs" = none
  sum : mg "sum" = none
section
variable {P : Program} {w : World} {K : PySem.W.Frag} {mg : Str → Option Value} {base : Heap}
theorem scBag : FnScope ["_law_script"] ["_law_script"] (defScope sBag) := ⟨rfl, rfl, rfl, by decide +kernel, rfl, by decide +kernel, by decide +kernel⟩
theorem ok_bag {f : Addr} {fd : FuncData} (G : Glb mg) (F : Fun K "_law_bag" "_law_bag" sBag f fd) : FnOk P w K mg base CX0 1 f fd ["_law_script"] (spF K bagR) := by
  refine fn_val F scBag (fun ds c o h => ?_) (fun ds c o h => ?_) (fun cdv A outer s H E hr p ds c o h => ?_)
  · obtain ⟨g, ns, rfl, _⟩ := h
    rfl
  · obtain ⟨g, ns, _, rfl⟩ := h
    exact ⟨_, _, _, rfl⟩
  · obtain ⟨g, ns, rfl, rfl⟩ := h
    exact .inl (rss_ret (rs_ret (re_lst (ra_cons (re_callT call_list_of G.list PyProof.Rows.boot_list (ra_cons (re_var 0) ra_nil) cv_listL) (ra_cons re_int (ra_cons re_int (ra_cons re_int ra_nil)))) (by show 4 ≤ 100000; decide))))
abbrev nBd : List Str := ["_law_bag_here", "_law_many", "_law_cell", "_law_digit", "_law_mixed"]
theorem scBd : FnScope nBd ["_law_bag_here", "_law_many"] (defScope sDraw) := ⟨rfl, rfl, rfl, by decide +kernel, rfl, by decide +kernel, by decide +kernel⟩
theorem low_i (n : Nat) : ∀ ns : List Int, lowDs n (ns.map D.int) = true
  | [] => rfl
  | a :: r => low_i n r
theorem flat_i (ns : List Int) : (ns.map D.int).all flatOk = true := by
  rw [List.all_map, List.all_eq_true]
  intro n _
  rfl
theorem cut_tail (x : Int) (r : List Int) : LA.cutD ((x :: r).map D.int) (some 1) none = r.map D.int := by
  unfold LA.cutD
  have e : HT.sIx ((x :: r).map D.int).length 0 (some 1) = 1 := by
    have := HT.sIx_nat ((x :: r).map D.int).length 0 1
    rw [List.length_map, List.length_cons] at *
    exact this.trans (Nat.min_eq_left (by omega))
  rw [e, HT.sIx_none, List.length_map, List.length_cons]
  show ((r.map D.int).take _) = _
  rw [List.take_of_length_le (by rw [List.length_map]; omega)]
variable {f : Addr} {cdv : Value} {A : Around} {outer : List Env} {s : Shared} {H : Hp} {E : XK}
abbrev cxBd (P : Program) (w : World) (K : PySem.W.Frag) (mg : Str → Option Value) (base : Heap) (f : Addr) (cdv : Value) (A : Around) (outer : List Env) (s : Shared) (H : Hp) (E : XK) : Cx := (cxOf CX0 P w K mg base nBd "_law_draw" (defScope sDraw) f cdv A outer s H E).nox
/-- behind the taking of a cell -/
theorem draw_rest {p : HD} {b : Bg} {m : Int} {o : Option D} (G : Glb mg) (h0 : 0 < m) (h1 : m.natAbs.log2 < 9000) :
    RSs (cxBd P w K mg base f cdv A outer s H E) Wf p [some (.mut 0), some (.int m), o, none, none] [b.c] ((defBody sDraw).drop 1) (.rt (.int (if b.w > 0 then b.w % m else mixV b.s (b.n + 1) m)) false [(if b.w > 0 then ({ b with w := b.w / m } : Bg) else { b with n := b.n + 1 }).c]) := by
  obtain ⟨xs, wd, sd, nd⟩ := b
  have hb : ([Bg.c ⟨xs, wd, sd, nd⟩] : LA.PC)[0]? = some (.lst (Bg.ds ⟨xs, wd, sd, nd⟩)) := rfl
  have tt : ∀ {k : Bool}, decide (wd > 0) = k → OV K p (rI0 fun i j => V.bl (decide (i > j))) (.int wd) (.int 0) (.bl k) true [Bg.c ⟨xs, wd, sd, nd⟩] := fun {k} hk => by
    have q := ov_ib (K := K) (p := p) (c := [Bg.c ⟨xs, wd, sd, nd⟩]) (f := fun i j => decide (i > j)) (i := wd) (j := 0)
    rw [hk] at q
    exact q
  by_cases hw : wd > 0
  · rw [if_pos (show (Bg.w ⟨xs, wd, sd, nd⟩) > 0 from hw), if_pos (show (Bg.w ⟨xs, wd, sd, nd⟩) > 0 from hw)]
    refine rss_ret (rs_if (kb := true) (rt_cmp op_gt (re_mix 0 0 1 hb rfl) re_int (tt (decide_eq_true hw))) (fun _ => ?_) fun z => nomatch z)
    refine rss_cons (rs_set 3 scBd.nd (re_bin op_mod (re_callT call_int1 G.int PyProof.Rows.boot_int (ra_cons (re_mix 0 0 1 hb rfl) ra_nil) cv_int) (re_var 1) (ov_cii h0))) ?_
    refine rss_cons (c1 := [Bg.c ⟨xs, wd / m, sd, nd⟩]) (rs_mst 0 0 1 (d := .int (wd / m)) (ds := Bg.ds ⟨xs, wd, sd, nd⟩) (re_bin op_fdivW (re_mix 0 0 1 hb rfl) (re_var 1) (ov_cii ⟨h0, h1⟩)) re_int hb (by show 1 < 4; decide) rfl) ?_
    exact rss_ret (rs_ret (re_var 3))
  · rw [if_neg (show ¬ (Bg.w ⟨xs, wd, sd, nd⟩) > 0 from hw), if_neg (show ¬ (Bg.w ⟨xs, wd, sd, nd⟩) > 0 from hw)]
    refine rss_cons (c1 := [Bg.c ⟨xs, wd, sd, nd⟩]) (rs_if (kb := false) (rt_cmp op_gt (re_mix 0 0 1 hb rfl) re_int (tt (decide_eq_false hw))) (fun z => nomatch z) fun _ => rss_nil) ?_
    have hb1 : ([Bg.c ⟨xs, wd, sd, nd + 1⟩] : LA.PC)[0]? = some (.lst (Bg.ds ⟨xs, wd, sd, nd + 1⟩)) := rfl
    refine rss_cons (c1 := [Bg.c ⟨xs, wd, sd, nd + 1⟩]) (rs_mst 0 0 3 (d := .int (nd + 1)) (ds := Bg.ds ⟨xs, wd, sd, nd⟩) (re_bin op_add (re_mix 0 0 3 hb rfl) re_int ov_ii) re_int hb (by show 3 < 4; decide) rfl) ?_
    refine rss_cons (rs_set 4 scBd.nd (re_bin op_mod (re_callT call_int1 G.int PyProof.Rows.boot_int (ra_cons (re_bin op_add (re_mix 0 0 2 hb1 rfl) (re_bin op_mul (re_mix 0 0 3 hb1 rfl) re_int (ov_cii (cmul_r (by decide) (by decide)))) ov_ii) ra_nil) cv_int) re_int (ov_cii (by show (0 : Int) < _; decide)))) ?_
    refine rss_cons (rs_set 4 scBd.nd (re_bin op_mod (re_callT call_int1 G.int PyProof.Rows.boot_int (ra_cons (re_bin op_add (re_bin op_add (re_bin op_pow (re_var 4) re_int (ov_cii ⟨by decide, by decide, small_pow (by decide) (by decide)⟩)) (re_bin op_mul (re_mix 0 0 3 hb1 rfl) re_int (ov_cii (cmul_r (by decide) (by decide)))) ov_ii) re_int ov_ii) ra_nil) cv_int) re_int (ov_cii (by show (0 : Int) < _; decide)))) ?_
    refine rss_ret (rs_ret (re_old (re_bin op_mod (re_bin op_fdiv (re_bin op_mod (re_callT call_int1 G.int PyProof.Rows.boot_int (ra_cons (re_bin op_add (re_bin op_pow (re_var 4) re_int (ov_cii ⟨by decide, by decide, small_pow (by decide) (by decide)⟩)) (re_bin op_mul re_int (re_var 4) (ov_cii (.inl ⟨by decide, by decide⟩))) ov_ii) ra_nil) cv_int) re_int (ov_cii (by show (0 : Int) < _; decide))) re_int (ov_cii ⟨by decide, by decide⟩)) (re_var 1) (ov_cii h0))))
theorem ok_bdraw {f : Addr} {fd : FuncData} (G : Glb mg) (F : Fun K "_law_draw" "_law_draw" sDraw f fd) : FnOk P w K mg base CX0 1 f fd ["_law_bag_here", "_law_many"] (spF K bdrawR) := by
  refine fn_val F scBd (fun ds c o h => ?_) (fun ds c o h => ?_) (fun cdv A outer s H E hr p ds c o h => ?_)
  · obtain ⟨m, b, rfl, _⟩ := h
    rfl
  · obtain ⟨m, b, _, _, _, _, rfl⟩ := h
    exact ⟨_, _, _, rfl⟩
  · obtain ⟨m, b, rfl, rfl, h0, h1, rfl⟩ := h
    obtain ⟨xs, wd, sd, nd⟩ := b
    have hb : ([Bg.c ⟨xs, wd, sd, nd⟩] : LA.PC)[0]? = some (.lst (Bg.ds ⟨xs, wd, sd, nd⟩)) := rfl
    have hu : (cxBd P w K mg base f cdv A outer s H E).A.units + 64 < cLine := hr.units
    have nope : ∀ b', Bg.took ⟨xs, wd, sd, nd⟩ = b' → b' = ⟨xs, wd, sd, nd⟩ → RS (cxBd P w K mg base f cdv A outer s H E) Wf p (startR nBd [.mut 0, .int m]) [Bg.c ⟨xs, wd, sd, nd⟩] ((defBody sDraw).getD 0 (.Pass ⟨0, 0, 0, 0⟩)) (.nx [some (.mut 0), some (.int m), none, none, none] [Bg.c ⟨xs, wd, sd, nd⟩]) → RSs (cxBd P w K mg base f cdv A outer s H E) Wf p (startR nBd [.mut 0, .int m]) [Bg.c ⟨xs, wd, sd, nd⟩] (defBody sDraw) (.rt (.int (bagV ⟨xs, wd, sd, nd⟩ m)) false [(bagC ⟨xs, wd, sd, nd⟩ m).c]) := fun b' e1 e2 h => by
      unfold bagV bagC
      rw [e1, e2]
      exact rss_cons h (draw_rest G h0 h1)
    have t0 : ∀ {k : Bool}, decide (wd = 0) = k → RT (cxBd P w K mg base f cdv A outer s H E) Wf p (startR nBd [.mut 0, .int m]) [Bg.c ⟨xs, wd, sd, nd⟩] (match defBody sDraw with | .If (.BoolOp _ (t :: _) _) _ _ _ :: _ => t | _ => .Constant .none 0 ⟨0, 0, 0, 0⟩) (.val k [Bg.c ⟨xs, wd, sd, nd⟩]) := fun {k} hk => by
      rw [← hk]
      exact rt_cmp op_eq (re_mix 0 0 1 hb rfl) re_int ov_eqI
    have t1 : ∀ {k : Bool}, (!(xs.map D.int).isEmpty) = k → RT (cxBd P w K mg base f cdv A outer s H E) Wf p (startR nBd [.mut 0, .int m]) [Bg.c ⟨xs, wd, sd, nd⟩] (match defBody sDraw with | .If (.BoolOp _ [_, t] _) _ _ _ :: _ => t | _ => .Constant .none 0 ⟨0, 0, 0, 0⟩) (.val k [Bg.c ⟨xs, wd, sd, nd⟩]) := fun {k} hk => by
      rw [← hk]
      exact rt_cmp (op_neD hu) (n1 := false) (d1 := .lst ⟨false, true⟩ (xs.map D.int)) (re_mix 0 0 0 hb rfl) (re_lst ra_nil (by show 0 ≤ 100000; decide)) (ov_neNil (flat_i xs))
    refine .inl ?_
    by_cases hw : wd = 0
    · cases xs with
      | nil =>
        exact nope _ rfl rfl (rs_if (kb := false) (RW.rt (rw_and (k1 := true) (k2 := false) (t0 (decide_eq_true hw)) fun _ => rw_and1 (t1 rfl))) (fun z => nomatch z) fun _ => rss_nil)
      | cons x r =>
        subst hw
        have eT : Bg.took ⟨x :: r, 0, sd, nd⟩ = ⟨r, if abI x ≥ 10 ^ (18 : Int).toNat then abI x else 0, (sd * 69069 + x * 48271 + 5) % 2147483647, nd⟩ := by
          unfold Bg.took
          simp only [if_true]
        unfold bagV bagC
        rw [eT]
        have hb2 : ([Bg.c ⟨r, 0, sd, nd⟩] : LA.PC)[0]? = some (.lst (Bg.ds ⟨r, 0, sd, nd⟩)) := rfl
        have hb3 : ([Bg.c ⟨r, 0, (sd * 69069 + x * 48271 + 5) % 2147483647, nd⟩] : LA.PC)[0]? = some (.lst (Bg.ds ⟨r, 0, (sd * 69069 + x * 48271 + 5) % 2147483647, nd⟩)) := rfl
        have body : RSs (cxBd P w K mg base f cdv A outer s H E) Wf p (startR nBd [.mut 0, .int m]) [Bg.c ⟨x :: r, 0, sd, nd⟩] (match defBody sDraw with | .If _ a _ _ :: _ => a | _ => []) (.nx [some (.mut 0), some (.int m), some (.int x), none, none] [Bg.c ⟨r, if abI x ≥ 10 ^ (18 : Int).toNat then abI x else 0, (sd * 69069 + x * 48271 + 5) % 2147483647, nd⟩]) := by
          refine rss_cons (c1 := [Bg.c ⟨x :: r, 0, sd, nd⟩]) (rs_set (nw := false) 2 scBd.nd (re_ix ix_seq (d1 := .lst ⟨false, true⟩ ((x :: r).map D.int)) (re_mix 0 0 0 hb rfl) re_int (ov_ixL (j := 0) rfl rfl))) ?_
          refine rss_cons (c1 := [Bg.c ⟨r, 0, sd, nd⟩]) (rs_mst 0 0 0 (d := .lst ⟨false, true⟩ (r.map D.int)) (ds := Bg.ds ⟨x :: r, 0, sd, nd⟩) (by
            have q := re_slL (X := cxBd P w K mg base f cdv A outer s H E) (W := Wf) (p := p) (ρ := (startR nBd [.mut 0, .int m]).set 2 (some (.int x))) (c := [Bg.c ⟨x :: r, 0, sd, nd⟩]) (g := ⟨false, true⟩) (xs := (x :: r).map D.int) (ol := some 1) (oh := none) (c1 := [Bg.c ⟨x :: r, 0, sd, nd⟩]) (c2 := [Bg.c ⟨x :: r, 0, sd, nd⟩]) (c3 := [Bg.c ⟨x :: r, 0, sd, nd⟩])
              (e := match (match defBody sDraw with | .If _ a _ _ :: _ => a | _ => []) with | _ :: .Assign _ (.Subscript t _ _) _ :: _ => t | _ => .Constant .none 0 ⟨0, 0, 0, 0⟩) (lo := match (match defBody sDraw with | .If _ a _ _ :: _ => a | _ => []) with | _ :: .Assign _ (.Subscript _ (.Slice t _ _ _) _) _ :: _ => t | _ => none) (hi := match (match defBody sDraw with | .If _ a _ _ :: _ => a | _ => []) with | _ :: .Assign _ (.Subscript _ (.Slice _ t _ _) _) _ :: _ => t | _ => none)
              (p2 := match (match defBody sDraw with | .If _ a _ _ :: _ => a | _ => []) with | _ :: .Assign _ (.Subscript _ (.Slice _ _ _ t) _) _ :: _ => t | _ => ⟨0, 0, 0, 0⟩) (pos := match (match defBody sDraw with | .If _ a _ _ :: _ => a | _ => []) with | _ :: .Assign _ (.Subscript _ _ t) _ :: _ => t | _ => ⟨0, 0, 0, 0⟩)
              (re_mix 0 0 0 hb rfl) (rp_some (W := Wf) re_int) rp_none
            rw [cut_tail] at q
            exact q) re_int hb (by show 0 < 4; decide) (low_i 0 r)) ?_
          refine rss_cons (c1 := [Bg.c ⟨r, 0, (sd * 69069 + x * 48271 + 5) % 2147483647, nd⟩]) (rs_mst 0 0 2 (d := .int ((sd * 69069 + x * 48271 + 5) % 2147483647)) (ds := Bg.ds ⟨r, 0, sd, nd⟩) (re_bin op_mod (re_callT call_int1 G.int PyProof.Rows.boot_int (ra_cons (re_bin op_add (re_bin op_add (re_bin op_mul (re_mix 0 0 2 hb2 rfl) re_int (ov_cii (cmul_r (by decide) (by decide)))) (re_bin op_mul (re_var 2) re_int (ov_cii (cmul_r (by decide) (by decide)))) ov_ii) re_int ov_ii) ra_nil) cv_int) re_int (ov_cii (by show (0 : Int) < _; decide))) re_int hb2 (by show 2 < 4; decide) rfl) ?_
          have tb : ∀ {k : Bool}, decide (abI x ≥ 10 ^ (18 : Int).toNat) = k → OV K p (rI0 fun i j => V.bl (decide (i ≥ j))) (.int (abI x)) (.int (10 ^ (18 : Int).toNat)) (.bl k) true [Bg.c ⟨r, 0, (sd * 69069 + x * 48271 + 5) % 2147483647, nd⟩] := fun {k} hk => by
            have q := ov_ib (K := K) (p := p) (c := [Bg.c ⟨r, 0, (sd * 69069 + x * 48271 + 5) % 2147483647, nd⟩]) (f := fun i j => decide (i ≥ j)) (i := abI x) (j := 10 ^ (18 : Int).toNat)
            rw [hk] at q
            exact q
          by_cases hx : abI x ≥ 10 ^ (18 : Int).toNat
          · rw [if_pos hx]
            refine rss_cons (c1 := [Bg.c ⟨r, abI x, (sd * 69069 + x * 48271 + 5) % 2147483647, nd⟩]) (rs_if (kb := true) (rt_cmp op_ge (re_callB call_abs G.abs PyProof.Rows.boot_abs (ra_cons (re_var 2) ra_nil) cv_abs) (re_bin op_pow re_int re_int (ov_cii (by show (0 : Int) ≤ 18 ∧ (18 : Int) ≤ 1000000 ∧ _; decide))) (tb (decide_eq_true hx))) (fun _ => ?_) fun z => nomatch z) rss_nil
            exact rss_cons (c1 := [Bg.c ⟨r, abI x, (sd * 69069 + x * 48271 + 5) % 2147483647, nd⟩]) (rs_mst 0 0 1 (d := .int (abI x)) (ds := Bg.ds ⟨r, 0, (sd * 69069 + x * 48271 + 5) % 2147483647, nd⟩) (re_callB call_abs G.abs PyProof.Rows.boot_abs (ra_cons (re_var 2) ra_nil) cv_abs) re_int hb3 (by show 1 < 4; decide) rfl) rss_nil
          · rw [if_neg hx]
            exact rss_cons (c1 := [Bg.c ⟨r, 0, (sd * 69069 + x * 48271 + 5) % 2147483647, nd⟩]) (rs_if (kb := false) (rt_cmp op_ge (re_callB call_abs G.abs PyProof.Rows.boot_abs (ra_cons (re_var 2) ra_nil) cv_abs) (re_bin op_pow re_int re_int (ov_cii (by show (0 : Int) ≤ 18 ∧ (18 : Int) ≤ 1000000 ∧ _; decide))) (tb (decide_eq_false hx))) (fun z => nomatch z) fun _ => rss_nil) rss_nil
        exact rss_cons (rs_if (kb := true) (RW.rt (rw_and (k1 := true) (k2 := true) (t0 (decide_eq_true rfl)) fun _ => rw_and1 (t1 rfl))) (fun _ => body) fun z => nomatch z) (draw_rest G h0 h1)
    · refine nope _ rfl ?_ (rs_if (kb := false) (RW.rt (rw_and (k1 := false) (k2 := false) (t0 (decide_eq_false hw)) fun z => nomatch z)) (fun z => nomatch z) fun _ => rss_nil)
      unfold Bg.took
      cases xs with
      | nil => rfl
      | cons x r =>
        show (if wd = 0 then _ else _) = _
        rw [if_neg hw]
abbrev BagD (P : Program) (w : World) (K : PySem.W.Frag) (mg : Str → Option Value) (base : Heap) := Def0 P w K mg base 1 "_law_bag" ["_law_script"] bagR
abbrev BdrawD (P : Program) (w : World) (K : PySem.W.Frag) (mg : Str → Option Value) (base : Heap) := Def0 P w K mg base 1 "_law_draw" ["_law_bag_here", "_law_many"] bdrawR
section
variable {X : Cx} {W : WX} {p : HD} {ρ : Rho} {p2 p3 p5 : Pos} {e : Expr} {nw : Bool}
theorem re_bdraw (i : Nat) {m : Int} {b : Bg} (T : BdrawD X.prog X.w X.K X.mg X.base) (hr : Room 1 X.A) (he : RE X W p ρ [b.c] e (.val (.int m) nw [b.c])) (h0 : 0 < m) (h1 : m.natAbs.log2 < 9000) (hρ : ρ[i]? = some (some (.mut 0)) := by rfl) (hN : X.N[i]? = some ("_law_bag_here" : Str) := by rfl) (hv : Vis X.env.scope ("_law_bag_here" : Str) := by first | exact Or.inl rfl | exact Or.inr (Or.inl rfl) | exact Or.inr (Or.inr rfl))
    (hg : Gl X "_law_draw" := by rfl) (hs : starEach [e] X.env = (false, eval e X.env) :: starEach [] X.env := by rfl) (hs2 : starEach [.Name "_law_bag_here" p3, e] X.env = (false, eval (.Name "_law_bag_here" p3) X.env) :: starEach [e] X.env := by rfl) (hpl : (backTo p5 (starEach [e] X.env)).any (·.1) = false := by rfl) : RE X W p ρ [b.c] (.Call (.Name "_law_draw" p2) [.Name "_law_bag_here" p3, e] [] p5) (.val (.int (bagV b m)) false [(bagC b m).c]) :=
  re_c0 T hr (ra_cons (re_var i hN hρ hv) (ra_cons he ra_nil hs) hs2) ⟨m, b, rfl, rfl, h0, h1, rfl⟩ hg (by decide) hs2 hpl
end
end
end K56

/-! objects of own classes: made, read, called upon -/
namespace LA
open PySem PySem.Spec PyProof.Rows L2
/-! ### a new object, seen from without -/
section
variable {K : PySem.W.Frag} {p : HD} {H H1 H3 : Hp} {c c1 c2 : PC} {x dx C : Addr}
abbrev laid (H : Hp) (x dx C : Addr) : Hp := L2.upd (L2.upd H dx (.own x)) x (.ins C dx [])
theorem mut_also : Sub (hide (p.mut x) H) (hide (p.also x) H) := fun b o h => by
  obtain ⟨h1, h2⟩ := hide_some h
  rw [hide_ne (show ¬ (p.also x).hid b from fun z => h2 (mut_hid.mpr (z.elim (fun q => .inl (.inl q)) fun q => (List.mem_cons.mp q).elim .inr fun q => .inl (.inr q))))]
  exact h1
theorem laid_n (n1 : H x = none) (ne : dx ≠ x) : L2.upd H dx (.own x) x = none := by
  rw [upd_ne (fun z => ne z.symm)]
  exact n1
theorem laid_ext (n1 : H x = none) (n2 : H dx = none) (ne : dx ≠ x) : Ext p H (laid H x dx C) := (Ext.new n2).trans (Ext.new (laid_n n1 ne))
theorem laid_pool (h : PoolAt K p H c) (n1 : H x = none) (n2 : H dx = none) (ne : dx ≠ x) : PoolAt K (p.mut x) (laid H x dx C) (c ++ [.ins C []]) :=
  PoolAt.in' (PoolAt.also (h.upd n2) (laid_n n1 ne)) (fun z => h.not n1 (.inl z)) ⟨dx, [], upd_same, .nil⟩
theorem laid_vals {vs : List V} {ds : List D} (h : PoolAt K p H c) (r : DVs K p H vs ds) (n1 : H x = none) (n2 : H dx = none) (ne : dx ≠ x) : DVs K (p.mut x) (laid H x dx C) (.ref x :: vs) (.mut c.length :: ds) := by
  refine .cons (.mut ?_) (r.sub (sub_new n1 (laid_ext n1 n2 ne)) fun i b z => mut_at z)
  show (p.m ++ [x])[c.length]? = some x
  rw [← h.1.2.1, List.getElem?_append_right (Nat.le_refl _)]
  simp
theorem laid_after (h : PoolAt K p H c) (n1 : H x = none) (n2 : H dx = none) (ne : dx ≠ x) (e : Ext (p.mut x) (laid H x dx C) H3) : Ext p H H3 := fun b o nb q => by
  refine e b o (fun z => ?_) (laid_ext n1 n2 ne b o nb q)
  rcases List.mem_append.mp (show b ∈ p.m ++ [x] from z) with z | z
  · exact nb z
  · rw [List.mem_singleton.mp z, n1] at q
    cases q
theorem laid_out {y : Cell} (hl : c2.length = c.length) (h : PoolAt K p H c) (q : PoolAt K (p.mut x) H3 (c2 ++ [y])) : PoolAt K p H3 c2 := by
  have z := PoolAt.out q
  rw [h.1.2.1, ← hl, List.take_left'] at z
  · exact z
  · rfl
theorem laid_obj {fs : List (Str × D)} (hl : c2.length = c.length) (h : PoolAt K p H c) (n1 : H x = none) (q : PoolAt K (p.mut x) H3 (c2 ++ [.ins C fs])) : DV K p H3 (.ref x) (.obj C fs) := by
  have hx : (p.m ++ [x])[c2.length]? = some x := by
    rw [hl, ← h.1.2.1, List.getElem?_append_right (Nat.le_refl _)]
    simp
  obtain ⟨dx', fv, hv, r⟩ : CellAt K (p.mut x) H3 x (.ins C fs) := q.1.2.2 c2.length x (.ins C fs) hx (by simp)
  have vis : hide p H3 x = some (.ins C dx' fv) := by
    rw [hide_ne (h.not n1)]
    exact hv
  exact .obj vis (r.sub (fun b o y => by rw [hide_flat] at y; exact sub_mut b o y) fun i b z => by simp [HD.flat] at z)
theorem laid_new {fs : List (Str × D)} (hl : c2.length = c.length) (h : PoolAt K p H c) (n1 : H x = none) (q : PoolAt K (p.mut x) H3 (c2 ++ [.ins C fs])) : New K p H H3 c2 (.ref x) (.obj C fs) := fun a e => by
  cases e
  have po := laid_out hl h q
  refine ⟨⟨n1, fun z => h.not n1 (.inl z)⟩, ⟨⟨po.1.1, po.1.2.1, fun i b y hi hy => ?_⟩, fun b m => ?_⟩, fun g ds e' => by cases e'⟩
  · have l := (List.getElem?_eq_some_iff.mp hy).1
    exact (q.1.2.2 i b y (mut_at hi) (by rw [List.getElem?_append_left l]; exact hy)).sub mut_also rfl
  · rcases List.mem_cons.mp m with rfl | m
    · exact q.ex (show b ∈ p.m ++ [b] from List.mem_append.mpr (.inr (List.mem_singleton.mpr rfl)))
    · exact po.2 b m
end
/-! ### C(..) -/
/-- what comes of __init__, and of the making -/
inductive Made (C : Addr) (n : Nat) : EO → EO → Prop
  | val {nw : Bool} {c2 : PC} {fs : List (Str × D)} : c2.length = n → Made C n (.val .non nw (c2 ++ [.ins C fs])) (.val (.obj C fs) true c2)
  | ex {C' : Addr} {fs : List (Str × D)} {c2 : PC} {y : Cell} : c2.length = n → lowDf n fs = true → Made C n (.ex C' fs (c2 ++ [y])) (.ex C' fs c2)
def tMakeS (C : Addr) (sp : Sp) (E : L2.St → XK) (t : TA) : TE := fun σ H Q => t σ H fun vs H1 => ∀ x dx, H1 x = none → H1 dx = none → dx ≠ x → sp (V.ref x :: vs) (laid H1 x dx C) (fun v H2 => v = .non ∧ Q (.ref x) H2) (E σ)
section
variable {X : Cx} {W : WX} {p : HD} {ρ ρ1 : Rho} {c c1 c2 c3 : PC} {e a b : Expr} {es : List Expr} {pos apos : Pos} {d d1 d2 : D} {n1 n2 nw : Bool} {o o' : EO}
variable {CX : CXT} {k : Nat} {f C g : Addr} {fd : FuncData} {ps : List Str} {R : FSpec} {x m : Str} {xp : Pos} {ds : List D} {fs : List (Str × D)} {sp : Sp}
theorem run_makeS {E : L2.St → XK} {pins : List (Addr × Obj)} {σ : L2.St} {H : Hp} {s : Shared} {Q : VK} {us : List Value} {vs : List V} (M : Mk X.K C f) (F : FnOk X.prog X.w X.K X.mg X.base CX k f fd ps sp) (hr : Room (k + 1) X.A) (hb : Binds X.K fd ps [])
    (hx : PassesAt CX X σ (E σ)) (I : Inv X pins σ H s) (r : Vals vs us)
    (h : ∀ x dx, H x = none → H dx = none → dx ≠ x → sp (V.ref x :: vs) (laid H x dx C) (fun v H2 => v = .non ∧ Q (.ref x) H2) (E σ)) :
    wpAny (model X.prog X.w) X.A (call (.ref C) us) (EP X pins σ Q) X.xe s := by
  let n := s.heap.objs.size
  have q0 := h (n + 1) n (I.hok.fresh (Nat.le_succ _)) (I.hok.fresh (Nat.le_refl _)) (Nat.ne_of_lt (Nat.lt_succ_self _))
  have J := Inv.made (C := C) I
  have rr : Vals (V.ref (n + 1) :: vs) (Value.ref (n + 1) :: us) := .cons rfl r
  have hl : (Value.ref (n + 1) :: us).length = ps.length := by
    rw [← rr.length]
    exact F.len _ _ _ _ q0
  have bd := hb _ (Value.ref (n + 1) :: us) J.kIn (by rw [List.append_nil]; exact hl)
  rw [List.append_nil] at bd
  have run := F.run _ X.stack _ _ ⟨Value.ref (n + 1) :: us, []⟩ (Value.ref (n + 1) :: us) _ _ (E σ) (hr.make C us []) (J.env0.make C us []) bd rr q0
  refine wpAny_call (make_map (f := f) I.kIn M.makes M.init (beq_iff_eq.mp M.fn) (codeAny_mono run fun z s' hz => ?_))
  match z, hz with
  | .error er, hz => exact hx pins _ _ er s' J hz
  | .ok (.ret u), hz =>
    obtain ⟨v, H', I3, rv, ev, q3⟩ := J.after hz
    subst ev
    exact ⟨rv, ⟨V.ref (n + 1), H', I3, rfl, q3⟩⟩
  | .ok .next, hz => exact hz.elim
  | .ok .brk, hz => exact hz.elim
  | .ok .cont, hz => exact hz.elim
theorem pe_makeS {E : L2.St → XK} {t : TA} (M : Mk X.K C f) (F : FnOk X.prog X.w X.K X.mg X.base CX k f fd ps sp) (hr : Room (k + 1) X.A) (hg : Gl X x) (hm : X.mg x = some (.ref C)) (hb : Binds X.K fd ps []) (hx : ∀ σ, PassesAt CX X σ (E σ))
    (ha : PA X (e :: es) t) (hdb : (x == ("__debug__" : Str)) = false := by decide) (he : starEach (e :: es) X.env = (false, eval e X.env) :: starEach es X.env := by rfl) (hpl : (backTo pos (starEach es X.env)).any (·.1) = false := by rfl) :
    PE X (.Call (.Name x xp) (e :: es) [] pos) (tMakeS C sp E t) := ⟨fun pins s σ H Q I h =>
  wpAny_Call_Name_kw (ld_glob I hg hm (PySem.W.callWith_K (h₀ := X.base) I.ok.mod.kin M.kp (thn (ha.run pos pins s σ H _ I h) fun us s1 ⟨vs, H1, I1, r, q⟩ => ⟨I1.kIn, run_makeS M F hr hb (hx σ) I1 r q⟩) he hpl) hdb)⟩
theorem re_makeX (tk : Takes X W) (M : Mk X.K C f) (G : FnOk X.prog X.w X.K X.mg X.base (L2.CX X.prog X.w) k f fd ps (spF X.K R)) (hr : Room (k + 1) X.A) (hm : X.mg x = some (.ref C)) (hb : Binds X.K fd ps []) (ha : RA X W p ρ c (e :: es) (.val ds c1)) (ho : R (.mut c1.length :: ds) (c1 ++ [.ins C []]) o') (hd : Made C c1.length o' o)
    (hg : Gl X x := by rfl) (hdb : (x == ("__debug__" : Str)) = false := by decide) (he : starEach (e :: es) X.env = (false, eval e X.env) :: starEach es X.env := by rfl) (hpl : (backTo pos (starEach es X.env)).any (·.1) = false := by rfl) :
    RE X W p ρ c (.Call (.Name x xp) (e :: es) [] pos) o :=
  pe_imp (pe_makeS M G hr hg hm hb (fun σ => passAt tk σ) ha hdb he hpl) fun σ H Q h => ⟨tE_sr h, fun vs H1 e1 p1 dvs y dy ny nd ne => by
    refine ⟨p.mut y, c1 ++ [.ins C []], .mut c1.length :: ds, o', laid_vals p1 dvs ny nd ne, laid_pool p1 ny nd ne, ho, ?_⟩
    cases hd with
    | val hl =>
      intro v H3 e3 p3 dv _
      have ext := laid_after p1 ny nd ne e3
      refine ⟨by cases dv; rfl, ?_⟩
      exact (fo_at h e1) (.ref y) H3 ext (laid_out hl p1 p3) (laid_obj hl p1 ny p3) fun _ => laid_new hl p1 ny p3
    | ex hl lo =>
      intro dx fv H3 e3 p3 hx hf
      have ext := laid_after p1 ny nd ne e3
      refine (fo_at h e1) dx fv H3 ext (laid_out hl p1 p3) (sub_mut dx _ hx) (hf.low (n := c1.length) sub_mut (fun i b li hi => at_mut (by rw [p1.1.2.1]; exact li) hi) lo)⟩
/-! ### o.f -/
theorem re_fld (ha : RE X W p ρ c a (.val (.obj C fs) nw c1)) (cl : Cls X.K C) (na : NoAttr X.K C m) (hf : fs.lookup m = some d) (hb : attributeBase a m X.env (eval a X.env) = eval a X.env := by rfl) : RE X W p ρ c (.Attribute a m pos) (.val d false c1) :=
  pe_imp (pe_fld ha hb) fun σ H Q h => ⟨h.1, fun v H1 e1 p1 dv _ => by
    cases dv with
    | obj hv r =>
      obtain ⟨w, l, dw⟩ := r.get hf
      exact ⟨_, C, _, _, w, rfl, (hide_some hv).1, cl, na, l, h.2 w H1 e1 p1 dw (fun z => nomatch z)⟩⟩
/-- of what changes still -/
theorem re_fldM {i : Nat} (ha : RE X W p ρ c a (.val (.mut i) nw c1)) (hc : c1[i]? = some (.ins C fs)) (cl : Cls X.K C) (na : NoAttr X.K C m) (hf : fs.lookup m = some d) (hb : attributeBase a m X.env (eval a X.env) = eval a X.env := by rfl) : RE X W p ρ c (.Attribute a m pos) (.val d false c1) :=
  pe_imp (pe_fld ha hb) fun σ H Q h => ⟨h.1, fun v H1 e1 p1 dv _ => by
    cases dv with
    | @«mut» b _ hi =>
      obtain ⟨dx, fv, hv, r⟩ : CellAt X.K p H1 b (.ins C fs) := p1.1.2.2 i b _ hi hc
      obtain ⟨w, l, dw⟩ := r.get hf
      exact ⟨_, C, _, _, w, rfl, hv, cl, na, l, h.2 w H1 e1 p1 (dw.sub (fun b o y => by rw [hide_flat] at y; exact y) fun i b z => by simp [HD.flat] at z) (fun z => nomatch z)⟩⟩
theorem DVf.gone {K : PySem.W.Frag} {H : Hp} : ∀ {vs : List (Str × V)} {ds : List (Str × D)}, DVf K p H vs ds → ds.lookup m = none → vs.lookup m = none
  | _, _, .nil, _ => rfl
  | _, _, .cons (f := g) h r, e => by
    rw [List.lookup_cons] at e ⊢
    cases q : m == g with
    | true =>
      rw [q] at e
      cases e
    | false =>
      rw [q] at e
      exact DVf.gone r e
/-! ### o.f, a property -/
theorem re_prop {q : Addr} (G : FnOk X.prog X.w X.K X.mg X.base CX0 k g fd ps (spF X.K R)) (hr : Room (k + 1) X.A) (hb : Binds X.K fd ps []) (ha : RE X W p ρ c a (.val (.obj C fs) nw c1)) (cl : Cls X.K C) (hp : PropOf X.K C m q g) (ho : R [.obj C fs] c1 (.val d n2 c2))
    (hab : attributeBase a m X.env (eval a X.env) = eval a X.env := by rfl) : RE X W p ρ c (.Attribute a m pos) (.val d n2 c2) :=
  pe_imp (pe_prop ha cl hp G hr hb .nil pass0 hab) fun σ H Q h => ⟨h.1, fun v H1 e1 p1 dv _ => by
    cases dv with
    | obj hv r => exact ⟨_, _, _, rfl, (hide_some hv).1, p, c1, _, _, .cons (.obj hv r) .nil, p1, ho, fun w H2 e2 p2 dw hn => h.2 w H2 (e1.trans e2) p2 dw fun z => (hn z).back e1⟩⟩
/-! ### o.m(..) -/
def tMethS (m : Str) (C : Addr) (sp : Sp) (E : L2.St → XK) (ta : TE) (t : TA) : TE := fun σ H Q => ta σ H fun x H1 => ∃ y dx fv, x = .ref y ∧ H1 y = some (.ins C dx fv) ∧ fv.lookup m = none ∧ t σ H1 fun vs H2 => sp (x :: vs) H2 Q (E σ)
theorem pe_methS {pl : Sem Bool} {E : L2.St → XK} {ta : TE} {t : TA} (ha : PE X a ta) (cl : Cls X.K C) (hm : Meth X.K C m g) (F : FnOk X.prog X.w X.K X.mg X.base CX k g fd ps sp) (hr : Room k X.A) (hb : Binds X.K fd ps []) (hx : ∀ σ, PassesAt CX X σ (E σ)) (hs : PA X (e :: es) t)
    (ht : eval (.Call (.Attribute a m apos) (e :: es) [] pos) X.env = (do
      let ov ← eval a X.env
      standAt apos.atName
      let (f, first) ← holding [ov] (getMethod ov m pl)
      callWith pos f first (backTo pos (starEach (e :: es) X.env)) (backToKw pos (keywordEach [] X.env))))
    (hst : starEach (e :: es) X.env = (false, eval e X.env) :: starEach es X.env) (hpl : (backTo pos (starEach es X.env)).any (·.1) = false) :
    PE X (.Call (.Attribute a m apos) (e :: es) [] pos) (tMethS m C sp E ta t) := ⟨fun pins s σ H Q I h =>
  PySem.W.methodCall_KW (pl := pl) (thn (ha.run pins s σ H _ I h) fun u s1 ⟨x, H1, I1, rx, y, dx, fv, ex, ey, l, q⟩ => by
    subst ex
    obtain rfl : u = Value.ref y := rx
    exact getmeth_ok I1 ey cl hm l (PySem.W.callWith_K (first := [.ref y]) (h₀ := X.base) I.ok.mod.kin hm.kp (thn (hs.run pos pins s1 σ H1 _ I1 q) fun us s2 ⟨vs, H2, I2, r, q2⟩ => ⟨I2.kIn, run_fnS (us := .ref y :: us) (vs := .ref y :: vs) F hr hb (hx σ) I2 (.cons rfl r) q2⟩) hst hpl)) ht⟩
theorem pe_methS0 {pl : Sem Bool} {E : L2.St → XK} {ta : TE} (ha : PE X a ta) (cl : Cls X.K C) (hm : Meth X.K C m g) (F : FnOk X.prog X.w X.K X.mg X.base CX k g fd ps sp) (hr : Room k X.A) (hb : Binds X.K fd ps []) (hx : ∀ σ, PassesAt CX X σ (E σ))
    (ht : eval (.Call (.Attribute a m apos) [] [] pos) X.env = (do
      let ov ← eval a X.env
      standAt apos.atName
      let (f, first) ← holding [ov] (getMethod ov m pl)
      callWith pos f first (backTo pos (starEach [] X.env)) (backToKw pos (keywordEach [] X.env)))) :
    PE X (.Call (.Attribute a m apos) [] [] pos) (tMethS m C sp E ta tNil) := ⟨fun pins s σ H Q I h =>
  PySem.W.methodCall_KW (pl := pl) (thn (ha.run pins s σ H _ I h) fun u s1 ⟨x, H1, I1, rx, y, dx, fv, ex, ey, l, q⟩ => by
    subst ex
    obtain rfl : u = Value.ref y := rx
    exact getmeth_ok I1 ey cl hm l (PySem.W.callWith_K0 (first := [.ref y]) I1.kIn hm.kp (run_fnS (us := [.ref y]) (vs := [.ref y]) F hr hb (hx σ) I1 (.cons rfl .nil) q))) ht⟩
/-- a method that may raise -/
theorem re_methX {pl : Sem Bool} (tk : Takes X W) (G : FnOk X.prog X.w X.K X.mg X.base (L2.CX X.prog X.w) k g fd ps (spF X.K R)) (hr : Room k X.A) (hb : Binds X.K fd ps []) (ha : RE X W p ρ c a (.val (.obj C fs) nw c1)) (cl : Cls X.K C) (hm : Meth X.K C m g) (hn : fs.lookup m = none)
    (hs : RA X W p ρ c1 (e :: es) (.val ds c2)) (ho : R (.obj C fs :: ds) c2 o)
    (ht : eval (.Call (.Attribute a m apos) (e :: es) [] pos) X.env = (do
      let ov ← eval a X.env
      standAt apos.atName
      let (f, first) ← holding [ov] (getMethod ov m pl)
      callWith pos f first (backTo pos (starEach (e :: es) X.env)) (backToKw pos (keywordEach [] X.env))) := by rfl)
    (hst : starEach (e :: es) X.env = (false, eval e X.env) :: starEach es X.env := by rfl) (hpl : (backTo pos (starEach es X.env)).any (·.1) = false := by rfl) :
    RE X W p ρ c (.Call (.Attribute a m apos) (e :: es) [] pos) o :=
  pe_imp (pe_methS ha cl hm G hr hb (fun σ => passAt tk σ) hs ht hst hpl) fun σ H Q h => ⟨tE_sr h, fun v H1 e1 p1 dv _ => by
    cases dv with
    | obj hv r => exact ⟨_, _, _, rfl, (hide_some hv).1, r.gone hn, (tE_sr h).mono e1 p1, fun vs H2 e2 p2 dvs => ⟨p, c2, _, o, .cons ((DV.obj hv r).mono e2) dvs, p2, ho, fo_at h (e1.trans e2)⟩⟩⟩
theorem re_methX0 {pl : Sem Bool} (tk : Takes X W) (G : FnOk X.prog X.w X.K X.mg X.base (L2.CX X.prog X.w) k g fd ps (spF X.K R)) (hr : Room k X.A) (hb : Binds X.K fd ps []) (ha : RE X W p ρ c a (.val (.obj C fs) nw c1)) (cl : Cls X.K C) (hm : Meth X.K C m g) (hn : fs.lookup m = none)
    (ho : R [.obj C fs] c1 o)
    (ht : eval (.Call (.Attribute a m apos) [] [] pos) X.env = (do
      let ov ← eval a X.env
      standAt apos.atName
      let (f, first) ← holding [ov] (getMethod ov m pl)
      callWith pos f first (backTo pos (starEach [] X.env)) (backToKw pos (keywordEach [] X.env))) := by rfl) :
    RE X W p ρ c (.Call (.Attribute a m apos) [] [] pos) o :=
  pe_imp (pe_methS0 ha cl hm G hr hb (fun σ => passAt tk σ) ht) fun σ H Q h => ⟨tE_sr h, fun v H1 e1 p1 dv _ => by
    cases dv with
    | obj hv r => exact ⟨_, _, _, rfl, (hide_some hv).1, r.gone hn, p, c1, _, o, .cons (.obj hv r) .nil, p1, ho, fo_at h e1⟩⟩
end
end LA

/-! own operators of own classes, that raise nothing -/
namespace LA
open PySem PySem.Spec PyProof.Rows L2
section
variable {X : Cx} {W : WX} {p : HD} {ρ ρ1 : Rho} {c c1 c2 c3 : PC} {e a b : Expr} {es : List Expr} {pos apos : Pos} {d d1 d2 : D} {n1 n2 nw : Bool} {o o' : EO}
variable {k : Nat} {f C g : Addr} {fd : FuncData} {ps : List Str} {R : FSpec} {x m : Str} {xp : Pos} {ds : List D} {fs gs : List (Str × D)} {sp : Sp}
theorem rref (y : Addr) : L2.RelV (V.ref y) (Value.ref y) := rfl
theorem run_at {pins : List (Addr × Obj)} {σ : L2.St} {H : Hp} {s : Shared} {Q : VK} {us : List Value} {vs : List V} (F : FnOk X.prog X.w X.K X.mg X.base CX0 k f fd ps sp) (hr : Room k X.A) (hb : Binds X.K fd ps [])
    (I : Inv X pins σ H s) (r : Vals vs us) (h : sp vs H Q E0) : wpAny (model X.prog X.w) X.A (call (.ref f) us) (EP X pins σ Q) X.xe s :=
  run_fnS (E := fun _ => E0) F hr hb (fun _ _ _ _ _ _ z => z.elim) I r h
theorem run_in {pins : List (Addr × Obj)} {σ : L2.St} {H : Hp} {s : Shared} {Q : VK} {us : List Value} {vs : List V} {E' : Value → Shared → Prop} (F : FnOk X.prog X.w X.K X.mg X.base CX0 k f fd ps sp) (hr : Room (k + 1) X.A) (hb : Binds X.K fd ps [])
    (I : Inv X pins σ H s) (r : Vals vs us) (h : sp vs H Q E0) : wpAny (model X.prog X.w) X.A.in1 (call (.ref f) us) (EP X pins σ Q) E' s := by
  have hl : us.length = ps.length := by
    rw [← r.length]
    exact F.len _ _ _ _ h
  have bd := hb s us I.kIn (by rw [List.append_nil]; exact hl)
  rw [List.append_nil] at bd
  have run := F.run X.A.in1 X.stack s H ⟨us, []⟩ us vs Q E0 hr.in1 I.env0.in1 bd r h
  refine wpAny_call (codeAny_mono run fun z s' hz => ?_)
  match z, hz with
  | .error er, hz => exact hz.elim
  | .ok (.ret u), hz => exact I.after hz
  | .ok .next, hz => exact hz.elim
  | .ok .brk, hz => exact hz.elim
  | .ok .cont, hz => exact hz.elim
/-- of a name that a class has as a def -/
structure Own (K : PySem.W.Frag) (C : Addr) (m : Str) (f : Addr) : Prop where
  at_ : PySem.W.findIn K (.ref C) m = some (some (.ref f))
  fn : PySem.W.isFn K (.ref f) = true
theorem ins_at {pins : List (Addr × Obj)} {σ : L2.St} {H : Hp} {s : Shared} {y dx : Addr} {fv : List (Str × V)} (I : Inv X pins σ H s) (h : H y = some (.ins C dx fv)) : ∃ ox od, PySem.W.InstAt s.heap y ox C od := by
  obtain ⟨mA, O, _⟩ := ins_get I.hok h
  obtain ⟨od, J, _⟩ := O.look
  exact ⟨_, _, J⟩
/-! ### ~o -/
def rInv (C : Addr) (sp : Sp) : V → Hp → VK → Prop := fun x H Q => ∃ y dx fv, x = .ref y ∧ H y = some (.ins C dx fv) ∧ sp [.ref y] H Q E0
theorem un_inv (F : FnOk X.prog X.w X.K X.mg X.base CX0 k f fd ps sp) (hr : Room k X.A) (hb : Binds X.K fd ps []) (w : Own X.K C "__invert__" f) : UnR X (unaryOp .Invert) (rInv C sp) := by
  intro pins s σ H x v Q I rx h
  obtain ⟨y, dx, fv, rfl, hy, hs⟩ := h
  cases rx
  obtain ⟨ox, od, J⟩ := ins_at I hy
  obtain ⟨m, hF⟩ := I.fr
  exact PySem.W.ksp_inv hF I.ok.mod.kin J w.at_ w.fn (run_at F hr hb I (.cons (rref y) .nil) hs)
theorem re_inv (G : FnOk X.prog X.w X.K X.mg X.base CX0 k f fd ps (spF X.K R)) (hr : Room k X.A) (hb : Binds X.K fd ps []) (w : Own X.K C "__invert__" f) (ha : RE X W p ρ c a (.val (.obj C fs) nw c1)) (ho : R [.obj C fs] c1 (.val d n2 c2)) : RE X W p ρ c (.UnaryOp .Invert a pos) (.val d n2 c2) :=
  pe_imp (pe_un (un_inv G hr hb w) ha) fun σ H Q h => ⟨h.1, fun v H1 e1 p1 dv _ => by
    cases dv with
    | obj hv r => exact ⟨_, _, _, rfl, (hide_some hv).1, p, c1, _, _, .cons (.obj hv r) .nil, p1, ho, fun w H2 e2 p2 dw hn => h.2 w H2 (e1.trans e2) p2 dw fun z => (hn z).back e1⟩⟩
/-! ### len(o) -/
def rLenO (C : Addr) (sp : Sp) : List V → Hp → VK → Prop := fun xs H Q => ∃ y dx fv, xs = [.ref y] ∧ H y = some (.ins C dx fv) ∧ sp [.ref y] H (fun v H' => ∃ n : Nat, v = .int n ∧ n < 100000 ∧ Q (.int n) H') E0
theorem call_lenO (F : FnOk X.prog X.w X.K X.mg X.base CX0 k f fd ps sp) (hr : Room (k + 1) X.A) (hb : Binds X.K fd ps []) (w : Own X.K C "__len__" f) : CallR X (.builtin "len") (rLenO C sp) := by
  intro pins s σ H xs us Q I rx h
  obtain ⟨y, dx, fv, rfl, hy, hs⟩ := h
  cases rx with
  | cons r1 r2 =>
    cases r2
    cases r1
    obtain ⟨ox, od, J⟩ := ins_at I hy
    obtain ⟨m, hF⟩ := I.fr
    refine PySem.W.len_K hF I.ok.mod.kin J w.at_ w.fn (wpAny_mono (run_in F hr hb I (.cons (rref y) .nil) hs) (fun u s' hu => ?_) fun _ _ z => z)
    obtain ⟨v, H', I', rv, n, rfl, hn, q⟩ := hu
    obtain ⟨tk, rfl⟩ := rv
    exact ⟨⟨Int.natCast_nonneg n, by omega⟩, ⟨.int n, H', I'.tok _, ⟨_, rfl⟩, q⟩⟩
theorem cv_lenO {n : Nat} (hn : n < 100000) (ho : R [.obj C fs] c (.val (.int n) n2 c)) : CV X.K p (rLenO C (spF X.K R)) [.obj C fs] (.int n) true c := fun vs H Q dvs hp kk => by
  cases dvs with
  | cons h r =>
    cases r
    cases h with
    | obj hv r => exact ⟨_, _, _, rfl, (hide_some hv).1, p, c, _, _, .cons (.obj hv r) .nil, hp, ho, fun v H2 e2 p2 dw _ => by
        cases dw
        exact ⟨n, rfl, hn, kk (.int n) H2 e2 p2 (.int _) fun _ => New.sc (by intro a h; cases h)⟩⟩
/-! ### x in o -/
def rInO (C : Addr) (sp : Sp) (neg : Bool) : R2 := fun x z H Q => ∃ y dx fv, z = .ref y ∧ H y = some (.ins C dx fv) ∧ sp [.ref y, x] H (fun v H' => ∃ k : Bool, v = .bl k ∧ Q (.bl (neg ^^ k)) H') E0
theorem op_inO (F : FnOk X.prog X.w X.K X.mg X.base CX0 k f fd ps sp) (hr : Room k X.A) (hb : Binds X.K fd ps []) (w : Own X.K C "__contains__" f) : OpR X (compareOp .In) (rInO C sp false) := by
  intro pins s σ H x z v u Q I rx rz h
  obtain ⟨y, dx, fv, rfl, hy, hs⟩ := h
  cases rz
  obtain ⟨ox, od, J⟩ := ins_at I hy
  obtain ⟨m, hF⟩ := I.fr
  refine PySem.W.in_K hF I.ok.mod.kin J w.at_ w.fn (wpAny_mono (run_at F hr hb I (.cons (rref y) (.cons rx .nil)) hs) (fun u s' hu => ?_) fun _ _ z => z)
  obtain ⟨v, H', I', rv, k, rfl, q⟩ := hu
  cases rv
  exact wpAny_truthy_bool ⟨.bl k, H', I', rfl, by rw [Bool.false_xor] at q; exact q⟩
theorem op_niO (F : FnOk X.prog X.w X.K X.mg X.base CX0 k f fd ps sp) (hr : Room k X.A) (hb : Binds X.K fd ps []) (w : Own X.K C "__contains__" f) : OpR X (compareOp .NotIn) (rInO C sp true) := by
  intro pins s σ H x z v u Q I rx rz h
  obtain ⟨y, dx, fv, rfl, hy, hs⟩ := h
  cases rz
  obtain ⟨ox, od, J⟩ := ins_at I hy
  obtain ⟨m, hF⟩ := I.fr
  refine PySem.W.notIn_K hF I.ok.mod.kin J w.at_ w.fn (wpAny_mono (run_at F hr hb I (.cons (rref y) (.cons rx .nil)) hs) (fun u s' hu => ?_) fun _ _ z => z)
  obtain ⟨v, H', I', rv, k, rfl, q⟩ := hu
  cases rv
  exact wpAny_truthy_bool ⟨.bl (!k), H', I', rfl, by rw [Bool.true_xor] at q; exact q⟩
theorem ov_inO {neg kb : Bool} (ho : R [.obj C fs, d1] c (.val (.bl kb) n2 c)) : OV X.K p (rInO C (spF X.K R) neg) d1 (.obj C fs) (.bl (neg ^^ kb)) true c := fun v u H Q dv du hp kk => by
  cases du with
  | obj hv r => exact ⟨_, _, _, rfl, (hide_some hv).1, p, c, _, _, .cons (.obj hv r) (.cons dv .nil), hp, ho, fun v H2 e2 p2 dw _ => by
      cases dw
      exact ⟨kb, rfl, kk (.bl _) H2 e2 p2 (.bl _) fun _ => New.sc (by intro a h; cases h)⟩⟩
/-! ### o == o' -/
def rEqO (C : Addr) (sp : Sp) : R2 := fun x z H Q => ∃ y y' dx fv dx' fv', x = .ref y ∧ z = .ref y' ∧ H y = some (.ins C dx fv) ∧ H y' = some (.ins C dx' fv') ∧ sp [.ref y, .ref y'] H (fun v H' => ∃ k : Bool, v = .bl k ∧ Q (.bl k) H') E0
theorem op_eqO (F : FnOk X.prog X.w X.K X.mg X.base CX0 k f fd ps sp) (hr : Room k X.A) (hb : Binds X.K fd ps []) (w : Own X.K C "__eq__" f) : OpR X (compareOp .Eq) (rEqO C sp) := by
  intro pins s σ H x z v u Q I rx rz h
  obtain ⟨y, y', dx, fv, dx', fv', rfl, rfl, hy, hy', hs⟩ := h
  cases rx
  cases rz
  obtain ⟨ox, od, J⟩ := ins_at I hy
  obtain ⟨ox', od', J'⟩ := ins_at I hy'
  obtain ⟨m, hF⟩ := I.fr
  show wpAny (model X.prog X.w) X.A (richCompare .Eq _ _) (EP X pins σ Q) X.xe s
  refine PySem.W.cmp_K (op := .Eq) (tb := .ref C) hr.units0 hF I.ok.mod.kin J J'.type (by simp [PySem.W.notFirst]) w.at_ w.fn (wpAny_mono (run_at F hr hb I (.cons (rref y) (.cons (rref y') .nil)) hs) (fun u s' hu => ?_) fun _ _ z => z)
  obtain ⟨v, H', I', rv, k, rfl, q⟩ := hu
  cases rv
  exact ⟨.bl k, H', I', rfl, q⟩
theorem ov_eqO {kb : Bool} (ho : R [.obj C fs, .obj C gs] c (.val (.bl kb) n2 c)) : OV X.K p (rEqO C (spF X.K R)) (.obj C fs) (.obj C gs) (.bl kb) true c := fun v u H Q dv du hp kk => by
  cases dv with
  | obj hv r =>
    cases du with
    | obj hv' r' => exact ⟨_, _, _, _, _, _, rfl, rfl, (hide_some hv).1, (hide_some hv').1, p, c, _, _, .cons (.obj hv r) (.cons (.obj hv' r') .nil), hp, ho, fun v H2 e2 p2 dw _ => by
        cases dw
        exact ⟨kb, rfl, kk (.bl _) H2 e2 p2 (.bl _) fun _ => New.sc (by intro a h; cases h)⟩⟩
/-! ### o == a text, a number, .. -/
def rEqX (X : Cx) (C : Addr) (sp : Sp) : R2 := fun x z H Q => ∃ y dx fv t, x = .ref y ∧ H y = some (.ins C dx fv) ∧ (∀ u, RelV z u → typeOf u = pure t) ∧ PySem.W.notFirst X.K C t = true ∧ sp [.ref y, z] H (fun v H' => ∃ k : Bool, v = .bl k ∧ Q (.bl k) H') E0
theorem op_eqX (F : FnOk X.prog X.w X.K X.mg X.base CX0 k f fd ps sp) (hr : Room k X.A) (hb : Binds X.K fd ps []) (w : Own X.K C "__eq__" f) : OpR X (compareOp .Eq) (rEqX X C sp) := by
  intro pins s σ H x z v u Q I rx rz h
  obtain ⟨y, dx, fv, t, rfl, hy, ht, hn, hs⟩ := h
  cases rx
  obtain ⟨ox, od, J⟩ := ins_at I hy
  obtain ⟨m, hF⟩ := I.fr
  show wpAny (model X.prog X.w) X.A (richCompare .Eq _ _) (EP X pins σ Q) X.xe s
  refine PySem.W.cmp_K (op := .Eq) (tb := t) hr.units0 hF I.ok.mod.kin J (PySem.W.Looks.of_pure (ht u rz)) hn w.at_ w.fn (wpAny_mono (run_at F hr hb I (.cons (rref y) (.cons rz .nil)) hs) (fun u s' hu => ?_) fun _ _ z => z)
  obtain ⟨v, H', I', rv, k, rfl, q⟩ := hu
  cases rv
  exact ⟨.bl k, H', I', rfl, q⟩
end
end LA

/-! own operators that may raise; an object's fields are set; its text -/
namespace LA
open PySem PySem.Spec PyProof.Rows L2
section
variable {X : Cx} {W : WX} {p : HD} {ρ ρ1 : Rho} {c c1 c2 c3 : PC} {e a b fe : Expr} {es : List Expr} {pos apos : Pos} {d d1 d2 : D} {n1 n2 nw : Bool} {o o' : EO}
variable {CX : CXT} {k : Nat} {f C g : Addr} {fd : FuncData} {ps : List Str} {R : FSpec} {x m : Str} {xp : Pos} {ds : List D} {fs gs : List (Str × D)} {sp : Sp} {E : L2.St → XK} {ta tb tf : TE} {t : TA}
/-! ### o(..) -/
def tCallI (C : Addr) (sp : Sp) (E : L2.St → XK) (tf : TE) (t : TA) : TE := fun σ H Q => tf σ H fun y H1 => ∃ z, y = V.ref z ∧ t σ H1 fun vs H2 => (∃ dx fv, H2 z = some (.ins C dx fv)) ∧ sp (V.ref z :: vs) H2 Q (E σ)
theorem pe_callI (hf : PE X fe tf) (w : StX.CallO X.K C g) (F : FnOk X.prog X.w X.K X.mg X.base CX k g fd ps sp) (hr : Room k X.A) (hb : Binds X.K fd ps []) (hx : ∀ σ, PassesAt CX X σ (E σ)) (ha : PA X (e :: es) t)
    (ht : eval (.Call fe (e :: es) [] pos) X.env = (do callWith pos (← eval fe X.env) [] (backTo pos (starEach (e :: es) X.env)) (backToKw pos (keywordEach [] X.env))))
    (he : starEach (e :: es) X.env = (false, eval e X.env) :: starEach es X.env) (hpl : (backTo pos (starEach es X.env)).any (·.1) = false) : PE X (.Call fe (e :: es) [] pos) (tCallI C sp E tf t) := ⟨fun pins s σ H Q I h => by
  refine Call_ (thn (hf.run pins s σ H _ I h) fun u s1 hu => ?_) ht
  obtain ⟨y, H1, I1, ry, z, rfl, q⟩ := hu
  obtain rfl : u = Value.ref z := ry
  refine StX.callO_with (thn (ha.run pos pins s1 σ H1 _ I1 q) fun us s2 hu => ?_) he hpl
  obtain ⟨vs, H2, I2, r, ⟨dx, fv, hz⟩, q2⟩ := hu
  obtain ⟨ox, od, J, hd⟩ := StX.insC_at I2 (C := C) (.inr ⟨dx, fv, hz⟩)
  refine ⟨⟨C, ox, od, J, hd⟩, wpAny_call (PySem.W.kco_code I2.kIn J hd w.at_ w.fn w.fi ?_)⟩
  have hl : (Value.ref z :: us).length = ps.length := by
    have rr : Vals (V.ref z :: vs) (Value.ref z :: us) := .cons rfl r
    rw [← rr.length]
    exact F.len _ _ _ _ q2
  have bd := hb s2 (Value.ref z :: us) I2.kIn (by rw [List.append_nil]; exact hl)
  rw [List.append_nil] at bd
  refine codeAny_mono (F.run X.A X.stack s2 H2 ⟨Value.ref z :: us, []⟩ (Value.ref z :: us) (V.ref z :: vs) Q (E σ) hr I2.env0 bd (.cons rfl r) q2) fun y s' hy => ?_
  match y, hy with
  | .error er, hy => exact hx σ pins H2 s2 er s' I2 hy
  | .ok (.ret u), hy => exact I2.after hy
  | .ok .next, hy => exact hy.elim
  | .ok .brk, hy => exact hy.elim
  | .ok .cont, hy => exact hy.elim⟩
theorem re_callO (tk : Takes X W) (G : FnOk X.prog X.w X.K X.mg X.base (L2.CX X.prog X.w) k g fd ps (spF X.K R)) (hr : Room k X.A) (hb : Binds X.K fd ps []) (w : StX.CallO X.K C g) (hf : RE X W p ρ c fe (.val (.obj C fs) nw c1)) (ha : RA X W p ρ c1 (e :: es) (.val ds c2)) (ho : R (.obj C fs :: ds) c2 o)
    (ht : eval (.Call fe (e :: es) [] pos) X.env = (do callWith pos (← eval fe X.env) [] (backTo pos (starEach (e :: es) X.env)) (backToKw pos (keywordEach [] X.env))) := by rfl)
    (he : starEach (e :: es) X.env = (false, eval e X.env) :: starEach es X.env := by rfl) (hpl : (backTo pos (starEach es X.env)).any (·.1) = false := by rfl) : RE X W p ρ c (.Call fe (e :: es) [] pos) o :=
  pe_imp (pe_callI hf w G hr hb (fun σ => passAt tk σ) ha ht he hpl) fun σ H Q h => ⟨tE_sr h, fun v H1 e1 p1 dv _ => by
    cases dv with
    | @obj y _ dx fv _ hv r =>
      refine ⟨y, rfl, (tE_sr h).mono e1 p1, fun vs H2 e2 p2 dvs => ?_⟩
      have d2 : DV X.K p H2 (.ref y) (.obj C fs) := (DV.obj hv r).mono e2
      have h2 := e2.hide y _ hv
      exact ⟨⟨dx, fv, (hide_some h2).1⟩, p, c2, _, o, .cons d2 dvs, p2, ho, fo_at h (e1.trans e2)⟩⟩
/-! ### o & o', and so on -/
def tBinO (C : Addr) (sp : Sp) (E : L2.St → XK) (ta tb : TE) : TE := fun σ H Q => ta σ H fun x H1 => tb σ H1 fun z H2 => ∃ y y' dx fv dx' fv', x = V.ref y ∧ z = V.ref y' ∧ H2 y = some (.ins C dx fv) ∧ H2 y' = some (.ins C dx' fv') ∧ sp [.ref y, .ref y'] H2 (fun v H' => (∃ r, v = V.ref r) ∧ Q v H') (E σ)
theorem pe_binO {op : Operator} (F : FnOk X.prog X.w X.K X.mg X.base CX k f fd ps sp) (hr : Room k X.A) (hb' : Binds X.K fd ps []) (hx : ∀ σ, PassesAt CX X σ (E σ)) (w : Own X.K C (PySem.dunder op.info.2) f) (hc : PySem.W.selfFirst X.K C = true)
    (ha : PE X a ta) (hb : PE X b tb) : PE X (.BinOp a op b pos) (tBinO C sp E ta tb) := ⟨fun pins s σ H Q I h =>
  wpAny_BinOp (binT ha hb I h fun v u s2 x z H2 I2 rx rz q => by
    obtain ⟨y, y', dx, fv, dx', fv', rfl, rfl, hy, hy', hs⟩ := q
    cases rx
    cases rz
    obtain ⟨ox, od, J⟩ := ins_at I2 hy
    obtain ⟨ox', od', J'⟩ := ins_at I2 hy'
    obtain ⟨m, hF⟩ := I2.fr
    refine PySem.W.binop_K hF I2.ok.mod.kin J J'.type hc w.at_ w.fn (wpAny_mono (run_fnS F hr hb' (hx σ) I2 (.cons (rref y) (.cons (rref y') .nil)) hs) (fun u s' hu => ?_) fun _ _ z => z)
    obtain ⟨v, H', I', rv, ⟨r, rfl⟩, q⟩ := hu
    cases rv
    exact ⟨.ref r, H', I', rfl, q⟩)⟩
def isObj : EO → Prop
  | .val (.obj _ _) _ _ => True
  | .ex _ _ _ => True
  | _ => False
theorem re_binO {op : Operator} (tk : Takes X W) (G : FnOk X.prog X.w X.K X.mg X.base (L2.CX X.prog X.w) k f fd ps (spF X.K R)) (hr : Room k X.A) (hb : Binds X.K fd ps []) (w : Own X.K C (PySem.dunder op.info.2) f) (hc : PySem.W.selfFirst X.K C = true)
    (ha : RE X W p ρ c a (.val (.obj C fs) n1 c1)) (hb' : RE X W p ρ c1 b (.val (.obj C gs) n2 c2)) (ho : R [.obj C fs, .obj C gs] c2 o) (hi : isObj o) : RE X W p ρ c (.BinOp a op b pos) o :=
  pe_imp (pe_binO G hr hb (fun σ => passAt tk σ) w hc ha hb') fun σ H Q h => two (W := W) (tE_sr h) rfl rfl fun v u H1 e1 p1 dv du => by
    cases dv with
    | obj hv r =>
      cases du with
      | obj hv' r' =>
        refine ⟨_, _, _, _, _, _, rfl, rfl, (hide_some hv).1, (hide_some hv').1, p, c2, _, o, .cons (.obj hv r) (.cons (.obj hv' r') .nil), p1, ho, ?_⟩
        cases o with
        | val dz nz cz =>
          cases dz <;> first | exact False.elim hi | skip
          intro w H2 e2 p2 dw hn
          refine ⟨?_, fo_at h e1 w H2 e2 p2 dw hn⟩
          cases dw
          exact ⟨_, rfl⟩
        | ex C' es' cz => exact fo_at h e1
/-! ### o.f = e, of what changes still -/
theorem hide_flat_sub {H : Hp} {y : Addr} {u : HO} (hm : y ∈ p.m) : Sub (hide p.flat H) (hide p.flat (L2.upd H y u)) := fun z q hz => by
  obtain ⟨h1, h2⟩ := hide_some hz
  rw [hide_ne h2, upd_ne (fun q => h2 (.inr (by rw [q]; exact List.mem_append.mpr (.inl hm))))]
  exact h1
def putD (f : Str) (v : D) : List (Str × D) → List (Str × D)
  | [] => [(f, v)]
  | (g, x) :: r => if g = f then (g, v) :: r else (g, x) :: putD f v r
theorem DVf.put {K : PySem.W.Frag} {H : Hp} {f : Str} {v : V} {d : D} (h : DV K p H v d) : ∀ {vs : List (Str × V)} {ds : List (Str × D)}, DVf K p H vs ds → DVf K p H (putF f v vs) (putD f d ds)
  | _, _, .nil => .cons h .nil
  | _, _, .cons (f := g) q r => by
    unfold putF putD
    split
    · exact .cons h r
    · exact .cons q (DVf.put h r)
theorem DVf.len {K : PySem.W.Frag} {H : Hp} : ∀ {vs : List (Str × V)} {ds : List (Str × D)}, DVf K p H vs ds → vs.length = ds.length
  | _, _, .nil => rfl
  | _, _, .cons _ r => by rw [List.length_cons, List.length_cons, DVf.len r]
theorem rs_fldM {i : Nat} {pos' : Pos} (he : RE X W p ρ c e (.val d nw c1)) (ha : RE X W p ρ c1 a (.val (.mut i) n2 c1)) (hc : c1[i]? = some (.ins C fs)) (cl : Cls X.K C) (na : NoAttr X.K C m) (hl : fs.length < 1000) (lo : lowD 0 d = true)
    (hs : swapsWith e (some (.Attribute a m pos')) pos.line X.env = pure false := by rfl) : RS X W p ρ c (.Assign [.Attribute a m pos'] e pos) (.nx ρ (c1.set i (.ins C (putD m d fs)))) :=
  ps_imp (ps_fld ha he hs) fun De σ H ⟨s, kk⟩ => ⟨s, fun v H1 e1 p1 dv _ => ⟨s.mono e1 p1, fun u H2 e2 p2 du hnn => by
    clear hnn
    generalize hm : D.mut i = dm at du
    cases du <;> cases hm
    rename_i y hi
    obtain ⟨dx, fv, hv, r⟩ : CellAt X.K p H2 y (.ins C fs) := p2.1.2.2 i y _ hi hc
    refine ⟨y, C, dx, fv, rfl, hv, cl, na, by rw [r.len]; exact hl, ?_⟩
    have hm := List.mem_of_getElem? hi
    have sb := hide_flat_sub (H := H2) (u := .ins C dx (putF m v fv)) hm
    have dz : DV X.K p.flat (L2.upd H2 y (.ins C dx (putF m v fv))) v d := ((dv.mono e2).low (n := 0) (p := p) (q := p.flat) (fun b q z => by rw [hide_flat]; exact z) (fun _ _ z => absurd z (Nat.not_lt_zero _)) lo).sub sb fun _ _ z => z
    have cell : CellAt X.K p (L2.upd H2 y (.ins C dx (putF m v fv))) y (.ins C (putD m d fs)) := ⟨dx, _, upd_same, DVf.put dz (r.sub sb fun _ _ z => z)⟩
    have pp := p2.put hi cell
    have ext : Ext p H (L2.upd H2 y (.ins C dx (putF m v fv))) := fun b q nb hq => by
      rw [upd_ne (fun z => nb (by rw [z]; exact hm))]
      exact e2 b q nb (e1 b q nb hq)
    exact kk σ _ ext (s.mono ext pp)⟩⟩
/-! ### str(o) -/
theorem run_in2 {pins : List (Addr × Obj)} {σ : L2.St} {H : Hp} {s : Shared} {Q : VK} {us : List Value} {vs : List V} {E' : Value → Shared → Prop} (F : FnOk X.prog X.w X.K X.mg X.base CX0 k f fd ps sp) (hr : Room (k + 1 + 1) X.A) (hb : Binds X.K fd ps [])
    (I : Inv X pins σ H s) (r : Vals vs us) (h : sp vs H Q E0) : wpAny (model X.prog X.w) X.A.in1.in1 (call (.ref f) us) (EP X pins σ Q) E' s := by
  have hl : us.length = ps.length := by
    rw [← r.length]
    exact F.len _ _ _ _ h
  have bd := hb s us I.kIn (by rw [List.append_nil]; exact hl)
  rw [List.append_nil] at bd
  have run := F.run X.A.in1.in1 X.stack s H ⟨us, []⟩ us vs Q E0 hr.in1.in1 I.env0.in1.in1 bd r h
  refine wpAny_call (codeAny_mono run fun z s' hz => ?_)
  match z, hz with
  | .error er, hz => exact hz.elim
  | .ok (.ret u), hz => exact I.after hz
  | .ok .next, hz => exact hz.elim
  | .ok .brk, hz => exact hz.elim
  | .ok .cont, hz => exact hz.elim
def rStrO (C : Addr) (sp : Sp) : List V → Hp → VK → Prop := fun xs H Q => ∃ y dx fv, xs = [.ref y] ∧ H y = some (.ins C dx fv) ∧ sp [.ref y] H (fun v H' => ∃ z, v = .str z ∧ Q (.str z) H') E0
theorem call_strO (F : FnOk X.prog X.w X.K X.mg X.base CX0 k f fd ps sp) (hr : Room (k + 1 + 1) X.A) (hb : Binds X.K fd ps []) (w : Own X.K C "__str__" f) : CallR X (.type "str") (rStrO C sp) := by
  intro pins s σ H xs us Q I rx h
  obtain ⟨y, dx, fv, rfl, hy, hs⟩ := h
  cases rx with
  | cons r1 r2 =>
    cases r2
    cases r1
    obtain ⟨ox, od, J⟩ := ins_at I hy
    refine PySem.W.kso_call hr.in1.in1.units0 I.kIn J w.at_ w.fn (wpAny_mono (run_in2 F hr hb I (.cons (rref y) .nil) hs) (fun u s' hu => ?_) fun _ _ z => z)
    obtain ⟨v, H', I', rv, z, rfl, q⟩ := hu
    obtain ⟨tk, rfl⟩ := rv
    exact ⟨.str z, H', I', ⟨_, rfl⟩, q⟩
theorem cv_strO {z : Str} (ho : R [.obj C fs] c (.val (.str z) n2 c)) : CV X.K p (rStrO C (spF X.K R)) [.obj C fs] (.str z) true c := fun vs H Q dvs hp kk => by
  cases dvs with
  | cons h r =>
    cases r
    cases h with
    | obj hv r => exact ⟨_, _, _, rfl, (hide_some hv).1, p, c, _, _, .cons (.obj hv r) .nil, hp, ho, fun v H2 e2 p2 dw _ => by
        cases dw
        exact ⟨z, rfl, kk (.str z) H2 e2 p2 (.str _) fun _ => New.sc (by intro a h; cases h)⟩⟩
end
end LA

/-! a walk over an object whose __iter__ gives the iterator of a list that it holds -/
namespace LA
open PySem PySem.Spec PyProof.Rows L2
/-- a def whose promise may speak of how large the heap is when it is called -/
structure FnSz (P : Program) (w : World) (K : PySem.W.Frag) (mg : Str → Option Value) (base : Heap) (k : Nat) (f : Addr) (fd : FuncData) (ps : List Str) (sp : Nat → Sp) : Prop where
  len : ∀ n vs H Q E, sp n vs H Q E → vs.length = ps.length
  run : ∀ (A : Around) (outer : List Env) (s : Shared) (H : Hp) (args : Args) (us : List Value) (vs : List V) (Q : VK) (E : XK), Room k A → Env0 P w K mg base A outer s H → BindsTo s fd args (ps.zip us) → Vals vs us → sp s.heap.objs.size vs H Q E →
    codeAny (model P w) A (.call (.ref f) args) (CR CX0 outer P w H s Q E) s
section
variable {P : Program} {w : World} {K : PySem.W.Frag} {mg : Str → Option Value} {base : Heap} {x qual : Str} {st : Stmt} {f : Addr} {fd : FuncData} {N ps : List Str} {k : Nat} {sp : Nat → Sp}
theorem fn_sz (F : Fun K x qual st f fd) (S : FnScope N ps (defScope st)) (hlen : ∀ n vs H Q E, sp n vs H Q E → vs.length = ps.length)
    (body : ∀ (cdv : Value) (A : Around) (outer : List Env) (s : Shared) (H : Hp) (vs : List V) (Q : VK) (E : XK), Room k (A.deeper (envOfC qual (defScope st) s.heap.objs.size f cdv)) → sp s.heap.objs.size vs H Q E →
      ∃ t, PSs (cxOf CX0 P w K mg base N qual (defScope st) f cdv A outer s H E).nox (defBody st) t ∧ t { nx := fun _ H' => Q .non H', rt := Q } (L2.start N vs) H) : FnSz P w K mg base (k + 1) f fd ps sp := by
  obtain ⟨oc, od, kV, doc, pm, an, cdv, ct, osl, rfl, lk, hcd⟩ := F.ex
  constructor
  · exact hlen
  · intro A outer s H args us vs Q E hr e0 hb rv hsp
    have eL := hlen _ _ _ _ _ hsp
    have kin : K.In s.heap := e0.mod.kin.keeps fun b o z => (e0.bs b o z).1
    have nol : s.heap.NoLimit := e0.mod.nolimit.keeps fun b o z => (e0.bs b o z).1
    have kinds : ∀ y ∈ ps.zip us, (defScope st).names.lookup y.1 = some .local ∨ ((defScope st).names.lookup y.1 = some .cell ∧ ((cellsFrom (s.heap.objs.size + 1) (defScope st).names []).lookup y.1).isSome = true) := by
      rintro ⟨n, v⟩ hy
      exact (S.par n (List.of_mem_zip hy).1).elim .inl fun q => .inr ⟨q, PySem.W.cellsFrom_some _ _ _ (.inl q)⟩
    refine codeAny_call_function hr.depth (kin _ _ lk) rfl S.co S.gen rfl (PySem.W.codeRec_of kin hcd) (hb _ _ _ _ (wpAny_newFunctionEnv_cells S.kind kinds fun env he s1 z => ?_))
    subst he
    refine ⟨nol.keeps z.toInCall.keep, codeAny_func ?_⟩
    obtain ⟨t, ht, hq⟩ := body cdv A outer s H vs Q E (hr.deeper _) hsp
    have J := inv_start (CX := CX0) (E := E) S hr.hd e0 eL rv z
    refine wpAny_mono (ht.nox.run [] s1 (L2.start N vs) H _ J hq) (fun fl s' hs => ?_) fun _ _ z => z
    match fl, hs with
    | .ret u, ⟨v, σ', H', J', rr, q⟩ => exact ⟨v, H', J'.os, J'.bare, J'.base, J'.hok, rr, q⟩
    | .next, ⟨σ', H', J', q⟩ => exact ⟨V.non, H', J'.os, J'.bare, J'.base, J'.hok, rfl, q⟩
    | .brk, ⟨_, _, _, q⟩ => exact q.elim
    | .cont, ⟨_, _, _, q⟩ => exact q.elim
end
/-- what such an __iter__ promises -/
def spIter (K : PySem.W.Frag) (C : Addr) (fld : Str) (n : Nat) : Sp := fun vs H Q _ => ∃ y dx fv l zs, vs = [.ref y] ∧ H y = some (.ins C dx fv) ∧ fv.lookup fld = some (.ref l) ∧ SqL K H l zs ∧ ∀ it, H it = none → n ≤ it → Q (.ref it) (L2.upd H it (ItO l it 0))
section
variable {X : Cx} {W : WX} {p : HD} {ρ ρ1 : Rho} {c c1 c2 : PC} {e tg : Expr} {nw : Bool} {k : Nat} {f C : Addr} {fd : FuncData} {ps : List Str} {fs : List (Str × D)} {m : Str}
theorem fn_iter {P : Program} {w : World} {K : PySem.W.Frag} {mg : Str → Option Value} {base : Heap} {x qual : Str} {st : Stmt} {N : List Str} {p1 p2 p3 p4 p5 : Pos} (F : Fun K x qual st f fd) (S : FnScope N ["self"] (defScope st)) (hN : N[0]? = some ("self" : Str)) (cl : Cls K C) (na : NoAttr K C m) (hm : mg "iter" = none)
    (hb : defBody st = [.Return (some (.Call (.Name "iter" p1) [.Attribute (.Name "self" p2) m p3] [] p4)) p5])
    (gl : ∀ (cdv : Value) (A : Around) (outer : List Env) (s : Shared) (H : Hp) (E : XK), Gl (cxOf CX0 P w K mg base N qual (defScope st) f cdv A outer s H E).nox "iter") : FnSz P w K mg base (k + 1) f fd ["self"] (spIter K C m) := by
  refine fn_sz F S (fun n vs H Q E h => ?_) fun cdv A outer s H vs Q E hr h => ?_
  · obtain ⟨y, dx, fv, l, zs, rfl, _⟩ := h
    rfl
  · obtain ⟨y, dx, fv, l, zs, rfl, hy, hl, hq, q⟩ := h
    rw [hb]
    refine ⟨_, pss_one (ps_ret (pe_callB ItX.call_iterN (gl cdv A outer s H E) hm (by first | rfl | decide +kernel) (pa_cons (pe_fld (pe_var (i := 0) hN ((S.par "self" (List.Mem.head _)).elim (fun z => .inl z) (fun z => .inr (.inl z)))) rfl) pa_nil))), ?_⟩
    exact ⟨.ref y, rfl, y, C, dx, fv, .ref l, rfl, hy, cl, na, hl, l, zs, rfl, hq, fun it n1 n2 => q it n1 n2⟩
def iObj (K : PySem.W.Frag) (C : Addr) (fld : Str) (tl : TE) : TI := fun σ H R => tl σ H fun x H1 => ∃ y dx fv l zs, x = .ref y ∧ H1 y = some (.ins C dx fv) ∧ fv.lookup fld = some (.ref l) ∧ SqL K H1 l zs ∧ R (Itl K l) H1
theorem pi_obj {tl : TE} (G : FnSz X.prog X.w X.K X.mg X.base k f fd ps (spIter X.K C m)) (hr : Room k X.A) (hb : Binds X.K fd ps []) (w : Own X.K C "__iter__" f) (hl : PE X e tl) : PI X tg e (iObj X.K C m tl) := ⟨fun pins s σ H R I h =>
  thn (hl.run pins s σ H _ I h) fun v s1 hv => by
    obtain ⟨xv, H1, I1, r1, y, dx, fv, l, zs, rfl, hy, hf, hq, q⟩ := hv
    cases r1
    obtain ⟨ox, od, J⟩ := ins_at I1 hy
    obtain ⟨mm, hF⟩ := I1.fr
    have hsp : spIter X.K C m s1.heap.objs.size [.ref y] H1 (fun z H' => ∃ it, z = .ref it ∧ H1 it = none ∧ s1.heap.objs.size ≤ it ∧ H' = L2.upd H1 it (ItO l it 0)) E0 := ⟨y, dx, fv, l, zs, rfl, hy, hf, hq, fun it n1 n2 => ⟨it, rfl, n1, n2, rfl⟩⟩
    have bd := hb s1 [Value.ref y] I1.kIn (by
      have := G.len _ _ _ _ _ hsp
      rw [List.append_nil]
      exact this)
    rw [List.append_nil] at bd
    have run := G.run X.A X.stack s1 H1 ⟨[.ref y], []⟩ [.ref y] [.ref y] _ E0 hr I1.env0 bd (.cons (rref y) .nil) hsp
    refine PySem.W.owit_iter hF I1.ok.mod.kin J w.at_ w.fn (wpAny_call (codeAny_mono run fun z s' hz => ?_))
    match z, hz with
    | .error er, hz => exact hz.elim
    | .ok .next, hz => exact hz.elim
    | .ok .brk, hz => exact hz.elim
    | .ok .cont, hz => exact hz.elim
    | .ok (.ret u), hz =>
      obtain ⟨v, H', I2, rv, it, rfl, n1, n2, rfl⟩ := I1.after hz
      cases rv
      have hi : L2.upd H1 it (ItO l it 0) it = some (ItO l it 0) := upd_same
      have eo := itO_get I2 hi
      have hT : s'.TypeIs (.ref it) "list_iterator" := ⟨_, eo, rfl⟩
      refine wpAny_specialOf (name := Str.ofString "__next__") hT slot_listiter_next.lookup ?_
      have hi' := hi
      unfold ItO at hi'
      have I3 := ItX.inv_drop I2 hi'
      have fp := ItX.inv_fp I2 hi (Nat.le_trans I1.sz n2)
      rw [ItX.dropH_upd n1] at I3 fp
      refine ⟨it, [it], _, _, H1, rfl, I3, turn_list l it, ⟨_, eo, rfl, rfl⟩, fun b hb' => ?_, q⟩
      obtain rfl : b = it := by simpa using hb'
      exact fp⟩
theorem ri_obj {g : LA.G} {xs : List D} (G : FnSz X.prog X.w X.K X.mg X.base k f fd ps (spIter X.K C m)) (hr : Room k X.A) (hb : Binds X.K fd ps []) (w : Own X.K C "__iter__" f) (h : RE X W p ρ c e (.val (.obj C fs) nw c1)) (hm : fs.lookup m = some (.lst g xs)) : RI X W p ρ c tg e xs c1 :=
  pi_imp (pi_obj G hr hb w h) fun σ H R ⟨s, kk⟩ => ⟨s, fun v H1 e1 p1 dv _ => by
    cases dv with
    | obj hv r =>
      obtain ⟨lv, hl, dl⟩ := r.get hm
      cases dl with
      | @lst a vs _ _ _ hq rr =>
        refine ⟨_, _, _, a, vs, rfl, (hide_some hv).1, hl, un_sqL hq, kk _ H1 e1 p1 fun q c' H2 qe qs p2 => ?_⟩
        have hq2 : SqL X.K H2 a vs := un_sqL (qs.sqL hq)
        refine ⟨⟨vs, hq2, Nat.le_of_eq rr.length⟩, fun i d hd => ?_⟩
        obtain ⟨u, h1, h2⟩ := rr.get hd
        refine ⟨⟨vs, u, hq2, h1⟩, fun z H3 yy => ?_⟩
        obtain ⟨rfl, h3⟩ := yy
        obtain rfl : z = u := Option.some.inj ((h3 vs hq2).symm.trans h1)
        exact ⟨Ext.refl _ _, p2, h2.sub qs (fun i b zz => by rw [qe]; exact zz)⟩⟩
end
end LA

/-! o != o', by an own __eq__ alone -/
namespace LA
open PySem PySem.Spec PyProof.Rows L2 PySem.W
section
variable {prog : Program} {w : World} {A : Around} {E : Value → Shared → Prop} {s : Shared} {K : Frag} {x C f : Addr} {ox : Obj} {od : Option Obj} {b tb : Value} {name : Str} {id : String}
theorem bound_blt {M : Model} {args : List Value} {Q : Option Value → Shared → Prop} (X : K.In s.heap) (I : InstAt s.heap x ox C od) (hs : findIn K (.ref C) name = some (some (.builtin id))) (hb : ∀ self, bindSpecial (.builtin id) self = pure (.builtin id, [self]))
    (h : wpAny M A (call (.builtin id) (.ref x :: args)) (fun v => Q (some v)) E s) : wpAny M A (callSpecialIfBound? (.ref x) name args) Q E s := by
  have done : wpAny M A (call (.builtin id) ([.ref x] ++ args) >>= fun v => pure (some v)) Q E s := wpAny_bind (wpAny_mono h (fun _ _ z => wpAny_pure z) fun _ _ z => z)
  simp only [callSpecialIfBound?, bindSpecialIfBound?]
  refine wpAny_holding (wpAny_bind (wpAny_bind (wpAny_bind (I.type.here ((looks_findIn X hs).here (wpAny_bind (wpAny_askSetting (wpAny_ite ?_))))))))
  split
  · exact wpAny_bind ((Looks.of_pure (hb _)).here (wpAny_pure (by exact done)))
  · exact wpAny_tryCatch (wpAny_bind ((Looks.of_pure (hb _)).here (wpAny_pure (by exact done))))
theorem obj_ne {Q : Value → Shared → Prop} (hu : A.in1.units < cLine) (X : K.In s.heap) (I : InstAt s.heap x ox C od) (hm : mroIn K C (.type "object") = some true) (hs : findIn K (.ref C) "__eq__" = some (some (.ref f))) (hf : isFn K (.ref f) = true)
    (h : wpAny (model prog w) A.in1 (call (.ref f) [.ref x, b]) (fun v s' => ∃ k, v = .bool k ∧ Q (.bool (!k)) s') E s) : wpAny (model prog w) A (call (.builtin "object.__ne__") [.ref x, b]) Q E s := by
  refine wpAny_call (codeAny_call_builtin PySem.F.slot_object_ne.plain PySem.F.cmpEntry_ne (check_slot (i := "object.__ne__") (owner := "object") (n := "__ne__") (by decide +kernel) (by decide +kernel) (I.type.andThen (looks_mroIn X hm)) (PySem.F.cmpArgs_ne _ _) ?_))
  unfold Builtin.«object.__ne__»
  repeat (first
    | with_reducible refine wpAny_cRoomFor hu ?_
    | (refine wpAny_bind (m := callSpecialIfBound? (.ref x) (Str.ofString "__eq__") [b]) (ifBound_K X I hs hf (wpAny_mono h (fun r s' hr => by
          obtain ⟨k, rfl, hq⟩ := hr
          repeat (first | exact hq | exact wpAny_pure hq | exact wpAny_truthy_bool hq | (refine wpAny_bind (m := truthy (.bool _)) (wpAny_truthy_bool ?_)) | wp_step)) fun _ _ e => e)))
    | wp_step)
theorem cmp_ne {Q : Value → Shared → Prop} (hu : A.units < cLine) (hu1 : A.in1.units < cLine) (X : K.In s.heap) (I : InstAt s.heap x ox C od) (hb : Looks (model prog w) s.heap (typeOf b) tb) (hn : notFirst K C tb = true)
    (hm : mroIn K C (.type "object") = some true) (hne : findIn K (.ref C) "__ne__" = some (some (.builtin "object.__ne__"))) (hs : findIn K (.ref C) "__eq__" = some (some (.ref f))) (hf : isFn K (.ref f) = true)
    (h : wpAny (model prog w) A.in1 (call (.ref f) [.ref x, b]) (fun v s' => ∃ k, v = .bool k ∧ Q (.bool (!k)) s') E s) : wpAny (model prog w) A (richCompare .NotEq (.ref x) b) Q E s := by
  have one : wpAny (model prog w) A (tryCompare (.ref x) "__ne__" b) (fun r s' => ∃ k, r = some (.bool k) ∧ Q (.bool k) s') E s := by
    simp only [tryCompare]
    refine wpAny_bind (bound_blt X I hne PySem.F.slot_object_ne.bind (obj_ne hu1 X I hm hs hf (wpAny_mono h (fun v s' hv => ?_) fun _ _ z => z)))
    obtain ⟨k, rfl, hq⟩ := hv
    exact ⟨k, rfl, wpAny_pure ⟨_, rfl, hq⟩⟩
  unfold richCompare
  simp only [oneThing_ref]
  refine wpAny_holding (wpAny_bind (wpAny_cRoomFor hu (wpAny_bind (I.type.here (wpAny_bind (hb.here ?_))))))
  rw [cmpInfo_NotEq]
  dsimp only
  split
  · rename_i q
    have e : subIn K tb (.ref C) = some false := (Bool.or_eq_true_iff.mp hn).elim (fun e => by
      rw [beq_iff_eq.mp e] at q
      simp at q) fun e => beq_iff_eq.mp e
    refine wpAny_bind ((looks_subIn X e).here ?_)
    simp only [Bool.false_eq_true, if_false]
    refine wpAny_bind (wpAny_mono one (fun r s' z => ?_) fun _ _ z => z)
    obtain ⟨k, rfl, hq⟩ := z
    exact wpAny_pure hq
  · refine wpAny_bind (wpAny_pure ?_)
    simp only [Bool.false_eq_true, if_false]
    refine wpAny_bind (wpAny_mono one (fun r s' z => ?_) fun _ _ z => z)
    obtain ⟨k, rfl, hq⟩ := z
    exact wpAny_pure hq
end
section
variable {X : Cx} {W : WX} {p : HD} {c : PC} {k : Nat} {f C : Addr} {fd : FuncData} {ps : List Str} {R : FSpec} {sp : Sp} {n2 : Bool} {fs gs : List (Str × D)}
def rNeO (C : Addr) (sp : Sp) : R2 := fun x z H Q => ∃ y y' dx fv dx' fv', x = .ref y ∧ z = .ref y' ∧ H y = some (.ins C dx fv) ∧ H y' = some (.ins C dx' fv') ∧ sp [.ref y, .ref y'] H (fun v H' => ∃ k : Bool, v = .bl k ∧ Q (.bl (!k)) H') E0
theorem op_neO (F : FnOk X.prog X.w X.K X.mg X.base CX0 k f fd ps sp) (hr : Room (k + 1) X.A) (hb : Binds X.K fd ps []) (w : Own X.K C "__eq__" f) (hm : mroIn X.K C (.type "object") = some true) (hne : findIn X.K (.ref C) "__ne__" = some (some (.builtin "object.__ne__"))) : OpR X (compareOp .NotEq) (rNeO C sp) := by
  intro pins s σ H x z v u Q I rx rz h
  obtain ⟨y, y', dx, fv, dx', fv', rfl, rfl, hy, hy', hs⟩ := h
  cases rx
  cases rz
  obtain ⟨ox, od, J⟩ := ins_at I hy
  obtain ⟨ox', od', J'⟩ := ins_at I hy'
  show wpAny (model X.prog X.w) X.A (richCompare .NotEq _ _) (EP X pins σ Q) X.xe s
  refine cmp_ne (tb := .ref C) hr.units0 hr.in1.units0 I.kIn J J'.type (by simp [PySem.W.notFirst]) hm hne w.at_ w.fn (wpAny_mono (run_in F hr hb I (.cons (rref y) (.cons (rref y') .nil)) hs) (fun u s' hu => ?_) fun _ _ z => z)
  obtain ⟨v, H', I', rv, k, rfl, q⟩ := hu
  cases rv
  exact ⟨k, rfl, .bl (!k), H', I', rfl, q⟩
theorem ov_neO {kb : Bool} (ho : R [.obj C fs, .obj C gs] c (.val (.bl kb) n2 c)) : OV X.K p (rNeO C (spF X.K R)) (.obj C fs) (.obj C gs) (.bl (!kb)) true c := fun v u H Q dv du hp kk => by
  cases dv with
  | obj hv r =>
    cases du with
    | obj hv' r' => exact ⟨_, _, _, _, _, _, rfl, rfl, (hide_some hv).1, (hide_some hv').1, p, c, _, _, .cons (.obj hv r) (.cons (.obj hv' r') .nil), hp, ho, fun v H2 e2 p2 dw _ => by
        cases dw
        exact ⟨kb, rfl, kk (.bl _) H2 e2 p2 (.bl _) fun _ => New.sc (by intro a h; cases h)⟩⟩
end
end LA

/-! int(t, 2) -/
namespace LA
open PySem PySem.Spec PyProof.Rows L2 PySem.NumText PySem.Calls L2.Hx
/-- the signs 0 and 1 -/
def IsB (c : Nat) : Prop := c = 48 ∨ c = 49
theorem IsB.hex {c : Nat} (h : IsB c) : IsHex c := .inl (by unfold IsB at h; omega)
theorem IsB.worth {c : Nat} (h : IsB c) : digit? c = some (c - 48) := by
  rw [digit_hex h.hex]
  unfold hv
  rw [if_pos (by unfold IsB at h; omega)]
theorem IsB.low {c : Nat} (h : IsB c) : c - 48 < 2 := by
  unfold IsB at h
  omega
def binNum (l : List Nat) : Nat := l.foldl (fun a c => a * 2 + (c - 48)) 0
theorem bin_step {ds : Array Nat} {b : Bool} {c : Nat} (h : IsB c) : PySem.NumText.step 2 (ds, b) c = some (ds.push (c - 48), true) := by
  have n95 : ¬ (c == 95) = true := fun z => by
    have := beq_iff_eq.mp z
    unfold IsB at h
    omega
  unfold PySem.NumText.step
  rw [if_neg n95, h.worth]
  exact if_pos h.low
theorem bin_fold : ∀ (cs : List Nat) (ds : Array Nat), (∀ c ∈ cs, IsB c) → cs.foldlM (PySem.NumText.step 2) (ds, true) = some (cs.foldl (fun acc c => acc.push (c - 48)) ds, true)
  | [], _, _ => rfl
  | c :: cs, ds, h => by
    rw [List.foldlM_cons, bin_step (h c List.mem_cons_self)]
    exact bin_fold cs (ds.push (c - 48)) fun z hz => h z (List.mem_cons_of_mem _ hz)
theorem bin_digits {cs : List Nat} (h : ∀ c ∈ cs, IsB c) (hne : cs ≠ []) : digits? 2 cs = some (cs.foldl (fun acc c => acc.push (c - 48)) #[]) := by
  match cs, hne with
  | c :: cs, _ =>
    unfold digits?
    rw [List.foldlM_cons, bin_step (h c List.mem_cons_self)]
    show (cs.foldlM (PySem.NumText.step 2) ((#[] : Array Nat).push (c - 48), true)).bind _ = _
    rw [bin_fold cs _ fun z hz => h z (List.mem_cons_of_mem _ hz)]
    rfl
theorem bin_push : ∀ (cs : List Nat) (ds : Array Nat), (cs.foldl (fun acc c => acc.push (c - 48)) ds).foldl (fun acc d => acc * 2 + d) 0 = cs.foldl (fun a c => a * 2 + (c - 48)) (ds.foldl (fun acc d => acc * 2 + d) 0)
  | [], _ => rfl
  | c :: cs, ds => by
    rw [List.foldl_cons, bin_push cs (ds.push (c - 48)), List.foldl_cons]
    congr 1
    simp
theorem bin_based {cs : List Nat} (h : ∀ c ∈ cs, IsB c) : based 2 cs = (2, false, cs) := match cs, h with
  | [], _ => rfl
  | [a], h => by rcases (show a = 48 ∨ a = 49 from h a List.mem_cons_self) with rfl | rfl <;> rfl
  | a :: c :: r, h => by
    rcases (show a = 48 ∨ a = 49 from h a List.mem_cons_self) with rfl | rfl
    · rcases (show c = 48 ∨ c = 49 from h c (List.mem_cons_of_mem _ List.mem_cons_self)) with rfl | rfl <;> rfl
    · rfl
theorem bin_read {cs : List Nat} (h : ∀ c ∈ cs, IsB c) (hne : cs ≠ []) : (int_private% "readNumeral") 0 2 cs = (int_private% "Numeral.value") ((binNum cs : Nat) : Int) := by
  have hh : ∀ c ∈ cs, IsHex c := fun c hc => (h c hc).hex
  have hr : ∀ c ∈ cs.reverse, IsHex c := fun c hc => hh c (List.mem_reverse.mp hc)
  refine (readNumeral_eq 0 2 cs).trans ?_
  rw [dropB hh, signH hh]
  show judge 0 false (based 2 cs).1 (based 2 cs).2.1 (digits? (based 2 cs).1 (((based 2 cs).2.2.reverse.dropWhile PySem.NumText.blank).reverse)) = _
  rw [bin_based h]
  show judge 0 false 2 false (digits? 2 ((cs.reverse.dropWhile PySem.NumText.blank).reverse)) = _
  rw [dropB hr, List.reverse_reverse, bin_digits h hne]
  show (int_private% "Numeral.value") (((cs.foldl (fun acc c => acc.push (c - 48)) (#[] : Array Nat)).foldl (fun acc d => acc * 2 + d) 0 : Nat) : Int) = _
  have z : (#[] : Array Nat).foldl (fun acc d => acc * 2 + d) 0 = 0 := by first | rfl | simp
  rw [bin_push, z] <;> rfl
theorem bin_gives {x : PySem.Str} {u t : Tok} (hl : x.length ≤ 640) (h : ∀ c ∈ x.cps.toList, IsB c) (hne : x.cps.toList ≠ []) : Gives (Builtin.«int.__new__» ⟨[.type "int", .str x u, .int 2 t], []⟩) (.int ((binNum x.cps.toList : Nat) : Int)) := .of_wp fun M A E s Q hQ => by
  have a1 := F.conv_sub_int
  have a2 := F.madeHere_int
  have a3 : typeOf (.str x u) = pure (.type "str") := rfl
  have seen := seen_hex (x := x) fun c hc => (h c hc).hex
  have k1 : (numSeenOf x).length ≤ 640 := by
    rw [seen.2, Array.length_toList]
    exact hl
  have k2 : (int_private% "readNumeral") 0 2 (numSeenOf x) = (int_private% "Numeral.value") ((binNum x.cps.toList : Nat) : Int) := by
    rw [seen.2]
    exact bin_read h hne
  have k3 : ((numSeenOf x).length == (numTextOf x).length) = true := by
    rw [seen.1, seen.2]
    exact beq_self_eq_true _
  have k := Hid.mk (And.intro k1 (And.intro k2 k3))
  clear k1 k2 k3 seen hl hne h
  obtain ⟨hp, gens, dr, tk, os⟩ := s
  repeat (any_goals (first | assumption | ((with_reducible show wpAny _ _ ((int_private% "intFromText") _ _ _) _ _ _); refine wp_textB k.out.1 k.out.2.1 k.out.2.2 ?_) | wp_step))
  all_goals first | exact ⟨_, rfl, hQ⟩ | skip
theorem bin_call {prog : Program} {w : World} {A : Around} {E : Value → Shared → Prop} {s : Shared} {Q : Value → Shared → Prop} {x : PySem.Str} {u t : Tok} (hl : x.length ≤ 640) (h : ∀ c ∈ x.cps.toList, IsB c) (hne : x.cps.toList ≠ [])
    (hQ : Q (.int ((binNum x.cps.toList : Nat) : Int) s.toks) { s with toks := s.toks + 1 }) : wpAny (model prog w) A (call (.type "int") [.str x u, .int 2 t]) Q E s :=
  callType_new F.called_int F.newNe_int (typeCall_int_2 _ _) (newCall_int_2 _ _) (fun obj => F.initArgs_range_2 obj _ _) F.entry_int_new (bin_gives hl h hne).meets (show (Made.int ((binNum x.cps.toList : Nat) : Int)).post _ s from ⟨rfl, hQ⟩)
def rBin : List V → Hp → VK → Prop := fun xs H Q => ∃ z : Str, xs = [.str z, .int 2] ∧ z.cps.toList ≠ [] ∧ z.length ≤ 640 ∧ (∀ c ∈ z.cps.toList, IsB c) ∧ Q (.int ((binNum z.cps.toList : Nat) : Int)) H
theorem call_bin {X : Cx} : CallR X (.type "int") rBin := by
  intro pins s σ H xs us Q I r h
  obtain ⟨z, rfl, hne, hl, hb, q⟩ := h
  obtain ⟨u, u', rfl, r1, r2⟩ := vals2 r
  obtain ⟨t1, rfl⟩ := r1
  obtain ⟨t2, rfl⟩ := r2
  exact bin_call hl hb hne ⟨.int ((binNum z.cps.toList : Nat) : Int), H, I.tok _, ⟨_, rfl⟩, q⟩
theorem cv_bin {K : PySem.W.Frag} {p : HD} {c : PC} {z : Str} (hl : z.length ≤ 640) (hb : ∀ c ∈ z.cps.toList, IsB c) (hne : z.cps.toList ≠ []) : CV K p rBin [.str z, .int 2] (.int ((binNum z.cps.toList : Nat) : Int)) true c := fun vs H Q dvs hp k => by
  match vs, dvs with
  | _, .cons h1 (.cons h2 .nil) =>
    cases h1
    cases h2
    exact ⟨z, rfl, hne, hl, hb, k _ H (Ext.refl _ _) hp (.int _) fun _ => New.sc (by intro a h; cases h)⟩
end LA

/-! list(o) of an object with an own __len__, whose __iter__ gives the iterator of a list that it holds -/
namespace LA
open PySem PySem.Spec PyProof.Rows L2 PySem.W
section
variable {prog : Program} {w : World} {A : Around} {E : Value → Shared → Prop} {s : Shared} {K : Frag} {y C f : Addr} {ox : Obj} {od : Option Obj}
theorem hint_own {Q : Bool → Shared → Prop} (X : K.In s.heap) (J : InstAt s.heap y ox C od) (hs : findIn K (.ref C) "__len__" = some (some (.ref f)))
    (h : wpAny (model prog w) A (call (.builtin "len") [.ref y]) (fun v s' => ∃ (n : Nat) (t : Tok), v = .int n t ∧ n < 100000 ∧ ∀ r, Q r s') (fun _ _ => False) s) : wpAny (model prog w) A (Builtin.List.listLengthHint (.ref y)) Q E s := by
  unfold Builtin.List.listLengthHint
  refine wpAny_bind (wpAny_bind (J.type.here ((looks_findIn X hs).here ?_)))
  refine KFB.if_not rfl ?_
  refine wpAny_ite_true rfl ?_
  refine wpAny_bind (wpAny_rule ?_)
  refine wpAny_bind (wpAny_attempt (wpAny_mono h (fun v s' hv => ?_) fun e s' he => ?_))
  · obtain ⟨n, t, rfl, hn, hq⟩ := hv
    dsimp only
    have nl : Builtin.List.listTooLong ((n : Int)).toNat = false := by
      rw [Int.toNat_natCast]
      exact notLongL (Nat.le_of_lt (sz_lt hn))
    repeat (any_goals (first | exact hq _ | exact wpAny_pure (hq _) | (refine KFB.if_not nl ?_) | wp_step))
  · exact he.elim
end
section
variable {X : Cx} {W : WX} {p : HD} {c : PC} {ki kl : Nat} {fi fl C : Addr} {fdi fdl : FuncData} {psi psl : List Str} {R : FSpec} {m : Str} {fs : List (Str × D)}
/-- the rest of a list goes behind the new one -/
theorem fill_it {pins : List (Addr × Obj)} {σ : L2.St} {H : Hp} {A1 : Around} {q it l : Addr} {zs : List V} {Rs : Result → Shared → Prop} (hh : A1.in1.handled = none) (ne : q ≠ l) (hz : zs.length < 100000) (hl : SqL X.K H l zs) (fp : FpOk X pins H it)
    (ni : q ≠ it) (hdone : ∀ s, Inv X pins σ (L2.upd H q (.lst zs)) s → Rs (.ok (.ret .none)) s) : ∀ (n i : Nat) (s : Shared), n = zs.length - i → i ≤ zs.length → Inv X pins σ (L2.upd H q (.lst (zs.take i))) s → s.heap.IsListIter it l i →
      codeAny (model X.prog X.w) A1 (.builtin "list.extend.loop" ⟨[.ref q, .ref it, .none], []⟩) Rs s := by
  have hl' : ∀ ys, SqL X.K (L2.upd H q (.lst ys)) l zs := fun ys => by
    have e : L2.upd H q (.lst ys) l = H l := upd_ne (Ne.symm ne)
    unfold SqL Rd at hl ⊢
    simp only [e]
    exact hl
  obtain ⟨f0, f1, f2, f3, f4, f5⟩ := fp
  have f0' : ∀ ys, L2.upd H q (.lst ys) it = none := fun ys => by
    rw [upd_ne (Ne.symm ni)]
    exact f0
  intro n
  induction n with
  | zero =>
    intro i s hn hi I st
    refine codeAny_builtin PySem.F.entry_extend_loop ?_
    rw [Around.under_plainId PySem.F.plain_extend_loop _]
    have ei : i = zs.length := by omega
    subst ei
    rw [List.take_length] at I
    obtain ⟨its, rv, pl, _⟩ := I.list (hl' _)
    have el := rv.length
    refine wpAny_bind (wpAny_pyNext_list_end hh st pl.isList (by simp; omega) fun h' eb => ?_)
    exact wpAny_pure (hdone _ (I.turned (t' := s.toks) (fun b o hb e => eb b o hb e) (f0' _) f1 f3 f4 f5))
  | succ n ih =>
    intro i s hn hi I st
    refine codeAny_builtin PySem.F.entry_extend_loop ?_
    rw [Around.under_plainId PySem.F.plain_extend_loop _]
    have li : i < zs.length := by omega
    obtain ⟨its, rv, pl, _⟩ := I.list (hl' _)
    obtain ⟨u, hu, ru⟩ := rv.get (List.getElem?_eq_getElem li)
    refine wpAny_bind (wpAny_pyNext_list_item st pl.isList (x := u) (by simpa using hu) fun h' st' sb => ?_)
    have I1 := I.turned (t' := s.toks) (fun b o hb e => (sb.2 b hb).trans e) (f0' _) f1 f3 f4 f5
    obtain ⟨z, its2, k, r2, h2, e⟩ := I1.lstM (l := q) upd_same
    have sz : its2.length < 100000 := by
      rw [← h2, List.length_take]
      omega
    refine wpAny_bind (wpAny_updateSeq e rfl (wpAny_pure ⟨plainId_quiet PySem.F.plain_extend_loop _, ?_⟩) (by rw [List.size_toArray]; exact Nat.le_of_lt (sz_lt sz)) (by rw [Array.size_push, List.size_toArray]; exact Nat.le_succ_of_le (Nat.succ_le_of_lt (sz_lt sz))))
    have J := I1.lset (f := (·.push u)) (its' := its2 ++ [u]) (t' := s.toks) upd_same e (by simp) (r2.append (.cons ru .nil)) (by
      rw [List.length_append, List.length_take, List.length_singleton]
      exact sz_le (by omega))
    rw [upd_upd] at J
    have tk : zs.take i ++ [zs[i]] = zs.take (i + 1) := by rw [List.take_add_one, List.getElem?_eq_getElem li]; rfl
    rw [tk] at J
    refine ih (i + 1) _ (by omega) (by omega) J ?_
    refine st'.at fun o ho => ?_
    exact (Heap.get?_update_other _ _ ni).trans ho
theorem run_on {k : Nat} {f : Addr} {fd : FuncData} {ps : List Str} {sp : Sp} {A1 : Around} {pins : List (Addr × Obj)} {σ : L2.St} {H : Hp} {s : Shared} {Q : VK} {us : List Value} {vs : List V} {E' : Value → Shared → Prop} (F : FnOk X.prog X.w X.K X.mg X.base CX0 k f fd ps sp) (hr : Room k A1) (he : Env0 X.prog X.w X.K X.mg X.base A1 X.stack s H)
    (hb : Binds X.K fd ps []) (I : Inv X pins σ H s) (r : Vals vs us) (h : sp vs H Q E0) : wpAny (model X.prog X.w) A1 (call (.ref f) us) (EP X pins σ Q) E' s := by
  have hl : us.length = ps.length := by
    rw [← r.length]
    exact F.len _ _ _ _ h
  have bd := hb s us I.kIn (by rw [List.append_nil]; exact hl)
  rw [List.append_nil] at bd
  refine wpAny_call (codeAny_mono (F.run A1 X.stack s H ⟨us, []⟩ us vs Q E0 hr he bd r h) fun z s' hz => ?_)
  match z, hz with
  | .error er, hz => exact hz.elim
  | .ok (.ret u), hz => exact I.after hz
  | .ok .next, hz => exact hz.elim
  | .ok .brk, hz => exact hz.elim
  | .ok .cont, hz => exact hz.elim
def rListO (K : Frag) (C : Addr) (m : Str) (spl : Sp) : List V → Hp → VK → Prop := fun xs H Q => ∃ y dx fv l zs, xs = [V.ref y] ∧ H y = some (.ins C dx fv) ∧ fv.lookup m = some (.ref l) ∧ SqL K H l zs ∧ zs.length < 100000 ∧
  ∀ q it, H q = none → H it = none → q ≠ it → spl [.ref y] (L2.upd (L2.upd H q (.lst [])) it (ItO l it 0)) (fun v H' => (∃ n : Nat, n < 100000 ∧ v = .int n) ∧ H' q = some (.lst []) ∧ H' it = some (ItO l it 0) ∧ SqL K H' l zs ∧ Q (.ref q) (L2.upd (ItX.dropH H' it) q (.lst zs))) E0
theorem call_listO {spl : Sp} (hc : X.calm = true) (Gi : FnSz X.prog X.w X.K X.mg X.base ki fi fdi psi (spIter X.K C m)) (hri : Room (ki + 1 + 1) X.A) (hbi : Binds X.K fdi psi []) (wi : Own X.K C "__iter__" fi)
    (Gl : FnOk X.prog X.w X.K X.mg X.base CX0 kl fl fdl psl spl) (hrl : Room (kl + 1 + 1 + 1) X.A) (hbl : Binds X.K fdl psl []) (wl : Own X.K C "__len__" fl) : CallR X (.type "list") (rListO X.K C m spl) := by
  intro pins s σ H xs us Q I rv h
  obtain ⟨y, dx, fv, l, zs, rfl, hy, hf, hq, hz, hk⟩ := h
  obtain ⟨u, rfl, ru⟩ := rv.one
  cases ru
  let nl : Obj := { cls := .type "list", data := .seq #[] }
  let q := s.heap.objs.size
  refine callType_codes (Q₁ := fun ob t => ob = .ref q ∧ t = { s with heap := s.heap.push nl }) PySem.F.called_list (PySem.F.typeCall_list_1 _) PySem.F.entry_list_init (code_list_new _ ⟨rfl, rfl⟩) fun ob t ht => ?_
  obtain ⟨rfl, rfl⟩ := ht
  have at_q : (s.heap.push nl).get? q = some nl := Heap.get?_push_size _ rfl
  refine ⟨⟨_, at_q, rfl⟩, PySem.F.args_list_init_2 _ _, ?_⟩
  have nq : H q = none := I.hok.fresh (Nat.le_refl _)
  have neL : q ≠ l := by
    obtain ⟨its, _, pl, _⟩ := I.list hq
    obtain ⟨o, ho, _⟩ := pl.isList
    exact Nat.ne_of_gt (Heap.lt_size ho)
  have I1 : Inv X pins σ (L2.upd H q (.lst [])) { s with heap := s.heap.push nl } := I.lnew (its := []) (t' := s.toks) .nil (Nat.zero_le _)
  show wpAny _ _ (do
    let old ← Builtin.List.listItems (.ref q)
    Builtin.List.listUpdate (.ref q) (fun _ => #[])
    letGo old.toList.reverse
    Builtin.List.listExtendWith (.ref q) (.ref y) .none) _ _ _
  refine wpAny_bind ?_
  unfold Builtin.List.listItems
  refine wpAny_bind (wpAny_seqItems at_q rfl (wpAny_pure ?_))
  show wpAny _ _ (do
    updateSeq q (fun _ => #[])
    letGo (#[] : Array Value).toList.reverse
    Builtin.List.listExtendWith (.ref q) (.ref y) .none) _ _ _
  refine wpAny_bind (wpAny_updateSeq at_q rfl ?_)
  have I2 := I1.lset (f := fun _ => #[]) (its := []) (its' := []) (ys := []) (t' := s.toks) upd_same at_q rfl .nil (Nat.zero_le _)
  rw [upd_upd] at I2
  refine wpAny_bind (wpAny_letGo ?_)
  have hy2 : L2.upd H q (.lst []) y = some (.ins C dx fv) := by
    rw [upd_ne (ne_of_none hy nq)]
    exact hy
  have hq2 : SqL X.K (L2.upd H q (.lst [])) l zs := by
    have e : L2.upd H q (.lst []) l = H l := upd_ne (Ne.symm neL)
    unfold SqL Rd at hq ⊢
    simp only [e]
    exact hq
  obtain ⟨ox, od, J⟩ := ins_at I2 hy2
  obtain ⟨mm, hF⟩ := I2.fr
  have neY : q ≠ y := fun z => by
    rw [← z, nq] at hy
    cases hy
  unfold Builtin.List.listExtendWith
  refine wpAny_bind (J.type.here ?_)
  have b1 : Builtin.List.listSameRef (.ref q) (.ref y) = false := by simp [Builtin.List.listSameRef, neY]
  have b2 : (Value.ref C == Value.type "list") = false := rfl
  have b3 : (Value.ref C == Value.type "tuple") = false := rfl
  simp only [b1, b2, b3, Bool.or_false, Bool.false_eq_true, if_false]
  -- __iter__
  refine wpAny_bind (PySem.W.owit_iter hF I2.ok.mod.kin J wi.at_ wi.fn ?_)
  generalize hs2 : ({ s with heap := (s.heap.push nl).update q (Obj.mapSeq fun _ => #[]), toks := s.toks } : Shared) = s2 at I2
  have gi : spIter X.K C m s2.heap.objs.size [.ref y] (L2.upd H q (.lst [])) (fun z H' => ∃ it, z = .ref it ∧ L2.upd H q (.lst []) it = none ∧ s2.heap.objs.size ≤ it ∧ H' = L2.upd (L2.upd H q (.lst [])) it (ItO l it 0)) E0 := ⟨y, dx, fv, l, zs, rfl, hy2, hf, hq2, fun it n1 n2 => ⟨it, rfl, n1, n2, rfl⟩⟩
  have bd := hbi s2 [Value.ref y] I2.kIn (by
    have := Gi.len _ _ _ _ _ gi
    rw [List.append_nil]
    exact this)
  rw [List.append_nil] at bd
  refine wpAny_call (codeAny_mono (Gi.run X.A.in1.in1 X.stack s2 _ ⟨[.ref y], []⟩ [.ref y] [.ref y] _ E0 hri.in1.in1 I2.env0.in1.in1 bd (.cons (rref y) .nil) gi) fun z s' hz' => ?_)
  match z, hz' with
  | .error er, hz' => exact hz'.elim
  | .ok .next, hz' => exact hz'.elim
  | .ok .brk, hz' => exact hz'.elim
  | .ok .cont, hz' => exact hz'.elim
  | .ok (.ret u), hz' =>
    obtain ⟨v, H', I3, rv', it, rfl, n1, n2, rfl⟩ := I2.after hz'
    cases rv'
    have hi : L2.upd (L2.upd H q (.lst [])) it (ItO l it 0) it = some (ItO l it 0) := upd_same
    have hT : s'.TypeIs (.ref it) "list_iterator" := ⟨_, itO_get I3 hi, rfl⟩
    have nqi : q ≠ it := fun z => by
      rw [← z, upd_same] at n1
      cases n1
    have nit : H it = none := by
      rw [upd_ne (Ne.symm nqi)] at n1
      exact n1
    refine wpAny_specialOf (name := Str.ofString "__next__") hT slot_listiter_next.lookup ?_
    -- the length
    have hy3 : L2.upd (L2.upd H q (.lst [])) it (ItO l it 0) y = some (.ins C dx fv) := by
      rw [upd_ne (ne_of_none hy2 n1)]
      exact hy2
    obtain ⟨ox3, od3, J3⟩ := ins_at I3 hy3
    obtain ⟨mm3, hF3⟩ := I3.fr
    refine wpAny_bind (wpAny_holding (hint_own I3.kIn J3 wl.at_ (PySem.W.len_K hF3 I3.ok.mod.kin J3 wl.at_ wl.fn (wpAny_mono (run_on Gl hrl.in1.in1.in1 I3.env0.in1.in1.in1 hbl I3 (.cons (rref y) .nil) (hk q it nq nit nqi)) (fun u s4 hu => ?_) fun _ _ z => z))))
    obtain ⟨v4, H4, I4, rv4, ⟨n, hn, rfl⟩, hq4, hi4, hl4, fin⟩ := hu
    obtain ⟨tk4, rfl⟩ := rv4
    refine ⟨⟨Int.natCast_nonneg n, by omega⟩, n, _, rfl, hn, fun rr => ?_⟩
    have I5 : Inv X pins σ H4 { s4 with toks := s4.toks + 1 } := I4.tok _
    have eo := itO_get I5 hi4
    have hi4' := hi4
    unfold ItO at hi4'
    have sz : X.s_0.heap.objs.size ≤ it := Nat.le_trans I2.sz n2
    have I6 := ItX.inv_drop I5 hi4'
    have fp := ItX.inv_fp I5 hi4 sz
    have hqd : ItX.dropH H4 it q = some (.lst []) := by
      rw [ItX.dropH_ne nqi]
      exact hq4
    have nel : it ≠ l := by
      obtain ⟨its, _, pl, _⟩ := I5.list hl4
      rintro rfl
      obtain ⟨o, ho, ec, _⟩ := pl.isList
      rw [eo] at ho
      cases ho
      exact absurd (Value.type.inj (show Value.type "list_iterator" = Value.type "list" from ec)) (by decide)
    have hld : SqL X.K (ItX.dropH H4 it) l zs := ItX.sqL_drop hl4 nel
    have same : L2.upd (ItX.dropH H4 it) q (.lst []) = ItX.dropH H4 it := by
      funext b
      by_cases hb : b = q
      · rw [hb, upd_same, hqd]
      · rw [upd_ne hb]
    have loop := fill_it (X := X) (A1 := X.A.in1) (Rs := wants (fun r s₂ => r = .none ∧ EP X pins σ Q (.ref q) s₂) X.xe) (I5.ok.hd hc) neL hz hld fp nqi fun s₂ I₂ => ⟨rfl, .ref q, _, I₂, rfl, fin⟩
    have st : ({ s4 with toks := s4.toks + 1 } : Shared).heap.IsListIter it l 0 := ⟨_, eo, rfl, rfl⟩
    refine wpAny_ite_split (fun _ => ?_) (fun _ => wpAny_pure ⟨plainId_quiet PySem.F.plain_extend_loop _, loop _ 0 _ rfl (Nat.zero_le _) (by rw [List.take_zero, same]; exact I6) st⟩)
    refine wpAny_bind (wpAny_rule (wpAny_bind ?_))
    show wpAny _ _ (updateSeq q (·.push .none) >>= fun _ => updateSeq q (·.pop)) _ _ _
    obtain ⟨_, ia, ka, ra, _, ea⟩ := I6.lstM hqd
    cases ra
    refine wpAny_bind (wpAny_updateSeq ea rfl ?_)
    have I7 := I6.lset (f := (·.push Value.none)) (its' := [Value.none]) (ys := [.non]) (t' := s4.toks + 1) hqd ea (by simp) (.cons rfl .nil) (sz_le (by decide))
    obtain ⟨_, ib, kb, rb, _, eb⟩ := I7.lstM upd_same
    obtain ⟨ub, rfl, rub⟩ := rb.one
    refine wpAny_updateSeq eb rfl ?_ (show 1 ≤ sizeLine from sz_le (by decide)) (Nat.zero_le _)
    have I8 := I7.lset (f := (·.pop)) (its := [ub]) (its' := []) (ys := []) (t' := s4.toks + 1) upd_same eb (by rfl) .nil (Nat.zero_le _)
    rw [upd_upd] at I8
    refine wpAny_pure ⟨plainId_quiet PySem.F.plain_extend_loop _, loop _ 0 _ rfl (Nat.zero_le _) (by rw [List.take_zero]; exact I8) ?_⟩
    refine st.at fun o ho => ?_
    exact (Heap.get?_update_other _ _ nqi).trans ((Heap.get?_update_other _ _ nqi).trans ho)
/-- what such a __len__ promises -/
def spLen (K : Frag) (C : Addr) (fld : Str) : Sp := fun vs H Q _ => ∃ y dx fv l zs, vs = [V.ref y] ∧ H y = some (.ins C dx fv) ∧ fv.lookup fld = some (.ref l) ∧ SqL K H l zs ∧ Q (.int (zs.length : Nat)) H
theorem fn_len {P : Program} {w : World} {K : Frag} {mg : Str → Option Value} {base : Heap} {k : Nat} {f : Addr} {fd : FuncData} {x qual : Str} {st : Stmt} {N : List Str} {p1 p2 p3 p4 p5 : Pos} (F : Fun K x qual st f fd) (S : FnScope N ["self"] (defScope st)) (hN : N[0]? = some ("self" : Str)) (cl : Cls K C) (na : NoAttr K C m) (hm : mg "len" = none)
    (hb : defBody st = [.Return (some (.Call (.Name "len" p1) [.Attribute (.Name "self" p2) m p3] [] p4)) p5])
    (gl : ∀ (cdv : Value) (A : Around) (outer : List Env) (s : Shared) (H : Hp) (E : XK), Gl (cxOf CX0 P w K mg base N qual (defScope st) f cdv A outer s H E).nox "len") : FnOk P w K mg base CX0 (k + 1) f fd ["self"] (spLen K C m) := by
  refine F.ok S (fun vs H Q E h => ?_) fun cdv A outer s H vs Q E hr h => ?_
  · obtain ⟨y, dx, fv, l, zs, rfl, _⟩ := h
    rfl
  · obtain ⟨y, dx, fv, l, zs, rfl, hy, hl, hq, q⟩ := h
    rw [hb]
    refine ⟨_, pss_one (ps_ret (pe_callB call_len_seq (gl cdv A outer s H E) hm (by first | rfl | decide +kernel) (pa_cons (pe_fld (pe_var (i := 0) hN ((S.par "self" (List.Mem.head _)).elim (fun z => .inl z) (fun z => .inr (.inl z)))) rfl) pa_nil))), ?_⟩
    exact ⟨.ref y, rfl, y, C, dx, fv, .ref l, rfl, hy, cl, na, hl, l, zs, rfl, .inl hq, q⟩
def rLenF (C : Addr) (m : Str) : FSpec := fun ds c o => ∃ fs g xs, ds = [.obj C fs] ∧ fs.lookup m = some (.lst g xs) ∧ o = .val (.int (xs.length : Nat)) true c
theorem len_spF {P : Program} {w : World} {K : Frag} {mg : Str → Option Value} {base : Heap} {k : Nat} {f : Addr} {fd : FuncData} {ps : List Str} (G : FnOk P w K mg base CX0 k f fd ps (spLen K C m)) : FnOk P w K mg base CX0 k f fd ps (spF K (rLenF C m)) := by
  refine G.imp fun vs H Q E h => ?_
  obtain ⟨p, c, ds, o, h1, h2, ⟨fs, g, xs, rfl, hm, rfl⟩, h4⟩ := h
  match vs, h1 with
  | _, .cons (.obj hv r) .nil =>
    obtain ⟨lv, hl, dl⟩ := r.get hm
    cases dl with
    | @lst a zs _ _ _ hq rr => exact ⟨_, _, _, a, zs, rfl, (hide_some hv).1, hl, un_sqL hq, h4 _ H (Ext.refl _ _) h2 (by rw [rr.length]; exact .int _) fun _ => New.sc (by intro a z; cases z)⟩
theorem cv_listO {g : LA.G} {xs : List D} (hm : fs.lookup m = some (.lst g xs)) (hz : xs.length < 100000) : CV X.K p (rListO X.K C m (spLen X.K C m)) [.obj C fs] (.lst ⟨false, true⟩ xs) true c := fun vs H Q dvs hp kk => by
  match vs, dvs with
  | _, .cons (.obj hv r) .nil =>
    obtain ⟨lv, hl, dl⟩ := r.get hm
    cases dl with
    | @lst a zs _ _ _ hq rr =>
      refine ⟨_, _, _, a, zs, rfl, (hide_some hv).1, hl, un_sqL hq, by rw [rr.length]; exact hz, fun q it nq nit nqi => ?_⟩
      have n1 : L2.upd H q (.lst []) it = none := by
        rw [upd_ne (Ne.symm nqi)]
        exact nit
      have e1 : Ext p H (L2.upd (L2.upd H q (.lst [])) it (ItO a it 0)) := (Ext.new nq).trans (Ext.new n1)
      have hv2 := e1.hide _ _ hv
      have hq2 := un_sqL (e1.sqL hq)
      refine ⟨_, _, _, a, zs, rfl, (hide_some hv2).1, hl, hq2, ⟨zs.length, by rw [rr.length]; exact hz, rfl⟩, ?_, upd_same, hq2, ?_⟩
      · rw [upd_ne nqi, upd_same]
      · rw [ItX.dropH_upd n1, upd_upd]
        have vis : hide p (L2.upd H q (.lst zs)) q = some (.lst zs) := hide_upd hp nq
        exact kk (.ref q) _ (Ext.new nq) (hp.upd nq) (.lst ⟨(fun z => nomatch z), fun _ => vis⟩ (.inl (.inl vis)) (rr.mono (Ext.new nq))) fun _ => New.lst hp nq rr
end
end LA

namespace K56
open PySem PySem.Spec PyProof.Rows L2 LA
/-! ### what the law hands in -/
structure Fit (d : D) : Prop where
  ty : ∃ t, tyD d = some t
  len : ∀ l, d = .str (tx l) → l.length ≤ 1000
/-- what any value may be: its type is told -/
def Ty (d : D) : Prop := ∃ t, tyD d = some t
/-! ### positions, bits, words -/
def cds : D → List Nat
  | .str s => s.cps.toList
  | _ => []
theorem cds_tx (l : List Nat) : cds (.str (tx l)) = l := tx_list l
def isW (a : List Nat) (d : D) : Bool := isStrD d && (decide ((cds d).length ≤ 6) && (cds d).all fun n => decide (n ∈ a))
def pats : List Nat := (Str.ofString "-01").cps.toList
def bins : List Nat := (Str.ofString "01").cps.toList
def wholeD : D → Bool
  | .int _ => true
  | _ => false
def posD (d : D) (n : Int) : Bool := match d with
  | .int i => decide (0 ≤ i) && decide (i < n)
  | _ => false
def intOf : D → Int
  | .int i => i
  | _ => 0
def wordR : FSpec := fun ds c o => ∃ d s, ds = [d, .str s] ∧ Fit d ∧ o = .val (.bl (isW s.cps.toList d)) true c
def isInR (s : Str) : FSpec := fun ds c o => ∃ d, ds = [d] ∧ Fit d ∧ o = .val (.bl (isW s.cps.toList d)) true c
def wholeR : FSpec := fun ds c o => ∃ d, ds = [d] ∧ Ty d ∧ o = .val (.bl (wholeD d)) true c
def posR : FSpec := fun ds c o => ∃ d n, ds = [d, .int n] ∧ Ty d ∧ o = .val (.bl (posD d n)) true c
section
variable {P : Program} {w : World} {K : PySem.W.Frag} {mg : Str → Option Value} {base : Heap} {B Cn fB fC : Addr}
theorem scWord : FnScope ["value", "letters", "one"] ["value", "letters"] (defScope (top 16)) := ⟨rfl, rfl, rfl, by decide +kernel, rfl, by decide +kernel, by decide +kernel⟩
theorem ok_word {f : Addr} {fd : FuncData} {tk : Tok} (G : Glb mg) (hM : mg "MOST" = some (.int 6 tk)) (F : Fun K "_is_word" "_is_word" (top 16) f fd) : FnOk P w K mg base CX0 1 f fd ["value", "letters"] (spF K wordR) := by
  refine fn_val F scWord (fun ds c o h => ?_) (fun ds c o h => ?_) (fun cdv A outer s H E hr p ds c o h => ?_)
  · obtain ⟨d, s, rfl, _⟩ := h
    rfl
  · obtain ⟨d, s, _, _, rfl⟩ := h
    exact ⟨_, _, _, rfl⟩
  · obtain ⟨d, z, rfl, fd', rfl⟩ := h
    obtain ⟨t, ht⟩ := fd'.ty
    obtain ⟨a, rfl⟩ := str_tx z
    rw [tx_list]
    refine .inl (rss_ret (rs_ret (re_and (k1 := isStrD d) (re_callB call_isi G.isi PyProof.Rows.boot_isinstance (ra_cons (re_var 0) (ra_cons (re_ty G.str PyProof.Rows.boot_str) ra_nil)) (cv_isi ht (isi_str ht))) (fun hk => ?_))))
    cases d with
    | str s =>
      obtain ⟨l, rfl⟩ := str_tx s
      have hl := fd'.len l rfl
      rw [cds_tx]
      refine re_and (n1 := true) (k1 := decide (l.length ≤ 6)) ?_ (fun hk => re_and1 ?_)
      · have e : decide (l.length ≤ 6) = decide (((l.length : Nat) : Int) ≤ 6) := by
          rw [Bool.eq_iff_iff]
          simp
          omega
        rw [e]
        exact re_cmp op_le (re_callB call_len G.len PySem.boot_len (ra_cons (re_var 0) ra_nil) (cv_lenT (by omega))) (re_gint hM) ov_ib
      · have key : ((List.range (chars (tx l)).length).map fun i => D.bl (decide (l.getD i 0 ∈ a))) = (l.map fun n => decide (n ∈ a)).map D.bl := by
          rw [signs_len]
          refine List.ext_getElem? fun i => ?_
          by_cases hi : i < l.length
          · simp [hi, List.getElem?_range]
          · simp [hi]
        have e : (l.all fun n => decide (n ∈ a)) = (l.map fun n => decide (n ∈ a)).all id := by rw [List.all_map]; rfl
        rw [e]
        refine re_callB (ds := [.lst ⟨false, true⟩ ((l.map fun n => decide (n ∈ a)).map D.bl)]) (cr_all rfl) G.all PyProof.Rows.boot_all (ra_cons (nw := true) ?_ ra_nil) cv_all
        rw [← key]
        refine re_lcA (own := [("one", 2)]) (g := gName 2) _ (fun _ => c) (fun i => [some (.str (tx l)), some (.str (tx a)), some (.str (chr1 (l.getD i 0)))]) (fun _ => true) rfl scWord.nd (ri_str (re_var 0)) (blkOk_by (N := ["value", "letters", "one"]) (sc := defScope (top 16)) (by decide +kernel)) (fun _ _ _ _ _ => pg_name (i := 2) scWord.nd rfl (Or.inl rfl)) (fun i d h => ?_) (fun i d h q s H C cl fp => ?_) (by rw [signs_len]; omega)
        · obtain ⟨rfl, _⟩ := signs_at h
          exact tg_name (by decide)
        · have q := ov_inC (K := K) (p := q) (c := c) (ch := l.getD i 0) (z := tx a)
          rw [tx_list] at q
          exact re_cmp op_in_sign (re_var 2) (re_var 1) q
    | _ => cases hk
abbrev WordD (P : Program) (w : World) (K : PySem.W.Frag) (mg : Str → Option Value) (base : Heap) := Def0 P w K mg base 1 "_is_word" ["value", "letters"] wordR
abbrev IsInD (P : Program) (w : World) (K : PySem.W.Frag) (mg : Str → Option Value) (base : Heap) := Def0 P w K mg base 2 "is_input" ["value"] (isInR "01")
theorem ok_isIn {f : Addr} {fd : FuncData} (T : WordD P w K mg base) (F : Fun K "is_input" "is_input" (top 14) f fd) : FnOk P w K mg base CX0 2 f fd ["value"] (spF K (isInR "01")) := by
  refine fn_val F (N := ["value"]) ⟨rfl, rfl, rfl, by decide +kernel, rfl, by decide +kernel, by decide +kernel⟩ (fun ds c o h => ?_) (fun ds c o h => ?_) (fun cdv A outer s H E hr p ds c o h => ?_)
  · obtain ⟨d, rfl, _⟩ := h
    rfl
  · obtain ⟨d, _, _, rfl⟩ := h
    exact ⟨_, _, _, rfl⟩
  · obtain ⟨d, rfl, fd', rfl⟩ := h
    exact .inl (rss_ret (rs_ret (re_c0 T hr (ra_cons (re_var 0) (ra_cons re_str ra_nil)) ⟨d, _, rfl, fd', rfl⟩)))
theorem ok_whole {f : Addr} {fd : FuncData} (G : Glb mg) (F : Fun K "is_whole" "is_whole" (top 9) f fd) : FnOk P w K mg base CX0 1 f fd ["value"] (spF K wholeR) := by
  refine fn_val F (N := ["value"]) ⟨rfl, rfl, rfl, by decide +kernel, rfl, by decide +kernel, by decide +kernel⟩ (fun ds c o h => ?_) (fun ds c o h => ?_) (fun cdv A outer s H E hr p ds c o h => ?_)
  · obtain ⟨d, rfl, _⟩ := h
    rfl
  · obtain ⟨d, _, _, rfl⟩ := h
    exact ⟨_, _, _, rfl⟩
  · obtain ⟨d, rfl, ⟨t, ht⟩, rfl⟩ := h
    have e : wholeD d = (isIntD d && !isBlD d) := by cases d <;> rfl
    rw [e]
    exact .inl (rss_ret (rs_ret (re_and (re_callB call_isi G.isi PyProof.Rows.boot_isinstance (ra_cons (re_var 0) (ra_cons (re_ty G.int PyProof.Rows.boot_int) ra_nil)) (cv_isi ht (isi_int ht))) fun _ => re_and1 (re_not (re_callB call_isi G.isi PyProof.Rows.boot_isinstance (ra_cons (re_var 0) (ra_cons (re_ty G.bool PyProof.Rows.boot_bool) ra_nil)) (cv_isi ht (isi_bool ht)))))))
abbrev WholeD (P : Program) (w : World) (K : PySem.W.Frag) (mg : Str → Option Value) (base : Heap) := Def0 P w K mg base 1 "is_whole" ["value"] wholeR
abbrev PosD (P : Program) (w : World) (K : PySem.W.Frag) (mg : Str → Option Value) (base : Heap) := Def0 P w K mg base 2 "is_position" ["value", "many"] posR
theorem ok_pos {f : Addr} {fd : FuncData} (T : WholeD P w K mg base) (F : Fun K "is_position" "is_position" (top 10) f fd) : FnOk P w K mg base CX0 2 f fd ["value", "many"] (spF K posR) := by
  refine fn_val F (N := ["value", "many"]) ⟨rfl, rfl, rfl, by decide +kernel, rfl, by decide +kernel, by decide +kernel⟩ (fun ds c o h => ?_) (fun ds c o h => ?_) (fun cdv A outer s H E hr p ds c o h => ?_)
  · obtain ⟨d, n, rfl, _⟩ := h
    rfl
  · obtain ⟨d, n, _, _, rfl⟩ := h
    exact ⟨_, _, _, rfl⟩
  · obtain ⟨d, n, rfl, fd', rfl⟩ := h
    have e : posD d n = (wholeD d && posD d n) := by cases d <;> rfl
    rw [e]
    refine .inl (rss_ret (rs_ret (re_and (re_c0 T hr (ra_cons (re_var 0) ra_nil) ⟨d, rfl, fd', rfl⟩) fun hk => re_and1 ?_)))
    cases d with
    | int i => exact re_chain op_le op_lt re_int (re_var 0) (re_var 1) ov_ib ov_ib
    | _ => cases hk
end
end K56

namespace K56
open PySem PySem.Spec PyProof.Rows L2 LA
def cntR (Cn : Addr) : FSpec := fun ds c o => ∃ d, ds = [d, .int 6] ∧ Ty d ∧ o = if posD d 7 then .val .non true c else .ex Cn [("given", d)] c
/-! ### words -/
def step (ws : List (List Nat)) (ls : List Nat) : List (List Nat) := ws.flatMap fun w => ls.map fun a => w ++ [a]
def wordsV : List (List Nat) → List (List Nat) → List (List Nat)
  | ws, [] => ws
  | ws, l :: r => wordsV (step ws l) r
def wD (ws : List (List Nat)) : List D := ws.map fun w => D.str (tx w)
theorem wordsV_app (ws : List (List Nat)) : ∀ (a b : List (List Nat)), wordsV ws (a ++ b) = wordsV (wordsV ws a) b := by
  intro a
  induction a generalizing ws with
  | nil => intro b; rfl
  | cons l r ih => intro b; exact ih (step ws l) b
theorem step_len (ws : List (List Nat)) (ls : List Nat) : (step ws ls).length = ws.length * ls.length := by
  unfold step
  induction ws with
  | nil => simp
  | cons a r ih => rw [List.flatMap_cons, List.length_append, ih, List.length_map, List.length_cons]; rw [Nat.add_mul]; omega
theorem step_all {ws : List (List Nat)} {ls : List Nat} {n : Nat} (h : ∀ w ∈ ws, w.length = n) : ∀ w ∈ step ws ls, w.length = n + 1 := by
  intro w hw
  unfold step at hw
  obtain ⟨a, ha, hb⟩ := List.mem_flatMap.mp hw
  obtain ⟨x, _, rfl⟩ := List.mem_map.mp hb
  rw [List.length_append, h a ha]
  rfl
theorem words_all : ∀ (cs : List (List Nat)) {ws : List (List Nat)} {n : Nat}, (∀ w ∈ ws, w.length = n) → ∀ w ∈ wordsV ws cs, w.length = n + cs.length
  | [], _, _, h => h
  | l :: r, ws, n, h => fun w hw => by
    have := words_all r (step_all (ls := l) h) w hw
    rw [this, List.length_cons]
    omega
theorem words_len : ∀ (cs : List (List Nat)) {ws : List (List Nat)}, (∀ l ∈ cs, l.length ≤ 3) → (wordsV ws cs).length ≤ ws.length * 3 ^ cs.length
  | [], ws, _ => by simp [wordsV]
  | l :: r, ws, h => by
    have a := words_len r (ws := step ws l) fun m hm => h m (List.mem_cons_of_mem _ hm)
    rw [step_len] at a
    have b := h l List.mem_cons_self
    show (wordsV (step ws l) r).length ≤ _
    rw [List.length_cons, Nat.pow_succ]
    have c : ws.length * l.length * 3 ^ r.length ≤ ws.length * 3 * 3 ^ r.length := Nat.mul_le_mul_right _ (Nat.mul_le_mul_left _ b)
    have d : ws.length * 3 * 3 ^ r.length = ws.length * (3 ^ r.length * 3) := by rw [Nat.mul_assoc, Nat.mul_comm 3]
    omega
theorem flat2_words (ws : List (List Nat)) (l : List Nat) : ∀ n, n ≤ ws.length → flat2 (fun _ => chars (tx l)) (fun i m => D.str (tx (ws.getD i []) ++ chr1 (l.getD m 0))) n = wD (step (ws.take n) l)
  | 0, _ => by simp [flat2, step, wD]
  | n + 1, h => by
    have ih := flat2_words ws l n (by omega)
    unfold flat2
    rw [ih]
    have e : ws.take (n + 1) = ws.take n ++ [ws.getD n []] := by
      rw [List.take_add_one, List.getD_eq_getElem?_getD, List.getElem?_eq_getElem (by omega)]
      rfl
    rw [e]
    unfold step wD
    rw [List.flatMap_append, List.map_append]
    congr 1
    rw [signs_len, List.flatMap_cons, List.flatMap_nil, List.append_nil, List.map_map]
    have q := range_get l (fun a => D.str (tx (ws.getD n []) ++ chr1 a))
    rw [show ((List.range l.length).map fun m => D.str (tx (ws.getD n []) ++ chr1 (l.getD m 0))) = l.map fun a => D.str (tx (ws.getD n []) ++ chr1 a) from q]
    refine List.map_congr_left fun a _ => ?_
    show D.str (tx _ ++ tx [a]) = D.str (tx (_ ++ [a]))
    rw [tx_app]
def wordsR : FSpec := fun ds c o => ∃ (g : G) (cs : List (List Nat)), ds = [.lst g (wD cs)] ∧ cs.length ≤ 6 ∧ (∀ l ∈ cs, l.length ≤ 3) ∧ o = .val (.lst ⟨decide (cs.length = 0), true⟩ (wD (wordsV [[]] cs))) false c
theorem range_get {α β : Type} [Inhabited α] (l : List α) (f : α → β) {z : α} : ((List.range l.length).map fun i => f (l.getD i z)) = l.map f := by
  refine List.ext_getElem? fun i => ?_
  by_cases hi : i < l.length
  · simp [hi, List.getElem?_range]
  · simp [hi]
section
variable {P : Program} {w : World} {K : PySem.W.Frag} {mg : Str → Option Value} {base : Heap} {B Cn : Addr}
theorem ok_cnt {f : Addr} {fd : FuncData} (T : PosD P w K mg base) (Er : Err1 P w K mg base "BadCount" "given" Cn) (F : FunD K "check_count" "check_count" (defArgs (top 12)) (defBody (top 12)) (defScope (top 12)) [.int 6] [] f fd) : FnOk P w K mg base (L2.CX P w) 3 f fd ["many", "most"] (spF K (cntR Cn)) := by
  refine fn_excD F (N := ["many", "most"]) ⟨rfl, rfl, rfl, by decide +kernel, rfl, by decide +kernel, by decide +kernel⟩ (fun ds c o h => ?_) (fun cdv A outer s H E hr p ds c o h tk => ?_)
  · obtain ⟨d, rfl, _⟩ := h
    rfl
  · obtain ⟨d, rfl, fd', rfl⟩ := h
    cases h : posD d 7 with
    | true =>
      rw [if_pos rfl]
      exact .inr ⟨rfl, _, rss_cons (rs_if (kb := false) (rt_not (rt_val (re_c0 (d := .bl true) T hr (ra_cons (re_var 0) (ra_cons (re_bin op_add (re_var 1) re_int ov_ii) ra_nil)) ⟨d, 7, rfl, fd', by rw [← h]⟩))) (fun z => nomatch z) fun _ => rss_nil) rss_nil⟩
    | false =>
      rw [if_neg Bool.false_ne_true]
      exact rss_ex (rs_if (kb := true) (rt_not (rt_val (re_c0 (d := .bl false) T hr (ra_cons (re_var 0) (ra_cons (re_bin op_add (re_var 1) re_int ov_ii) ra_nil)) ⟨d, 7, rfl, fd', by rw [← h]⟩))) (fun _ => rss_ex (rs_raiseG rfl tk Er hr (re_var 0))) fun z => nomatch z)
abbrev nWords : List Str := ["choices", "words", "letters", "word", "letter"]
theorem scWords : FnScope nWords ["choices"] (defScope (top 17)) := ⟨rfl, rfl, rfl, by decide +kernel, rfl, by decide +kernel, by decide +kernel⟩
theorem ok_words {f : Addr} {fd : FuncData} (F : Fun K "_words" "_words" (top 17) f fd) : FnOk P w K mg base CX0 1 f fd ["choices"] (spF K wordsR) := by
  refine fn_val F scWords (fun ds c o h => ?_) (fun ds c o h => ?_) (fun cdv A outer s H E hr p ds c o h => ?_)
  · obtain ⟨g, cs, rfl, _⟩ := h
    rfl
  · obtain ⟨g, cs, _, _, _, rfl⟩ := h
    exact ⟨_, _, _, rfl⟩
  · obtain ⟨g, cs, rfl, h6, h3, rfl⟩ := h
    refine .inl ?_
    have lz : (wD cs).length = cs.length := by unfold wD; rw [List.length_map]
    have fin : (.lst ⟨decide (cs.length = 0), true⟩ (wD (wordsV [[]] cs)) : D) = .lst ⟨decide ((wD cs).length = 0), true⟩ (wD (wordsV [[]] (cs.take (wD cs).length))) := by rw [lz, List.take_length]
    rw [fin]
    have at' : ∀ {j : Nat} {d : D}, (wD cs)[j]? = some d → d = .str (tx (cs.getD j [])) ∧ j < cs.length := fun {j d} h => by
      unfold wD at h
      rw [List.getElem?_map] at h
      by_cases hj : j < cs.length
      · rw [List.getElem?_eq_getElem hj] at h
        rw [List.getD_eq_getElem?_getD, List.getElem?_eq_getElem hj]
        exact ⟨(Option.some.inj h).symm, hj⟩
      · rw [List.getElem?_eq_none (by omega)] at h
        cases h
    have loop := rs_for_all (X := (cxOf CX0 P w K mg base nWords "_words" (defScope (top 17)) f cdv A outer s H E).nox) (W := Wf) (p := p) (ρ := [some (.lst g (wD cs)), some (.lst ⟨decide (0 = 0), true⟩ (wD (wordsV [[]] (cs.take 0)))), none, none, none]) (c := c) (xs := wD cs) (vs := [2]) (g := gName 2) (tg := (match defBody (top 17) with | [_, .For a _ _ _ _, _] => a | _ => .Name "" ⟨0, 0, 0, 0⟩)) (it := (match defBody (top 17) with | [_, .For _ a _ _ _, _] => a | _ => .Name "" ⟨0, 0, 0, 0⟩)) (body := (match defBody (top 17) with | [_, .For _ _ a _ _, _] => a | _ => [])) (pos := (match defBody (top 17) with | [_, .For _ _ _ _ a, _] => a | _ => ⟨0, 0, 0, 0⟩))
      (fun j => [some (.lst g (wD cs)), some (.lst ⟨decide (j = 0), true⟩ (wD (wordsV [[]] (cs.take j)))), none, none, none]) (fun j => [some (.lst g (wD cs)), some (.lst ⟨decide (j = 0), true⟩ (wD (wordsV [[]] (cs.take j)))), some (.str (tx (cs.getD j []))), none, none]) (fun _ => c) PassesOwn.never rfl rfl (ri_lst (re_var 0)) (pg_name (i := 2) scWords.nd rfl (Or.inr rfl)) (fun j d h => ?_) (fun j d h => rss_less (ρ1 := [some (.lst g (wD cs)), some (.lst ⟨decide (j + 1 = 0), true⟩ (wD (wordsV [[]] (cs.take (j + 1))))), some (.str (tx (cs.getD j []))), none, none]) (rss_cons (rest := []) ?_ rss_nil) (by repeat (first | exact Less.nil | apply Less.same | apply Less.skip)))
    · exact rss_cons (rs_set 1 scWords.nd (re_lst (ra_cons re_str ra_nil) (by show 1 ≤ 100000; decide))) (rss_cons loop (rss_ret (rs_ret (re_var 1))))
    · obtain ⟨rfl, _⟩ := at' h
      exact tg_name (by decide)
    · obtain ⟨rfl, hj⟩ := at' h
      have wl := words_all (cs.take j) (ws := [[]]) (n := 0) (fun w hw => by rcases List.mem_cons.mp hw with rfl | hw; rfl; cases hw)
      have wn := words_len (cs.take j) (ws := [[]]) fun l hl => h3 l (List.mem_of_mem_take hl)
      generalize hws : wordsV [[]] (cs.take j) = ws at *
      have tj : (cs.take j).length ≤ 6 := by rw [List.length_take]; omega
      have wn' : ws.length ≤ 729 := by
        have : 3 ^ (cs.take j).length ≤ 3 ^ 6 := Nat.pow_le_pow_right (by decide) tj
        have e : (3 : Nat) ^ 6 = 729 := by decide
        simp only [List.length_cons, List.length_nil] at wn
        omega
      have l3 : (cs.getD j []).length ≤ 3 := h3 _ (by rw [List.getD_eq_getElem?_getD, List.getElem?_eq_getElem hj]; exact List.getElem_mem _)
      generalize hl : cs.getD j [] = l at *
      have wz : (wD ws).length = ws.length := by unfold wD; rw [List.length_map]
      have next : (.lst ⟨decide (j + 1 = 0), true⟩ (wD (wordsV [[]] (cs.take (j + 1)))) : D) = .lst ⟨false, true⟩ (flat2 (fun _ => chars (tx l)) (fun i m => D.str (tx (ws.getD i []) ++ chr1 (l.getD m 0))) (wD ws).length) := by
        rw [wz, flat2_words ws l _ (Nat.le_refl _), List.take_length]
        have e : cs.take (j + 1) = cs.take j ++ [l] := by
          rw [List.take_add_one, ← hl, List.getD_eq_getElem?_getD, List.getElem?_eq_getElem hj]
          rfl
        rw [e, wordsV_app, hws]
        rfl
      rw [next]
      have wat : ∀ {i : Nat} {d : D}, (wD ws)[i]? = some d → d = .str (tx (ws.getD i [])) ∧ (ws.getD i []).length ≤ 6 := fun {i d} h => by
        unfold wD at h
        rw [List.getElem?_map] at h
        by_cases hi : i < ws.length
        · rw [List.getElem?_eq_getElem hi] at h
          have m : ws.getD i [] ∈ ws := by
            rw [List.getD_eq_getElem?_getD, List.getElem?_eq_getElem hi]
            exact List.getElem_mem _
          refine ⟨?_, by rw [wl _ m]; omega⟩
          rw [List.getD_eq_getElem?_getD, List.getElem?_eq_getElem hi]
          exact (Option.some.inj h).symm
        · rw [List.getElem?_eq_none (by omega)] at h
          cases h
      refine rs_lc2 (W := Wf) (own := [("word", 3), ("letter", 4)]) (vs1 := [4]) (g := gName 3) (g1 := gName 4) 1 (fun _ => chars (tx l)) (fun i m => D.str (tx (ws.getD i []) ++ chr1 (l.getD m 0))) (fun i => [some (.lst g (wD cs)), some (.lst ⟨decide (j = 0), true⟩ (wD ws)), some (.str (tx l)), some (.str (tx (ws.getD i []))), none]) (fun i m => [some (.lst g (wD cs)), some (.lst ⟨decide (j = 0), true⟩ (wD ws)), some (.str (tx l)), some (.str (tx (ws.getD i []))), some (.str (chr1 (l.getD m 0)))]) true rfl scWords.nd (ri_lst (re_var 1)) (blkOk_by (N := nWords) (sc := defScope (top 17)) (by decide +kernel)) (by decide) (fun _ _ _ _ _ => pg_name (i := 3) scWords.nd rfl (Or.inl rfl)) (fun _ _ _ _ _ => pg_name (i := 4) scWords.nd rfl (Or.inl rfl)) (fun i d h q s H C cl fp => ri_str (re_var 2)) (fun i d h => ?_) (fun i m d e h h' => ?_) (fun i m d e h h' q s H C cl fp => ?_) (fun i m d h hm => ?_)
      · obtain ⟨rfl, _⟩ := wat h
        exact tg_name (by decide)
      · obtain ⟨rfl, _⟩ := signs_at h'
        exact tg_name (by decide)
      · obtain ⟨_, hw⟩ := wat h
        exact re_bin op_add_str (re_var 3) (re_var 4) (ov_addS (sz_le (by rw [tx_len]; show _ + 1 ≤ _; omega)))
      · have hi : i < ws.length := by have := (List.getElem?_eq_some_iff.mp h).1; rw [wz] at this; exact this
        rw [flat2_words ws l i (by omega)]
        unfold wD
        rw [List.length_map, step_len, List.length_take]
        rw [signs_len] at hm
        have : min i ws.length * l.length ≤ 729 * 3 := Nat.mul_le_mul (by omega) l3
        omega
def cntN : D → Nat
  | .int i => i.toNat
  | _ => 0
def allV (a : List Nat) (n : Nat) : D := .lst ⟨decide (n = 0), true⟩ (wD (wordsV [[]] (List.replicate n a)))
def allR (Cn : Addr) (a : List Nat) : FSpec := fun ds c o => ∃ d, ds = [d] ∧ Ty d ∧ o = if posD d 7 then .val (allV a (cntN d)) false c else .ex Cn [("given", d)] c
theorem rep_wD (a : List Nat) : ∀ n : Nat, (List.replicate n [D.str (tx a)]).flatten = wD (List.replicate n a)
  | 0 => rfl
  | n + 1 => by
    rw [List.replicate_succ, List.replicate_succ, List.flatten_cons, rep_wD a n]
    rfl
abbrev CntD (P : Program) (w : World) (K : PySem.W.Frag) (mg : Str → Option Value) (base : Heap) (Cn : Addr) := Def1D P w K mg base 3 "check_count" ["many", "most"] (cntR Cn) [.int 6]
abbrev WordsD (P : Program) (w : World) (K : PySem.W.Frag) (mg : Str → Option Value) (base : Heap) := Def0 P w K mg base 1 "_words" ["choices"] wordsR
abbrev AllD (P : Program) (w : World) (K : PySem.W.Frag) (mg : Str → Option Value) (base : Heap) (Cn : Addr) (x : Str) (a : List Nat) := Def1 P w K mg base 4 x ["many"] (allR Cn a)
theorem sixes {q : HD} {H : Hp} : DVs K q H [V.int 6] [D.int 6] := .cons (.int 6) .nil
theorem ok_inputs {f : Addr} {fd : FuncData} (TC : CntD P w K mg base Cn) (TW : WordsD P w K mg base) (F : Fun K "inputs" "inputs" (top 15) f fd) : FnOk P w K mg base (L2.CX P w) 4 f fd ["many"] (spF K (allR Cn bins)) := by
  refine fn_exc F (N := ["many"]) ⟨rfl, rfl, rfl, by decide +kernel, rfl, by decide +kernel, by decide +kernel⟩ (fun ds c o h => ?_) (fun cdv A outer s H E hr p ds c o h tk => ?_)
  · obtain ⟨d, rfl, _⟩ := h
    rfl
  · obtain ⟨d, rfl, fd', rfl⟩ := h
    cases h : posD d 7 with
    | false =>
      rw [if_neg Bool.false_ne_true]
      exact rss_ex (rs_exprX (re_c1D (es' := [.int 6]) tk TC hr (ra_cons (re_var 0) ra_nil) (fun q H => sixes) ⟨d, rfl, fd', by rw [h, if_neg Bool.false_ne_true]⟩))
    | true =>
      rw [if_pos rfl]
      refine .inl (rss_cons (rs_expr (re_c1D (es' := [.int 6]) (o := .val .non true c) tk TC hr (ra_cons (re_var 0) ra_nil) (fun q H => sixes) ⟨d, rfl, fd', by rw [h, if_pos rfl]⟩)) ?_)
      cases d with
      | int i =>
        obtain ⟨i0, i1⟩ := Bool.and_eq_true_iff.mp (show (decide (0 ≤ i) && decide (i < 7)) = true from h)
        have i0 := of_decide_eq_true i0
        have i1 := of_decide_eq_true i1
        refine rss_ret (rs_ret (re_c0 (ds := [.lst ⟨false, true⟩ (List.replicate i.toNat [D.str (tx bins)]).flatten]) TW (hr.mono (by decide)) (ra_cons (re_bin op_rep (re_lst (ra_cons re_str ra_nil) (by show 1 ≤ 100000; decide)) (re_var 0) (ov_rep rfl (by omega) (by omega) (by show 1 * _ ≤ _; omega))) ra_nil) ⟨⟨false, true⟩, List.replicate i.toNat bins, by rw [rep_wD], by rw [List.length_replicate]; omega, fun l hl => by rw [List.eq_of_mem_replicate hl]; decide, ?_⟩))
        rw [List.length_replicate]
        rfl
      | _ => cases h
end
end K56

/-! a tuple of ints that stands at the top: read, its index, in it -/
namespace LA
open PySem PySem.Spec PyProof.Rows L2
structure CTup (K : PySem.W.Frag) (mg : Str → Option Value) (x : Str) (ns : List Int) : Prop where
  ex : ∃ (T : Addr) (o : Obj) (its : Array Value) (n : Nat), mg x = some (.ref T) ∧ K.lookup T = some o ∧ o.cls = .type "tuple" ∧ o.dict = none ∧ o.data = .seq its n ∧ its.size ≤ sizeLine ∧ Vals (ns.map V.int) its.toList
theorem dvs_intsZ {K : PySem.W.Frag} {p : HD} {H : Hp} : ∀ ns : List Int, DVs K p H (ns.map V.int) (ns.map D.int)
  | [] => .nil
  | n :: r => .cons (.int n) (dvs_intsZ r)
section
variable {X : Cx} {W : WX} {p : HD} {ρ : Rho} {c c1 : PC} {e : Expr} {pos apos np : Pos} {x : Str} {ns : List Int} {k : Int} {nw : Bool}
theorem re_ctup (t : CTup X.K X.mg x ns) (hg : Gl X x := by rfl) (hd : (x == ("__debug__" : Str)) = false := by decide) : RE X W p ρ c (.Name x np) (.val (.tup (ns.map D.int)) false c) := by
  obtain ⟨T, o, its, n, h1, h2, h3, _, h5, h6, h7⟩ := t.ex
  exact pe_imp (pe_glob (v := .ref T) hg h1 rfl hd) fun σ H Q ⟨s, kk⟩ => kk (.ref T) H (Ext.refl p H) s.pl (.tup (.inr ⟨o, its, n, h2, h3, h5, h6, h7⟩) (dvs_intsZ ns)) fun z => nomatch z
theorem mt_tupIx : MtR X "tuple.index" (fun x xs H Q => ∃ (q : Addr) (ns : List Int) (k : Int), x = V.ref q ∧ xs = [V.int k] ∧ SqT X.K H q (ns.map V.int) ∧ k ∈ ns ∧ Q (.int (ns.idxOf k : Nat)) H) := by
  intro pins s σ H x xs v us Q I rx rs h
  obtain ⟨q, ns, k, rfl, rfl, hq, hk, fin⟩ := h
  cases rx
  obtain ⟨u, rfl, t, rfl⟩ := vals1 rs
  obtain ⟨its, r, pl, hz⟩ := I.tuple hq
  exact PySem.SeqAt.tuple_index_ints (vs := its) (show s.heap.IsTuple q its.toArray from pl) (ints_of_vals r) hk ⟨.int (ns.idxOf k : Nat), H, I.tok _, ⟨_, rfl⟩, fin⟩
theorem re_ctupIx (t : CTup X.K X.mg x ns) (he : RE X W p ρ c e (.val (.int k) nw c1)) (hk : k ∈ ns) (hg : Gl X x := by rfl) (hd : (x == ("__debug__" : Str)) = false := by decide)
    (hbase : attributeBase (.Name x np) "index" X.env (eval (.Name x np) X.env) = eval (.Name x np) X.env := by rfl)
    (hfew : ((backTo pos (starEach [e] X.env)).all (fun x => !x.1) && (backToKw pos (keywordEach [] X.env)).all (fun x => x.1.isSome) && decide (([e] : List Expr).length + ([] : List Keyword).length + (if ([] : List Keyword).isEmpty then 0 else 1) < 30)) = true := by rfl)
    (hline : (apos.endLine == pos.line) = true := by rfl) (hs : starEach [e] X.env = (false, eval e X.env) :: starEach [] X.env := by rfl) (hplain : (backTo pos (starEach [] X.env)).any (·.1) = false := by rfl) :
    RE X W p ρ c (.Call (.Attribute (.Name x np) "index" apos) [e] [] pos) (.val (.int (ns.idxOf k : Nat)) true c1) := by
  obtain ⟨T, o, its, n, h1, h2, h3, h4, h5, h6, h7⟩ := t.ex
  refine pe_imp (pe_bm PySem.F.plainAttrs_tuple PySem.F.slot_tuple_index (by first | rfl | (show builtinType _ = _; rw [builtinType_eq_fast]; kernel_rfl)) mt_tupIx (pe_glob (v := .ref T) hg h1 rfl hd) (ra_cons (W := W) he ra_nil hs) hbase hfew hline hs hplain) fun σ H Q ⟨s, kk⟩ => ?_
  refine ⟨.inr (.inl ⟨rfl, o, h2, h3, h4⟩), s, fun vs H1 e1 p1 dvs => ?_⟩
  cases dvs with
  | cons hv hr =>
    cases hr
    cases hv
    exact ⟨T, ns, k, rfl, rfl, .inr ⟨o, its, n, h2, h3, h5, h6, h7⟩, hk, kk _ H1 e1 p1 (.int _) fun _ => New.sc (by intro a z; cases z)⟩
end
end LA

/-! a walk over zip(a list, a text) -/
namespace LA
open PySem PySem.Spec PyProof.Rows L2
def ItZ (K : PySem.W.Frag) (a : Addr) (z : Str) : It :=
  ⟨fun i H => ∃ xs, SqL K H a xs ∧ i < min xs.length z.cps.size, fun i H v H' => ∃ T x, v = .ref T ∧ H T = none ∧ (∀ ys, SqL K H a ys → ys[i]? = some x) ∧ H' = L2.upd H T (.tup [x, sgn z i]), fun i H => ∃ xs, SqL K H a xs ∧ i = min xs.length z.cps.size⟩
section
variable {P : Program} {w : World} {K : PySem.W.Frag} {elts : List Expr} {kk : Nat} {tpos : Pos} {a it TI TO i1 i2 : Addr} {z : Str} {tz : Tok}
def zSt (it TI TO i1 i2 a : Addr) (z : Str) (tz : Tok) (i : Nat) (h : Heap) : Prop := IsZip h it TI TO .none ∧ IsTupOf2 h TI (.ref i1) (.ref i2) ∧ (∃ a1 a2, IsTupOf2 h TO a1 a2) ∧ h.IsListIter i1 a i ∧ h.IsStrIter i2 (strIterType z) z tz i
theorem turn_zLS (S : ZipSep2 it TI TO i1 i2 [i1, a] [i2]) (hne : a ≠ i1) : Turn P w K (.Tuple elts kk tpos) (ItZ K a z) [it, TI, TO, i1, i2] it (zSt it TI TO i1 i2 a z tz) where
  mem := List.mem_cons_self
  obj := fun i h st c hc => by
    obtain ⟨e1, e2, ⟨x, y, e3⟩, ⟨o4, q4, _, d4⟩, ⟨o5, q5, _, d5⟩⟩ := st
    have q : c = it ∨ c = TI ∨ c = TO ∨ c = i1 ∨ c = i2 := by simpa using hc
    rcases q with rfl | rfl | rfl | rfl | rfl
    · exact ⟨_, e1, fun v q => nomatch q⟩
    · exact ⟨_, e2, fun v q => nomatch q⟩
    · exact ⟨_, e3, fun v q => nomatch q⟩
    · exact ⟨o4, q4, fun v q => by rw [d4] at q; cases q⟩
    · exact ⟨o5, q5, fun v q => by rw [d5] at q; cases q⟩
  keep := fun i h h' st k => by
    obtain ⟨e1, e2, ⟨x, y, e3⟩, e4, ⟨o5, q5, c5, d5⟩⟩ := st
    exact ⟨k it (by simp) _ e1, k TI (by simp) _ e2, ⟨x, y, k TO (by simp) _ e3⟩, e4.at fun o e => k i1 (by simp) o e, ⟨o5, k i2 (by simp) o5 q5, c5, d5⟩⟩
  item := by
    intro X hP hw hK hc i pins s σ H E I hf st hg
    subst hP hw hK
    obtain ⟨xs, hq, hi⟩ := hg
    obtain ⟨its, rv, pl, _⟩ := I.list hq
    have el := rv.length
    have hh := I.ok.hd hc
    obtain ⟨e1, e2, e3, e4, e5⟩ := st
    have G := GoesN.zip2 (elts := elts) (x1 := kk) (pos := tpos) S (Draws.list (prog := X.prog) (w := X.w) (A := X.A.in1) hh i1 a hne its.toArray) (Draws.text (prog := X.prog) (w := X.w) (A := X.A.in1) hh i2 z tz)
    have hi' : i < min its.toArray.size z.cps.size := by
      rw [List.size_toArray, ← el]
      exact hi
    refine wpAny_mono (G.goes i s (fun v s₂ => ∃ x H', Inv X pins σ H' s₂ ∧ RelV x v ∧ (ItZ X.K a z).yld i H x H' ∧ zSt it TI TO i1 i2 a z tz (i + 1) s₂.heap ∧ ∀ b ∈ [it, TI, TO, i1, i2], H' b = none) E hi' ⟨e1, e2, e3, ⟨e4, pl.isList⟩, e5⟩ fun v h' tk hY st' hk _ => ?_) (fun r s1 ⟨v, e, q⟩ => ⟨v, e, q⟩) fun _ _ q => q
    obtain ⟨T, x, y, rfl, hT, px, py, ht⟩ := hY
    have hx : its[i]? = some x := by simpa using px
    have li : i < xs.length := Nat.lt_of_lt_of_le hi (Nat.min_le_left _ _)
    obtain ⟨x', hx', rx⟩ := rv.get (List.getElem?_eq_getElem li)
    obtain rfl : x' = x := Option.some.inj (hx'.symm.trans hx)
    have new : ObjOk X.prog X.w (L2.upd H T (.tup [xs[i], sgn z i])) h' T (.tup [xs[i], sgn z i]) := ⟨by show 2 ≤ sizeLine; decide, [x', y], .cons rx (.cons (sgn_of py) .nil), ht⟩
    have I1 := I.turnedNew (t' := tk) (ch := [it, TO, i1, i2]) hk (fun b hb => hf b (by
      have q : b = it ∨ b = TO ∨ b = i1 ∨ b = i2 := by simpa using hb
      rcases q with rfl | rfl | rfl | rfl <;> simp)) hT new
    obtain ⟨t1, t2, t3, t4, t5⟩ := st'
    refine ⟨.ref T, _, I1, rfl, ⟨T, xs[i], rfl, I.hok.fresh hT, fun ys hy => by rw [I.list_inj hy hq]; exact List.getElem?_eq_getElem li, rfl⟩, ⟨t1, t2, t3, t4.1, t5⟩, fun b hb => ?_⟩
    have lt : b < s.heap.objs.size := by
      obtain ⟨x3, y3, e3⟩ := e3
      obtain ⟨o4, q4, _⟩ := e4
      obtain ⟨o5, q5, _⟩ := e5
      have q : b = it ∨ b = TI ∨ b = TO ∨ b = i1 ∨ b = i2 := by simpa using hb
      rcases q with rfl | rfl | rfl | rfl | rfl
      · exact Heap.lt_size e1
      · exact Heap.lt_size e2
      · exact Heap.lt_size e3
      · exact Heap.lt_size q4
      · exact Heap.lt_size q5
    rw [upd_ne (Nat.ne_of_lt (Nat.lt_of_lt_of_le lt hT))]
    exact (hf b hb).1
  done := by
    intro X hP hw hK hc i pins s σ H E I hf st hg
    subst hP hw hK
    obtain ⟨xs, hq, hi⟩ := hg
    obtain ⟨its, rv, pl, _⟩ := I.list hq
    have el := rv.length
    have hh := I.ok.hd hc
    obtain ⟨e1, e2, e3, e4, e5⟩ := st
    have G := GoesN.zip2 (elts := elts) (x1 := kk) (pos := tpos) S (Draws.list (prog := X.prog) (w := X.w) (A := X.A.in1) hh i1 a hne its.toArray) (Draws.text (prog := X.prog) (w := X.w) (A := X.A.in1) hh i2 z tz)
    have ei : i = min its.toArray.size z.cps.size := by
      rw [List.size_toArray, ← el]
      exact hi
    subst ei
    refine wpAny_mono (G.stops s (fun s1 => Inv X pins σ H s1) E ⟨e1, e2, e3, ⟨e4, pl.isList⟩, e5⟩ fun h' tk hk _ => I.turnedL (ch := [it, TO, i1, i2]) hk fun b hb => hf b ?_) (fun r s1 q => q) fun _ _ q => q
    have q : b = it ∨ b = TO ∨ b = i1 ∨ b = i2 := by simpa using hb
    rcases q with rfl | rfl | rfl | rfl <;> simp
  self := fun A i s Q E st h => wpAny_pyIter_zip st.1 h
end
def iZLS (K : PySem.W.Frag) (ta : TA) : TI := fun σ H R => ta σ H fun vs H1 => ∃ (a : Addr) (z : Str) (xs : List V), vs = [.ref a, .str z] ∧ SqL K H1 a xs ∧ R (ItZ K a z) H1
theorem pi_zLS {X : Cx} {e e2 : Expr} {ta : TA} {p pos tpos : Pos} {elts : List Expr} {kk : Nat} (hg : Gl X "zip") (hm : X.mg "zip" = none) (ha : PA X [e, e2] ta)
    (hs : starEach [e, e2] X.env = (false, eval e X.env) :: starEach [e2] X.env) (hpl : (backTo pos (starEach [e2] X.env)).any (·.1) = false) : PI X (.Tuple elts kk tpos) (.Call (.Name "zip" p) [e, e2] [] pos) (iZLS X.K ta) := ⟨fun pins s σ H R I h => by
  refine Call_ (ld_blt I hg hm PyProof.Rows.boot_zip (PyProof.Rows.callWith_type1 (thn (ha.run pos pins s σ H _ I h) fun us s1 hu => ?_) hs hpl))
  obtain ⟨vs, H1, I1, r1, a, z, xs, rfl, hq, q⟩ := hu
  obtain ⟨u, u', rfl, ra, rz⟩ := vals2 r1
  cases ra
  obtain ⟨tz, rfl⟩ := rz
  obtain ⟨its, rv, pl, _⟩ := I1.list hq
  have la : a < s1.heap.objs.size := by
    obtain ⟨o, ho, _⟩ := pl.isList
    exact Heap.lt_size ho
  let N := s1.heap.objs.size
  refine zip_begins2 (begins_list a its.toArray) (begins_text z tz) pl.isList trivial fun h' hz hTI hTO o1 o2 hsz hk => wpAny_pyIter_zip hz ?_
  have I2 : Inv X pins σ H1 { s1 with heap := h' } := I1.kept (t' := s1.toks) hk
  have S : ZipSep2 (N + 4) (N + 2) (N + 3) N (N + 1) [N, a] [N + 1] := zip_sep2 (N := N) (fp1 := [a]) (fp2 := []) (fun b hb => by
    rw [List.mem_singleton.mp hb]
    exact la) (fun b hb => nomatch hb)
  refine ⟨N + 4, [N + 4, N + 2, N + 3, N, N + 1], _, _, H1, rfl, I2, turn_zLS S (Nat.ne_of_lt la) (tz := tz), ⟨hz, hTI, ⟨_, _, hTO⟩, ⟨_, o1, rfl, rfl⟩, ⟨_, o2, rfl, rfl⟩⟩, fun c hc => ?_, q⟩
  have hle : N ≤ c := by
    have e : c = N + 4 ∨ c = N + 2 ∨ c = N + 3 ∨ c = N ∨ c = N + 1 := by simpa using hc
    rcases e with e | e | e | e | e
    · rw [e]; exact Nat.le_add_right _ _
    · rw [e]; exact Nat.le_add_right _ _
    · rw [e]; exact Nat.le_add_right _ _
    · rw [e]; exact Nat.le_refl _
    · rw [e]; exact Nat.le_add_right _ _
  exact I1.fpOk hle (I1.hok.fresh hle)⟩
/-- pairs of an item and a sign -/
def zipLS (xs : List D) (z : Str) : List D := (List.range (min xs.length z.cps.size)).map fun i => D.tup [xs.getD i .non, .str ⟨#[z.cps.toList.getD i 0]⟩]
theorem zipLS_at {xs : List D} {z : Str} {i : Nat} {d : D} (h : (zipLS xs z)[i]? = some d) : i < min xs.length z.cps.size ∧ d = D.tup [xs.getD i .non, .str ⟨#[z.cps.toList.getD i 0]⟩] := by
  have l := (List.getElem?_eq_some_iff.mp h).1
  unfold zipLS at h l
  rw [List.length_map, List.length_range] at l
  rw [List.getElem?_map, List.getElem?_range l] at h
  exact ⟨l, (Option.some.inj h).symm⟩
section
variable {X : Cx} {W : WX} {p : HD} {ρ : Rho} {c c1 : PC} {e e2 : Expr} {pos : Pos}
theorem ri_zLS {ps tpos : Pos} {elts : List Expr} {kk : Nat} {g : LA.G} {xs : List D} {z : Str} (hm : X.mg "zip" = none) (h : RA X W p ρ c [e, e2] (.val [.lst g xs, .str z] c1)) (hg : Gl X "zip" := by rfl)
    (hs : starEach [e, e2] X.env = (false, eval e X.env) :: starEach [e2] X.env := by rfl) (hpl : (backTo pos (starEach [e2] X.env)).any (·.1) = false := by rfl) :
    RI X W p ρ c (.Tuple elts kk tpos) (.Call (.Name "zip" ps) [e, e2] [] pos) (zipLS xs z) c1 :=
  pi_imp (pi_zLS hg hm h hs hpl) fun σ H R ⟨s, k⟩ => ⟨s, fun vs H1 e1 p1 dvs => by
    match vs, dvs with
    | _, .cons (.lst (a := a) (xs := ws) hb hq r) (.cons (.str _) .nil) =>
      refine ⟨a, z, ws, rfl, un_sqL hq, k _ H1 e1 p1 fun q c' H2 qe qs p2 => ?_⟩
      have hq2 : SqL X.K H2 a ws := un_sqL (qs.sqL hq)
      have len : (zipLS xs z).length = min ws.length z.cps.size := by
        unfold zipLS
        rw [List.length_map, List.length_range, r.length]
      refine ⟨⟨ws, hq2, len⟩, fun i d hd => ?_⟩
      obtain ⟨li, rfl⟩ := zipLS_at hd
      refine ⟨⟨ws, hq2, by rw [r.length]; exact li⟩, fun x H3 y => ?_⟩
      obtain ⟨T, w, rfl, hT, hw, rfl⟩ := y
      have lx : i < xs.length := Nat.lt_of_lt_of_le li (Nat.min_le_left _ _)
      obtain ⟨v, h1, h2⟩ := r.get (List.getElem?_eq_getElem lx)
      obtain rfl : w = v := Option.some.inj ((hw ws hq2).symm.trans h1)
      have ex : xs.getD i .non = xs[i] := by
        rw [List.getD_eq_getElem?_getD, List.getElem?_eq_getElem lx]
        rfl
      rw [ex]
      exact ⟨Ext.new hT, p2.upd hT, .tup (.inl (.inl (hide_upd p2 hT))) (.cons ((h2.sub qs (fun i b zz => by rw [qe]; exact zz)).mono (Ext.new hT)) (.cons (.str _) .nil))⟩⟩
end
end LA

/-! two lists of flat items that are alike -/
namespace LA
open PySem PySem.Spec PyProof.Rows L2
section
variable {K : PySem.W.Frag} {p : HD} {c : PC}
theorem flat_self {ds : List D} (e : ds.all flatOk = true) : PyData.eqv (.list (toPys ds)) (.list (toPys ds)) = true := by
  refine PySem.SeqAt.eqv_refl _ ?_
  unfold PyData.canLay0
  exact (flat_lay e).1
theorem lst_dp {v : V} {H : Hp} {g : G} {ds : List D} (dv : DV K p H v (.lst g ds)) (e : ds.all flatOk = true) : Dp K H v (.list (toPys ds)) := by
  cases dv with
  | lst _ hq r => exact .lst (un_sqL hq) (dps_of r e)
theorem ov_neSelf {g g2 : G} {ds : List D} (e : ds.all flatOk = true) : OV K p (rNeD K) (.lst g ds) (.lst g2 ds) (.bl false) true c := fun v u H Q dv du hp k => by
  refine ⟨_, _, lst_dp dv e, lst_dp du e, shaped_flat e, shaped_flat e, ?_⟩
  rw [flat_self e]
  exact k _ H (Ext.refl p H) hp (.bl _) fun _ => New.sc (by intro a h; cases h)
theorem ov_eqSelf {g g2 : G} {ds : List D} (e : ds.all flatOk = true) : OV K p (rEqD K) (.lst g ds) (.lst g2 ds) (.bl true) true c := fun v u H Q dv du hp k => by
  refine ⟨_, _, lst_dp dv e, lst_dp du e, shaped_flat e, shaped_flat e, ?_⟩
  rw [flat_self e]
  exact k _ H (Ext.refl p H) hp (.bl _) fun _ => New.sc (by intro a h; cases h)
end
end LA

/-! what the head leaves of a class, of defaults, of a tuple at the top -/
namespace LA
open PySem PySem.Spec PyProof.Rows L2
/-- a def with one default, an int -/
structure Gd (K : PySem.W.Frag) (x : Str) (st : Stmt) (i : Int) : Prop where
  ex : ∃ f fd, PySem.W.nsIn K mainGlobals x = some (some (.ref f)) ∧ FunD K x x (defArgs st) (defBody st) (defScope st) [.int i] [] f fd
theorem gd_mk {K : PySem.W.Frag} {x : Str} {st : Stmt} {i : Int} {f T : Addr} {oc kV dc pm cd ct oc2 : Value} {od an od2 : Option Addr} {sl sl2 : Array (Option Value)} {tk : Tok} {n : Nat} (a : PySem.W.nsIn K mainGlobals x = some (some (.ref f)))
    (l : K.lookup f = some ⟨oc, od, .func (PySem.W.fnOf x x (defArgs st) (defBody st) (defScope st) (.ref T) kV dc pm an cd ct), sl⟩) (lT : K.lookup T = some ⟨oc2, od2, .seq #[.int i tk] n, sl2⟩) (c : PySem.W.codeIn K cd x = true) (k : PySem.W.keepIn K (.ref f) = true) : Gd K x st i :=
  ⟨⟨f, _, a, ⟨⟨oc, od, .ref T, kV, dc, pm, an, cd, ct, sl, rfl, l, c, .inr ⟨by simp, T, _, [.int i tk], n, rfl, lT, rfl, .cons ⟨tk, rfl⟩ .nil⟩, .inl rfl⟩, k⟩⟩⟩
/-- a method -/
structure Gm (K : PySem.W.Frag) (C : Addr) (m q : Str) (st : Stmt) : Prop where
  ex : ∃ f fd, PySem.W.findIn K (.ref C) m = some (some (.ref f)) ∧ PySem.W.isFn K (.ref f) = true ∧ PySem.W.fnIn K f = true ∧ Fun K m q st f fd
theorem gm_mk {K : PySem.W.Frag} {C : Addr} {m q : Str} {st : Stmt} {f : Addr} {oc kV dc pm cd ct : Value} {od an : Option Addr} {sl : Array (Option Value)} (a : PySem.W.findIn K (.ref C) m = some (some (.ref f))) (i : PySem.W.isFn K (.ref f) = true)
    (l : K.lookup f = some ⟨oc, od, .func (PySem.W.fnOf m q (defArgs st) (defBody st) (defScope st) .none kV dc pm an cd ct), sl⟩) (c : PySem.W.codeIn K cd q = true) (k : PySem.W.keepIn K (.ref f) = true) : Gm K C m q st :=
  ⟨f, _, a, i, by unfold PySem.W.fnIn; rw [l], fun_mk l c k⟩
/-- a property -/
structure Gp (K : PySem.W.Frag) (C : Addr) (m q : Str) (st : Stmt) : Prop where
  ex : ∃ p g fd, PropOf K C m p g ∧ Fun K m q st g fd
theorem gp_mk {K : PySem.W.Frag} {C : Addr} {m q : Str} {st : Stmt} {p g : Addr} {rest : List Value} {oc kV dc pm cd ct : Value} {od an : Option Addr} {sl : Array (Option Value)} (a : PySem.W.findIn K (.ref C) m = some (some (.ref p))) (s : PySem.W.specialIn K (.ref p) "__get__" = some (some (.builtin "property.__get__"))) (t : PySem.W.takesIn K (.ref p) = some true) (r : PySem.W.recIn K p "property" = some (.ref g :: rest))
    (l : K.lookup g = some ⟨oc, od, .func (PySem.W.fnOf m q (defArgs st) (defBody st) (defScope st) .none kV dc pm an cd ct), sl⟩) (c : PySem.W.codeIn K cd q = true) (k : PySem.W.keepIn K (.ref g) = true) : Gp K C m q st :=
  ⟨p, g, _, ⟨a, s, t, rest, r⟩, fun_mk l c k⟩
/-- a class -/
structure Gc (K : PySem.W.Frag) (x q : Str) (st : Stmt) (C : Addr) : Prop where
  ns : PySem.W.nsIn K mainGlobals x = some (some (.ref C))
  cl : Cls K C
  ini : ∃ f fd, Mk K C f ∧ Fun K "__init__" q st f fd
theorem gc_mk {K : PySem.W.Frag} {x q : Str} {st : Stmt} {C f : Addr} {oc kV dc pm cd ct : Value} {od an : Option Addr} {sl : Array (Option Value)} (ns : PySem.W.nsIn K mainGlobals x = some (some (.ref C)))
    (pg : PySem.W.plainGet K C Str.empty = true) (hd : PySem.W.hasDictIn K C = true) (po : PySem.W.plainOver K C = true) (sa : PySem.W.findIn K (.ref C) "__setattr__" = some (some (.builtin "object.__setattr__"))) (mk : PySem.W.makesIn K C = true) (a : PySem.W.findIn K (.ref C) "__init__" = some (some (.ref f))) (i : PySem.W.isFn K (.ref f) = true) (kc : PySem.W.keepIn K (.ref C) = true)
    (l : K.lookup f = some ⟨oc, od, .func (PySem.W.fnOf "__init__" q (defArgs st) (defBody st) (defScope st) .none kV dc pm an cd ct), sl⟩) (c : PySem.W.codeIn K cd q = true) (k : PySem.W.keepIn K (.ref f) = true) : Gc K x q st C :=
  ⟨ns, ⟨pg, hd, po, sa⟩, f, _, ⟨mk, a, i, kc⟩, fun_mk l c k⟩
theorem kit_self {K : PySem.W.Frag} {C : Addr} : PySem.W.kitOne K (.ref C) (.ref C) = some true := by
  unfold PySem.W.kitOne
  rw [if_pos (by simp)]
/-- isinstance, == and != of its objects -/
structure Gi (K : PySem.W.Frag) (C : Addr) : Prop where
  ha : PySem.W.findIn K (.ref C) "__class__" = some (some (.builtin "object.__class__"))
  hn : PySem.W.specialIn K (.builtin "object.__class__") "__get__" = some (some (.builtin "getset_descriptor.__get__"))
  htk : PySem.W.takesIn K (.builtin "object.__class__") = some true
  hm : PySem.W.mroIn K C (.type "object") = some true
  ic : PySem.W.isClsIn K C = true
  ty : PySem.W.typeIn K (.ref C) = some (.type "type")
theorem Gi.ins {K : PySem.W.Frag} {C : Addr} (g : Gi K C) (c : Cls K C) : C8.InsC K C := ⟨c, g.ha, g.hn, g.htk, g.hm, kit_self⟩
theorem gi_mk {K : PySem.W.Frag} {C : Addr} (ha : PySem.W.findIn K (.ref C) "__class__" = some (some (.builtin "object.__class__"))) (hn : PySem.W.specialIn K (.builtin "object.__class__") "__get__" = some (some (.builtin "getset_descriptor.__get__"))) (htk : PySem.W.takesIn K (.builtin "object.__class__") = some true) (hm : PySem.W.mroIn K C (.type "object") = some true) (ic : PySem.W.isClsIn K C = true) (ty : PySem.W.typeIn K (.ref C) = some (.type "type")) : Gi K C := ⟨ha, hn, htk, hm, ic, ty⟩
/-- a tuple of ints at the top -/
theorem ct_mk {K : PySem.W.Frag} {x : Str} {T : Addr} {its : Array Value} {n : Nat} {sl : Array (Option Value)} {ns : List Int} (a : PySem.W.nsIn K mainGlobals x = some (some (.ref T))) (l : K.lookup T = some ⟨.type "tuple", none, .seq its n, sl⟩) (z : its.size ≤ sizeLine) (v : Vals (ns.map V.int) its.toList) :
    ∃ (T : Addr) (o : Obj) (its : Array Value) (n : Nat), PySem.W.nsIn K mainGlobals x = some (some (.ref T)) ∧ K.lookup T = some o ∧ o.cls = .type "tuple" ∧ o.dict = none ∧ o.data = .seq its n ∧ its.size ≤ sizeLine ∧ Vals (ns.map V.int) its.toList := ⟨T, _, its, n, a, l, rfl, rfl, rfl, z, v⟩
theorem ctup {K : PySem.W.Frag} {h : Heap} {mg : Str → Option Value} {x : Str} {ns : List Int} (X : K.In h) (G : h.Ns mainGlobals mg) (e : ∃ (T : Addr) (o : Obj) (its : Array Value) (n : Nat), PySem.W.nsIn K mainGlobals x = some (some (.ref T)) ∧ K.lookup T = some o ∧ o.cls = .type "tuple" ∧ o.dict = none ∧ o.data = .seq its n ∧ its.size ≤ sizeLine ∧ Vals (ns.map V.int) its.toList) : CTup K mg x ns := by
  obtain ⟨T, o, its, n, a, l, c, d, s, z, v⟩ := e
  exact ⟨T, o, its, n, PySem.W.mg_of X G a, l, c, d, s, z, v⟩
theorem notF {K : PySem.W.Frag} {C : Addr} {t : String} (h : PySem.W.subIn K (.type t) (.ref C) = some false) : PySem.W.notFirst K C (.type t) = true := by
  unfold PySem.W.notFirst
  rw [h]
  cases (Value.type t == Value.ref C) <;> rfl
theorem kit_of {K : PySem.W.Frag} {C : Addr} {t : String} {b : Bool} (i : PySem.W.isClsIn K C = true) (ty : PySem.W.typeIn K (.ref C) = some (.type "type")) (s : PySem.W.subIn K (.type t) (.ref C) = some b) : PySem.W.kitOne K (.type t) (.ref C) = some b := by
  unfold PySem.W.kitOne
  rw [if_neg (by simp)]
  unfold PySem.W.kitCls
  have i' : (PySem.W.clsIn K C).isSome = true := i
  show (if _ then _ else _) = _
  rw [if_pos (by rw [i', ty]; rfl), s]
theorem vi_nil : Vals (([] : List Int).map V.int) ([] : List Value) := .nil
theorem vi_cons {i : Int} {t : Tok} {ns : List Int} {us : List Value} (h : Vals (ns.map V.int) us) : Vals ((i :: ns).map V.int) (.int i t :: us) := .cons ⟨t, rfl⟩ h
theorem fac {p : Prop} (h : p) : p := h
end LA

/-! methods with keywords; what is assigned raises; error classes of two fields -/
namespace LA
open PySem PySem.Spec PyProof.Rows L2
section
variable {X : Cx} {W : WX} {p : HD} {ρ ρ1 : Rho} {c c1 c2 c3 : PC} {e a b : Expr} {es : List Expr} {pos apos : Pos} {d d1 d2 : D} {n1 n2 nw : Bool} {o o' : EO}
variable {CX : CXT} {k : Nat} {f C g : Addr} {fd : FuncData} {ps : List Str} {R : FSpec} {x m : Str} {xp : Pos} {ds : List D} {fs : List (Str × D)} {sp : Sp}
theorem rs_setX {i : Nat} {x : Str} {pos' : Pos} {C : Addr} {fs : List (Str × D)} (hN : X.N.Nodup) (h : RE X W p ρ c e (.ex C fs c1)) (hi : X.N[i]? = some x := by rfl) (hx : Loc X.env.scope x := by first | exact Or.inl rfl | exact Or.inr rfl) (hs : swapsWith e (some (.Name x pos')) pos.line X.env = pure false := by rfl)
    (hf : X.fn x = true ∨ X.env.scope.names.lookup x = some .local := by first | exact .inl rfl | exact .inr rfl) : RS X W p ρ c (.Assign [.Name x pos'] e pos) (.ex C fs c1) :=
  ps_imp (ps_set hN hi hx h hs hf) fun De σ H q => tS_ex q _
/-- x, y = a, b -/
theorem rs_par (i j : Nat) {x y : Str} {px py pt pt2 : Pos} {kt k2 : Nat} (hc : X.calm = true) (hN : X.N.Nodup) (ha : RA X W p ρ c [a, b] (.val [d1, d2] c1)) (hij : i ≠ j := by decide) (hi : X.N[i]? = some x := by rfl) (hj : X.N[j]? = some y := by rfl) (hx : X.env.scope.names.lookup x = some .local := by rfl) (hy : X.env.scope.names.lookup y = some .local := by rfl)
    (hw : swappedStores [.Tuple [.Name x px, .Name y py] kt pt] (.Tuple [a, b] k2 pt2) X.env = pure (some [x, y]) := by rfl) (hs : swapsWithSole [.Tuple [.Name x px, .Name y py] kt pt] (.Tuple [a, b] k2 pt2) pos.line X.env = pure false := by rfl) :
    RS X W p ρ c (.Assign [.Tuple [.Name x px, .Name y py] kt pt] (.Tuple [a, b] k2 pt2) pos) (.nx ((ρ.set i (some d1)).set j (some d2)) c1) :=
  ps_imp (ps_par hc hN hi hj hij hx hy ha hw hs) fun De σ H ⟨s, k⟩ => ⟨s, fun vs H1 e1 p1 dvs => by
    cases dvs with
    | cons h1 r =>
      cases r with
      | cons h2 r =>
        cases r
        exact ⟨_, _, rfl, k _ H1 e1 (((s.mono e1 p1).set i h1).set j h2)⟩⟩
/-! o.m(k = v) -/
def tMethKS (m : Str) (C : Addr) (n : Nat) (sp : Sp) (gV : List V → List V → List V) (E : L2.St → XK) (ta : TE) (tk : TA) : TE := fun σ H Q => ta σ H fun x H1 => ∃ y dx fv, x = .ref y ∧ H1 y = some (.ins C dx fv) ∧ fv.lookup m = none ∧ tk σ H1 fun zs H2 => zs.length = n ∧ sp (gV [x] zs) H2 Q (E σ)
theorem pe_methKS0 {ks : List Str} {gL : List Value → List Value → List Value} {gV : List V → List V → List V} {pl : Sem Bool} {E : L2.St → XK} {ta : TE} {kws : List Keyword} {tk : TA} (ha : PE X a ta) (cl : Cls X.K C) (hm : Meth X.K C m g) (F : FnOk X.prog X.w X.K X.mg X.base CX k g fd ps sp) (hr : Room k X.A) (hb : KBn X.K fd ps 1 ks gL gV) (hx : ∀ σ, PassesAt CX X σ (E σ))
    (hkw : PK X kws tk) (hall : (backToKw pos (keywordEach kws X.env)).all (·.1.isSome) = true) (hks : (backToKw pos (keywordEach kws X.env)).filterMap (·.1) = ks)
    (ht : eval (.Call (.Attribute a m apos) [] kws pos) X.env = (do
      let ov ← eval a X.env
      standAt apos.atName
      let (f, first) ← holding [ov] (getMethod ov m pl)
      callWith pos f first (backTo pos (starEach [] X.env)) (backToKw pos (keywordEach kws X.env))))
    (hpl : ((backTo pos (starEach [] X.env)).any (·.1) || (backToKw pos (keywordEach kws X.env)).any (·.1.isNone)) = false) :
    PE X (.Call (.Attribute a m apos) [] kws pos) (tMethKS m C ks.length sp gV E ta tk) := ⟨fun pins s σ H Q I h =>
  PySem.W.methodCall_KW (pl := pl) (thn (ha.run pins s σ H _ I h) fun u s1 ⟨x, H1, I1, rx, y, dx, fv, ex, ey, l, q⟩ => by
    subst ex
    obtain rfl : u = Value.ref y := rx
    refine getmeth_ok I1 ey cl hm l (PySem.W.callWith_KW0 (first := [.ref y]) (h₀ := X.base) I.ok.mod.kin hm.kp hall (thn (hkw.run pos pins s1 σ H1 _ I1 q) fun ws s2 ⟨zs, H2, I2, rz, l2, q2⟩ => ⟨I2.kIn, ?_⟩) hpl)
    rw [hks]
    exact run_fnKS (us := [.ref y]) (vs := [.ref y]) F hr hb (hx σ) I2 (.cons rfl .nil) rz rfl l2 q2) ht⟩
theorem re_methK0 {ks : List Str} {gL : List Value → List Value → List Value} {gV : List V → List V → List V} {pl : Sem Bool} {kws : List Keyword} {zs : List D} (tk : Takes X W) (G : FnOk X.prog X.w X.K X.mg X.base (L2.CX X.prog X.w) k g fd ps (spF X.K R)) (hr : Room k X.A) (hb : KBn X.K fd ps 1 ks gL gV) (ha : RE X W p ρ c a (.val (.obj C fs) nw c1)) (cl : Cls X.K C) (hm : Meth X.K C m g) (hn : fs.lookup m = none)
    (hkw : RK X W p ρ c1 kws (.val zs c2)) (hl : zs.length = ks.length) {gD : List D} (hg : ∀ {H : Hp} {vs us : List V}, DVs X.K p H vs [.obj C fs] → DVs X.K p H us zs → DVs X.K p H (gV vs us) gD) (ho : R gD c2 o)
    (ht : eval (.Call (.Attribute a m apos) [] kws pos) X.env = (do
      let ov ← eval a X.env
      standAt apos.atName
      let (f, first) ← holding [ov] (getMethod ov m pl)
      callWith pos f first (backTo pos (starEach [] X.env)) (backToKw pos (keywordEach kws X.env))) := by rfl)
    (hall : (backToKw pos (keywordEach kws X.env)).all (·.1.isSome) = true := by rfl) (hks : (backToKw pos (keywordEach kws X.env)).filterMap (·.1) = ks := by rfl)
    (hpl : ((backTo pos (starEach [] X.env)).any (·.1) || (backToKw pos (keywordEach kws X.env)).any (·.1.isNone)) = false := by rfl) :
    RE X W p ρ c (.Call (.Attribute a m apos) [] kws pos) o :=
  pe_imp (pe_methKS0 ha cl hm G hr hb (fun σ => passAt tk σ) hkw hall hks ht hpl) fun σ H Q h => ⟨tE_sr h, fun v H1 e1 p1 dv _ => by
    cases dv with
    | obj hh r =>
      refine ⟨_, _, _, rfl, (hide_some hh).1, DVf.gone r hn, (tE_sr h).mono e1 p1, fun us H2 e2 p2 dvs => ⟨by rw [dvs.length]; exact hl, p, c2, gD, o, hg (.cons ((DV.obj hh r).mono e2) .nil) dvs, p2, ho, fo_at h (e1.trans e2)⟩⟩⟩
/-! ### error classes of two fields -/
structure Err2 (P : Program) (w : World) (K : PySem.W.Frag) (mg : Str → Option Value) (base : Heap) (x f g : Str) (C : Addr) : Prop where
  ox : OexC K C
  xf : XfC K C
  no : PySem.W.findIn K (.ref C) f = some none
  no2 : PySem.W.findIn K (.ref C) g = some none
  ini : ∃ i fd pn pm, PySem.W.findIn K (.ref C) "__init__" = some (some (.ref i)) ∧ PySem.W.typeIn K (.ref i) = some (.type "function") ∧ FnOk P w K mg base CX0 1 i fd ["self", pn, pm] (spIni2 K f g) ∧ Binds K fd ["self", pn, pm] []
  mg : mg x = some (.ref C)
theorem rs_raiseG2 {e2 : Expr} {pos2 : Pos} {x f g : Str} {C : Addr} (hc : X.calm = true) (tk : Takes X W) (E : Err2 X.prog X.w X.K X.mg X.base x f g C) (hr : Room 2 X.A) (he : RE X W p ρ c e (.val d n1 c1)) (he2 : RE X W p ρ c1 e2 (.val d2 n2 c2)) (hg : Gl X x := by rfl)
    (hdb : (x == ("__debug__" : Str)) = false := by decide) (hs : starEach (e :: [e2]) X.env = (false, eval e X.env) :: starEach [e2] X.env := by rfl) (hs2 : starEach (e2 :: []) X.env = (false, eval e2 X.env) :: starEach [] X.env := by rfl) (hpl : (backTo pos (starEach [e2] X.env)).any (·.1) = false := by rfl) :
    RS X W p ρ c (.Raise (some (.Call (.Name x xp) [e, e2] [] pos)) none pos2) (.ex C [(g, d2), (f, d)] c2) := by
  obtain ⟨i, fd, pn, pm, h1, h2, h3, h4⟩ := E.ini
  exact rs_raise2 hc tk E.ox E.no E.no2 h1 h2 h3 hr h4 E.mg he he2 hg hdb hs hs2 hpl
end
section
variable {P : Program} {w : World} {K : PySem.W.Frag} {mg : Str → Option Value} {base h : Heap} {x : Str} {st : Stmt}
theorem err2 {q f g pn pm : Str} {C : Addr} {q1 q2 q3 q4 r1 r2 r3 r4 : Pos} (X : K.In h) (G : h.Ns mainGlobals mg) (ge : Ge K x q st C) (no : PySem.W.findIn K (.ref C) f = some none) (no2 : PySem.W.findIn K (.ref C) g = some none) (S : FnScope ["self", pn, pm] ["self", pn, pm] (defScope st))
    (hb : defBody st = [.Assign [.Attribute (.Name "self" q1) f q2] (.Name pn q3) q4, .Assign [.Attribute (.Name "self" r1) g r2] (.Name pm r3) r4])
    (h1 : (pn == ("__debug__" : Str)) = false) (h2 : (pn == ("__classdict__" : Str)) = false) (h3 : (pm == ("__debug__" : Str)) = false) (h4 : (pm == ("__classdict__" : Str)) = false)
    (hbd : ∀ (kV doc pm' : Value) (an : Option Addr) (cdv ct : Value) (us : List Value), us.length = (["self", pn, pm] : List Str).length → bindArgs (PySem.W.fnOf "__init__" q (defArgs st) (defBody st) (defScope st) .none kV doc pm' an cdv ct) ⟨us, []⟩ = pure ((["self", pn, pm] : List Str).zip us)) : Err2 P w K mg base x f g C := by
  obtain ⟨f1, fd, i1, t1, F⟩ := ge.ini
  exact ⟨ge.ox, ge.xf, no, no2, ⟨f1, fd, pn, pm, i1, t1, ok_ini2 F S hb h1 h2 h3 h4, F.binds hbd⟩, PySem.W.mg_of X G ge.ns⟩
theorem kbn_of {x q : Str} {st : Stmt} {f : Addr} {fd : FuncData} {ps : List Str} {n : Nat} {ks : List Str} {g : List Value → List Value → List Value} {gV : List V → List V → List V} (F : Fun K x q st f fd)
    (hb : ∀ (kV doc pm : Value) (an : Option Addr) (cdv ct : Value) (us ws : List Value), us.length = n → ws.length = ks.length → bindArgs (PySem.W.fnOf x q (defArgs st) (defBody st) (defScope st) .none kV doc pm an cdv ct) ⟨us, ks.zip ws⟩ = pure (ps.zip (g us ws)))
    (hv : ∀ {vs : List V} {us : List Value} {zs : List V} {ws : List Value}, Vals vs us → Vals zs ws → Vals (gV vs zs) (g us ws)) : KBn K fd ps n ks g gV := by
  refine ⟨fun s us ws _ h1 h2 => ?_, hv⟩
  obtain ⟨oc, od, kV, doc, pm, an, cdv, ct, osl, rfl, _⟩ := F.ex
  exact .of_eq (hb kV doc pm an cdv ct us ws h1 h2)
theorem vals_app : ∀ {vs : List V} {us : List Value} {zs : List V} {ws : List Value}, Vals vs us → Vals zs ws → Vals (vs ++ zs) (us ++ ws)
  | _, _, _, _, .nil, h => h
  | _, _, _, _, .cons a r, h => .cons a (vals_app r h)
end
end LA

/-! trees of tuples; three names at once; f-strings; a loop whose turn raises -/
namespace LA
open PySem PySem.Spec PyProof.Rows L2
inductive Tr where
  | leaf (i : Int)
  | node (p : Int) (l r : Tr)
def trD : Tr → D
  | .leaf i => .int i
  | .node p l r => .tup [.int p, trD l, trD r]
def nodes : Tr → Nat
  | .leaf _ => 0
  | .node _ l r => nodes l + nodes r + 1
def okT (n : Int) : Tr → Bool
  | .leaf i => decide (0 ≤ i) && decide (i < 2)
  | .node p l r => (decide (0 ≤ p) && decide (p < n)) && (okT n l && okT n r)
theorem tr_ty (t : Tr) : ∃ y, tyD (trD t) = some y := by
  cases t <;> exact ⟨_, rfl⟩
theorem tr_low (n : Nat) : ∀ t : Tr, lowD n (trD t) = true
  | .leaf _ => rfl
  | .node _ l r => by
    show (true && (lowD n (trD l) && (lowD n (trD r) && true))) = true
    rw [tr_low n l, tr_low n r]
    rfl
section
variable {X : Cx} {W : WX} {p : HD} {ρ ρ1 : Rho} {c c1 c2 c3 : PC} {e a b tg it : Expr} {es : List Expr} {pos apos : Pos} {d d1 d2 d3 : D} {n1 n2 nw : Bool} {o o' : EO} {K : PySem.W.Frag} {body : List Stmt}
theorem tg_three {i j k : Nat} {vs : List Nat} (hi : i ∈ vs) (hj : j ∈ vs) (hk : k ∈ vs) : TgOk K (gTup K 3 (gCons (gName i) (gCons (gName j) (gCons (gName k) gNil)))) vs (.tup [d1, d2, d3]) ρ (((ρ.set i (some d1)).set j (some d2)).set k (some d3)) :=
  ⟨fun q c x σ H Q dv s hp kk => by
    cases dv with
    | tup hq r =>
      cases r with
      | cons h1 r =>
        cases r with
        | cons h2 r =>
          cases r with
          | cons h3 r =>
            cases r
            exact ⟨_, _, rfl, un_sqT hq, rfl, _, _, rfl, _, _, rfl, _, _, rfl, rfl, kk _ (((s.set i h1).set j h2).set k h3) ((wipe_set hk).trans ((wipe_set hj).trans (wipe_set hi)))⟩⟩
/-! ### f-strings -/
theorem re_fmtI {i : Int} (h : RE X W p ρ c e (.val (.int i) nw c1)) (hi : 0 ≤ i ∧ i < 10) : RE X W p ρ c (.FormattedValue e (-1) none pos) (.val (.str (chr1 (48 + i.toNat))) true c1) :=
  pe_imp (pe_fmt h) fun σ H Q ⟨s, k⟩ => ⟨s, fun v H1 e1 p1 dv _ => by
    cases dv
    have et : Str.ofString (toString i) = chr1 (48 + i.toNat) := by
      have : i = 0 ∨ i = 1 ∨ i = 2 ∨ i = 3 ∨ i = 4 ∨ i = 5 ∨ i = 6 ∨ i = 7 ∨ i = 8 ∨ i = 9 := by omega
      rcases this with rfl | rfl | rfl | rfl | rfl | rfl | rfl | rfl | rfl | rfl <;> decide
    have lg : i.natAbs.log2 < 1920 := by
      have : i = 0 ∨ i = 1 ∨ i = 2 ∨ i = 3 ∨ i = 4 ∨ i = 5 ∨ i = 6 ∨ i = 7 ∨ i = 8 ∨ i = 9 := by omega
      rcases this with rfl | rfl | rfl | rfl | rfl | rfl | rfl | rfl | rfl | rfl <;> decide
    have q := k (.str (Str.ofString (toString i))) H1 e1 p1 (by rw [et]; exact .str _) fun _ => New.sc (by intro a h; cases h)
    exact .inr ⟨i, rfl, lg, q⟩⟩
theorem re_fmtS {l : List Nat} (h : RE X W p ρ c e (.val (.str (tx l)) nw c1)) (hl : l.length ≤ 100000) : RE X W p ρ c (.FormattedValue e (-1) none pos) (.val (.str (tx l)) true c1) :=
  pe_imp (pe_fmt h) fun σ H Q ⟨s, k⟩ => ⟨s, fun v H1 e1 p1 dv _ => by
    cases dv
    exact .inl ⟨_, rfl, sz_le (by rw [tx_len]; exact hl), k _ H1 e1 p1 (.str _) fun _ => New.sc (by intro a h; cases h)⟩⟩
inductive RJ (X : Cx) (W : WX) (p : HD) (ρ : Rho) : PC → List Expr → List (List Nat) → PC → Prop
  | nil {c : PC} : RJ X W p ρ c [] [] c
  | cons {c c1 c2 : PC} {e : Expr} {es : List Expr} {l : List Nat} {ls : List (List Nat)} {nw : Bool} : RE X W p ρ c e (.val (.str (tx l)) nw c1) → RJ X W p ρ c1 es ls c2 → RJ X W p ρ c (e :: es) (l :: ls) c2
theorem rj_pj : ∀ {c c' : PC} {es : List Expr} {ls : List (List Nat)}, RJ X W p ρ c es ls c' → ∃ ts, PJ X es ts ∧ ∀ (acc : List Nat) (σ : L2.St) (H : Hp) (Q : Str → Hp → Prop), SR X.K p H σ ρ c → acc.length + ls.flatten.length ≤ 100000 →
    (∀ H', Ext p H H' → PoolAt X.K p H' c' → Q (tx (acc ++ ls.flatten)) H') → tJs ts (tx acc) σ H Q
  | _, _, _, _, .nil => ⟨[], .nil, fun acc σ H Q s hz k => by
    have := k H (Ext.refl p H) s.pl
    rw [List.flatten_nil, List.append_nil] at this
    exact this⟩
  | c, c2, _, _, .cons (c1 := c1) (l := l) (ls := ls) (nw := nw) h r => by
    obtain ⟨ts, pj, run⟩ := rj_pj r
    refine ⟨_ :: ts, .cons h pj, fun acc σ H Q s hz k => ⟨s, fun v H1 e1 p1 dv _ => ?_⟩⟩
    cases dv
    rw [List.flatten_cons, List.length_append] at hz
    refine ⟨tx l, rfl, sz_le (by rw [tx_app, tx_len, List.length_append]; omega), ?_⟩
    rw [tx_app]
    refine run (acc ++ l) σ H1 Q (s.mono e1 p1) (by rw [List.length_append]; omega) fun H' e2 p2 => ?_
    have := k H' (e1.trans e2) p2
    rw [List.flatten_cons, ← List.append_assoc] at this
    exact this
theorem re_js {v1 v2 : Expr} {rest : List Expr} {ls : List (List Nat)} {l : List Nat} (h : RJ X W p ρ c (v1 :: v2 :: rest) ls c1) (hl : ls.flatten = l) (hz : l.length ≤ 100000) : RE X W p ρ c (.JoinedStr (v1 :: v2 :: rest) pos) (.val (.str (tx l)) true c1) := by
  obtain ⟨ts, pj, run⟩ := rj_pj h
  subst hl
  exact pe_imp (pe_joined pj) fun σ H Q ⟨s, k⟩ => run [] σ H _ s (by simpa using hz) fun H' e1 p1 => k _ H' e1 p1 (.str _) fun _ => New.sc (by intro a h; cases h)
end
end LA

namespace LA
open PySem PySem.Spec PyProof.Rows L2
section
variable {X : Cx} {W : WX} {p : HD} {ρ ρ1 : Rho} {c c1 c2 c3 : PC} {e a b tg it : Expr} {es : List Expr} {pos apos ps : Pos} {d d1 d2 d3 : D} {n1 n2 nw : Bool} {C : Addr} {fs : List (Str × D)} {g : TG}
theorem re_callTX {T : String} {x : Str} {r : List V → Hp → VK → Prop} (hc : CallR X (.type T) r) (hm : X.mg x = none) (hv : bootBuiltins x = some (.type T)) (ha : RA X W p ρ c (e :: es) (.ex C fs c1))
    (hg : Gl X x := by rfl) (hn : x ≠ "__name__" := by decide) (hdb : (x == ("__debug__" : Str)) = false := by decide)
    (he : starEach (e :: es) X.env = (false, eval e X.env) :: starEach es X.env := by rfl) (hpl : (backTo pos (starEach es X.env)).any (·.1) = false := by rfl) : RE X W p ρ c (.Call (.Name x ps) (e :: es) [] pos) (.ex C fs c1) :=
  pe_imp (pe_callTy hc hg hm hv ha hn hdb he hpl) fun σ H Q h => h
theorem ra_consX {es : List Expr} (ha : RE X W p ρ c e (.ex C fs c1)) (hs : starEach (e :: es) X.env = (false, eval e X.env) :: starEach es X.env := by rfl) : RA X W p ρ c (e :: es) (.ex C fs c1) :=
  pa_imp (pa_cons ha (⟨fun ps pins s σ H Q I h => h.elim⟩ : PA X es fun _ _ _ => False) hs) fun σ H Q h => h
theorem rs_tgX (he : RE X W p ρ c e (.ex C fs c1)) (hg : PG X tg g) (hs : swapsWithSole [tg] e pos.line X.env = pure false := by rfl) (hw : swappedStores [tg] e X.env = pure none := by rfl)
    (h1 : (assignEach [tg] X.env).map (·.2) = [assign tg X.env] := by rfl) : RS X W p ρ c (.Assign [tg] e pos) (.ex C fs c1) :=
  ps_imp (ps_asg he hg hs hw h1) fun De σ H q => tS_ex q _
end
end LA

namespace K56
open PySem PySem.Spec PyProof.Rows L2 LA
theorem rt_to {X : Cx} {W : WX} {p : HD} {ρ : Rho} {c c1 : PC} {e : Expr} {k k' : Bool} (h : RT X W p ρ c e (.val k c1)) (q : k = k') : RT X W p ρ c e (.val k' c1) := by
  subst q
  exact h
theorem re_to {X : Cx} {W : WX} {p : HD} {ρ : Rho} {c c1 : PC} {e : Expr} {d d' : D} {nw : Bool} (h : RE X W p ρ c e (.val d nw c1)) (q : d = d') : RE X W p ρ c e (.val d' nw c1) := by
  subst q
  exact h
/-! ### numbers, places -/
theorem re_ox {X : Cx} {W : WX} {p : HD} {ρ : Rho} {c : PC} {e : Expr} {o o' : EO} (h : RE X W p ρ c e o) (q : o = o') : RE X W p ρ c e o' := by
  subst q
  exact h
section
variable {P : Program} {w : World} {K : PySem.W.Frag} {mg : Str → Option Value} {base : Heap} {BT BX : Addr}
/-! ### what is a tree -/
def isTupD : D → Bool
  | .tup _ => true
  | _ => false
theorem isi_tup {d : D} {t : String} (h : tyD d = some t) : kitB t "tuple" = some (isTupD d) := by
  cases d <;> first | (cases h; rfl) | cases h
def isT : Nat → Int → D → Bool
  | 0, _, d => posD d 2
  | m + 1, n, .tup xs => match xs with
    | [a, b, c] => posD a n && (isT m n b && isT m n c)
    | _ => false
  | _ + 1, _, d => posD d 2
/-- tuples within tuples at most so deep, and the types of all parts are told -/
def Deep : Nat → D → Prop
  | 0, d => isTupD d = false ∧ Ty d
  | m + 1, .tup xs => ∀ x ∈ xs, Deep m x
  | _ + 1, d => Ty d
theorem deep_ty : ∀ {m : Nat} {d : D}, Deep m d → Ty d
  | 0, _, h => h.2
  | m + 1, d, h => by
    cases d with
    | tup xs => exact ⟨_, rfl⟩
    | _ => exact h
def isTR (m : Nat) : FSpec := fun ds c o => ∃ d n, ds = [d, .int n] ∧ Deep m d ∧ o = .val (.bl (isT m n d)) true c
theorem ok_isT {f : Addr} {fd : FuncData} (G : Glb mg) (TP : PosD P w K mg base) (F : Fun K "_is_tree" "_is_tree" (top 21) f fd) (hm : mg "_is_tree" = some (.ref f)) (hb : Binds K fd ["value", "many"] []) : ∀ m : Nat, FnOk P w K mg base CX0 (m + 3) f fd ["value", "many"] (spF K (isTR m)) := by
  intro m
  induction m with
  | zero =>
    refine fn_val F (N := ["value", "many"]) ⟨rfl, rfl, rfl, by decide +kernel, rfl, by decide +kernel, by decide +kernel⟩ (fun ds c o h => ?_) (fun ds c o h => ?_) (fun cdv A outer s H E hr p ds c o h => ?_)
    · obtain ⟨d, n, rfl, _⟩ := h
      rfl
    · obtain ⟨d, n, _, _, rfl⟩ := h
      exact ⟨_, _, _, rfl⟩
    · obtain ⟨d, n, rfl, ⟨hd, ht⟩, rfl⟩ := h
      obtain ⟨t, ht'⟩ := ht
      exact .inl (rss_ret (rs_if (kb := true) (rt_not (rt_val (re_callB (d := .bl false) call_isi G.isi PyProof.Rows.boot_isinstance (ra_cons (re_var 0) (ra_cons (re_ty G.tuple PyProof.Rows.boot_tuple) ra_nil)) (cv_isi ht' (by rw [isi_tup ht', hd]))))) (fun _ => rss_ret (rs_ret (re_c0 TP hr (ra_cons (re_var 0) (ra_cons re_int ra_nil)) ⟨d, 2, rfl, ⟨t, ht'⟩, rfl⟩))) fun z => nomatch z))
  | succ m ih =>
    have TI : Def0 P w K mg base (m + 3) "_is_tree" ["value", "many"] (isTR m) := ⟨⟨f, fd, ih, hm, F.kp, hb⟩⟩
    refine fn_val F (N := ["value", "many"]) ⟨rfl, rfl, rfl, by decide +kernel, rfl, by decide +kernel, by decide +kernel⟩ (fun ds c o h => ?_) (fun ds c o h => ?_) (fun cdv A outer s H E hr p ds c o h => ?_)
    · obtain ⟨d, n, rfl, _⟩ := h
      rfl
    · obtain ⟨d, n, _, _, rfl⟩ := h
      exact ⟨_, _, _, rfl⟩
    · obtain ⟨d, n, rfl, hd, rfl⟩ := h
      obtain ⟨t, ht'⟩ := deep_ty hd
      have hr2 := hr.mono (show 2 ≤ m + 3 by omega)
      refine .inl ?_
      by_cases hT : isTupD d = true
      · cases d with
        | tup xs =>
          have start : RS (cxOf CX0 P w K mg base ["value", "many"] "_is_tree" (defScope (top 21)) f cdv A outer s H E).nox Wf p (startR ["value", "many"] [.tup xs, .int n]) c ((defBody (top 21)).getD 0 (.Pass ⟨0, 0, 0, 0⟩)) (.nx (startR ["value", "many"] [.tup xs, .int n]) c) :=
            rs_if (kb := false) (rt_not (rt_val (re_callB (d := .bl true) call_isi G.isi PyProof.Rows.boot_isinstance (ra_cons (re_var 0) (ra_cons (re_ty G.tuple PyProof.Rows.boot_tuple) ra_nil)) (cv_isi ht' (by rw [isi_tup ht', hT]))))) (fun z => nomatch z) fun _ => rss_nil
          refine rss_cons start ?_
          have hd' : ∀ x ∈ xs, Deep m x := hd
          match xs, hd' with
          | [a, b, e], hd' =>
            have da := hd' a (by simp)
            have db := hd' b (by simp)
            have de := hd' e (by simp)
            have eT : isT (m + 1) n (.tup [a, b, e]) = (posD a n && (isT m n b && isT m n e)) := rfl
            rw [eT]
            cases hp : posD a n with
            | false =>
              rw [Bool.false_and]
              exact rss_ret (rs_if (kb := true) (RW.rt (rw_or (k1 := false) (k2 := true) (rt_to (rt_cmp op_ne (re_callB call_len G.len PySem.boot_len (ra_cons (re_var 0) ra_nil) cv_lenTup) re_int ov_neI) rfl) fun _ => rw_or1 (rt_not (rt_val (re_c0 (d := .bl false) TP hr2 (ra_cons (re_ix ix_seq (re_var 0) re_int (ov_ixT (j := 0) rfl rfl)) (ra_cons (re_var 1) ra_nil)) ⟨a, n, rfl, deep_ty da, by rw [hp]⟩))))) (fun _ => rss_ret (rs_ret re_bl)) fun z => nomatch z)
            | true =>
              rw [Bool.true_and]
              refine rss_cons (rs_if (kb := false) (RW.rt (rw_or (k1 := false) (k2 := false) (rt_to (rt_cmp op_ne (re_callB call_len G.len PySem.boot_len (ra_cons (re_var 0) ra_nil) cv_lenTup) re_int ov_neI) rfl) fun _ => rw_or1 (rt_not (rt_val (re_c0 (d := .bl true) TP hr2 (ra_cons (re_ix ix_seq (re_var 0) re_int (ov_ixT (j := 0) rfl rfl)) (ra_cons (re_var 1) ra_nil)) ⟨a, n, rfl, deep_ty da, by rw [hp]⟩))))) (fun z => nomatch z) fun _ => rss_nil) ?_
              exact rss_ret (rs_ret (re_and (re_c0 TI hr (ra_cons (re_ix ix_seq (re_var 0) re_int (ov_ixT (j := 1) rfl rfl)) (ra_cons (re_var 1) ra_nil)) ⟨b, n, rfl, db, rfl⟩) fun _ => re_and1 (re_c0 TI hr (ra_cons (re_ix ix_seq (re_var 0) re_int (ov_ixT (j := 2) rfl rfl)) (ra_cons (re_var 1) ra_nil)) ⟨e, n, rfl, de, rfl⟩)))
          | [], _ => exact rss_ret (rs_if (kb := true) (RW.rt (rw_or (k1 := true) (k2 := true) (rt_to (rt_cmp op_ne (re_callB call_len G.len PySem.boot_len (ra_cons (re_var 0) ra_nil) cv_lenTup) re_int ov_neI) rfl) fun z => nomatch z)) (fun _ => rss_ret (rs_ret re_bl)) fun z => nomatch z)
          | [_], _ => exact rss_ret (rs_if (kb := true) (RW.rt (rw_or (k1 := true) (k2 := true) (rt_to (rt_cmp op_ne (re_callB call_len G.len PySem.boot_len (ra_cons (re_var 0) ra_nil) cv_lenTup) re_int ov_neI) rfl) fun z => nomatch z)) (fun _ => rss_ret (rs_ret re_bl)) fun z => nomatch z)
          | [_, _], _ => exact rss_ret (rs_if (kb := true) (RW.rt (rw_or (k1 := true) (k2 := true) (rt_to (rt_cmp op_ne (re_callB call_len G.len PySem.boot_len (ra_cons (re_var 0) ra_nil) cv_lenTup) re_int ov_neI) rfl) fun z => nomatch z)) (fun _ => rss_ret (rs_ret re_bl)) fun z => nomatch z)
          | _ :: _ :: _ :: _ :: r, _ => exact rss_ret (rs_if (kb := true) (RW.rt (rw_or (k1 := true) (k2 := true) (rt_to (rt_cmp op_ne (re_callB call_len G.len PySem.boot_len (ra_cons (re_var 0) ra_nil) cv_lenTup) re_int ov_neI) (by
              rw [decide_eq_false (by simp only [List.length_cons]; omega)]
              rfl)) fun z => nomatch z)) (fun _ => rss_ret (rs_ret re_bl)) fun z => nomatch z)
        | _ => cases hT
      · have hf : isTupD d = false := by simpa using hT
        have e : isT (m + 1) n d = posD d 2 := by
          cases d <;> first | rfl | cases hf
        rw [e]
        exact rss_ret (rs_if (kb := true) (rt_not (rt_val (re_callB (d := .bl false) call_isi G.isi PyProof.Rows.boot_isinstance (ra_cons (re_var 0) (ra_cons (re_ty G.tuple PyProof.Rows.boot_tuple) ra_nil)) (cv_isi ht' (by rw [isi_tup ht', hf]))))) (fun _ => rss_ret (rs_ret (re_c0 TP hr2 (ra_cons (re_var 0) (ra_cons re_int ra_nil)) ⟨d, 2, rfl, ⟨t, ht'⟩, rfl⟩))) fun z => nomatch z)
end
end K56

namespace K56
open PySem PySem.Spec PyProof.Rows L2 LA
/-! ### trees and texts -/
theorem deep_tr : ∀ (m : Nat) (t : Tr), nodes t ≤ m → Deep m (trD t)
  | 0, .leaf i, _ => ⟨rfl, _, rfl⟩
  | 0, .node p l r, h => by
    unfold nodes at h
    omega
  | m + 1, .leaf i, _ => ⟨_, rfl⟩
  | m + 1, .node p l r, h => by
    unfold nodes at h
    intro x hx
    simp only [List.mem_cons, List.not_mem_nil, or_false] at hx
    rcases hx with rfl | rfl | rfl
    · cases m <;> first | exact ⟨rfl, _, rfl⟩ | exact ⟨_, rfl⟩
    · exact deep_tr m l (by omega)
    · exact deep_tr m r (by omega)
theorem isT_tr {n : Int} : ∀ (m : Nat) (t : Tr), nodes t ≤ m → isT m n (trD t) = okT n t
  | 0, .leaf i, _ => rfl
  | 0, .node p l r, h => by
    unfold nodes at h
    omega
  | m + 1, .leaf i, _ => rfl
  | m + 1, .node p l r, h => by
    unfold nodes at h
    show (posD (.int p) n && (isT m n (trD l) && isT m n (trD r))) = ((decide (0 ≤ p) && decide (p < n)) && (okT n l && okT n r))
    rw [isT_tr m l (by omega), isT_tr m r (by omega)]
    rfl
theorem okT_node {n p : Int} {l r : Tr} (h : okT n (.node p l r) = true) : (0 ≤ p ∧ p < n) ∧ okT n l = true ∧ okT n r = true := by
  unfold okT at h
  obtain ⟨h1, h2⟩ := Bool.and_eq_true_iff.mp h
  obtain ⟨h3, h4⟩ := Bool.and_eq_true_iff.mp h1
  obtain ⟨h5, h6⟩ := Bool.and_eq_true_iff.mp h2
  exact ⟨⟨of_decide_eq_true h3, of_decide_eq_true h4⟩, h5, h6⟩
theorem okT_leaf {n i : Int} (h : okT n (.leaf i) = true) : 0 ≤ i ∧ i < 2 := by
  unfold okT at h
  obtain ⟨h3, h4⟩ := Bool.and_eq_true_iff.mp h
  exact ⟨of_decide_eq_true h3, of_decide_eq_true h4⟩
section
variable {P : Program} {w : World} {K : PySem.W.Frag} {mg : Str → Option Value} {base : Heap} {BT BX : Addr}
def ckR (BT : Addr) : FSpec := fun ds c o => ∃ d n, ds = [d, .int n] ∧ Deep 40 d ∧ o = if isT 40 n d then .val .non true c else .ex BT [("given", d)] c
theorem ok_ck {f : Addr} {fd : FuncData} (T : Def0 P w K mg base 43 "_is_tree" ["value", "many"] (isTR 40)) (Er : Err1 P w K mg base "BadTree" "given" BT) (F : Fun K "check_tree" "check_tree" (top 20) f fd) : FnOk P w K mg base (L2.CX P w) 44 f fd ["tree", "many"] (spF K (ckR BT)) := by
  refine fn_exc F (N := ["tree", "many"]) ⟨rfl, rfl, rfl, by decide +kernel, rfl, by decide +kernel, by decide +kernel⟩ (fun ds c o h => ?_) (fun cdv A outer s H E hr p ds c o h tk => ?_)
  · obtain ⟨d, n, rfl, _⟩ := h
    rfl
  · obtain ⟨d, n, rfl, hd, rfl⟩ := h
    cases h : isT 40 n d with
    | true =>
      rw [if_pos rfl]
      exact .inr ⟨rfl, _, rss_cons (rs_if (kb := false) (rt_not (rt_val (re_c0 (d := .bl true) T hr (ra_cons (re_var 0) (ra_cons (re_var 1) ra_nil)) ⟨d, n, rfl, hd, by rw [h]⟩))) (fun z => nomatch z) fun _ => rss_nil) rss_nil⟩
    | false =>
      rw [if_neg Bool.false_ne_true]
      exact rss_ex (rs_if (kb := true) (rt_not (rt_val (re_c0 (d := .bl false) T hr (ra_cons (re_var 0) (ra_cons (re_var 1) ra_nil)) ⟨d, n, rfl, hd, by rw [h]⟩))) (fun _ => rss_ex (rs_raiseG rfl tk Er (hr.mono (by decide)) (re_var 0))) fun z => nomatch z)
abbrev CkD (P : Program) (w : World) (K : PySem.W.Frag) (mg : Str → Option Value) (base : Heap) (BT : Addr) := Def1 P w K mg base 44 "check_tree" ["tree", "many"] (ckR BT)
/-! ### reading -/
end
end K56

/-! trimmed trees: the mathematics of k36 (no program in it) -/
namespace K36
open LA
def eqT : Tr → Tr → Bool
  | .leaf i, .leaf j => decide (i = j)
  | .node p l r, .node q a b => decide (p = q) && (eqT l a && eqT r b)
  | _, _ => false
theorem eqT_iff : ∀ (s t : Tr), eqT s t = true ↔ s = t
  | .leaf i, .leaf j => by
    unfold eqT
    rw [decide_eq_true_iff]
    exact ⟨fun h => by rw [h], fun h => by cases h; rfl⟩
  | .leaf _, .node _ _ _ => ⟨(fun h => by cases h), (fun h => by cases h)⟩
  | .node _ _ _, .leaf _ => ⟨(fun h => by cases h), (fun h => by cases h)⟩
  | .node p l r, .node q a b => by
    unfold eqT
    rw [Bool.and_eq_true_iff, Bool.and_eq_true_iff, decide_eq_true_iff, eqT_iff l a, eqT_iff r b]
    exact ⟨fun ⟨h1, h2, h3⟩ => by rw [h1, h2, h3], fun h => by cases h; exact ⟨rfl, rfl, rfl⟩⟩
theorem eqT_self (t : Tr) : eqT t t = true := (eqT_iff t t).mpr rfl
theorem eqT_no {s t : Tr} (h : s ≠ t) : eqT s t = false := by
  cases e : eqT s t with
  | false => rfl
  | true => exact absurd ((eqT_iff s t).mp e) h
/-- the known bits: 45 where nothing is known -/
def kn (m : List Nat) (p : Int) : Nat := m.getD p.toNat 45
def nw (m : List Nat) (p : Int) (c : Nat) : List Nat := m.set p.toNat c
/-- looks that were made further up are left out -/
def fst : Tr → List Nat → Tr
  | .leaf i, _ => .leaf i
  | .node p l r, m => if kn m p = 45 then .node p (fst l (nw m p 48)) (fst r (nw m p 49)) else if kn m p = 48 then fst l m else fst r m
/-- from the leaves up: equal branches become one -/
def jn : Tr → Tr
  | .leaf i => .leaf i
  | .node p l r => if eqT (jn l) (jn r) then jn l else .node p (jn l) (jn r)
/-- as the program does it -/
def trm : Tr → List Nat → Tr
  | .leaf i, _ => .leaf i
  | .node p l r, m => if kn m p = 45 then (if eqT (trm l (nw m p 48)) (trm r (nw m p 49)) then trm l (nw m p 48) else .node p (trm l (nw m p 48)) (trm r (nw m p 49))) else if kn m p = 48 then trm l m else trm r m
theorem trm_is : ∀ (t : Tr) (m : List Nat), trm t m = jn (fst t m)
  | .leaf i, _ => rfl
  | .node p l r, m => by
    unfold trm fst
    by_cases h : kn m p = 45
    · rw [if_pos h, if_pos h, trm_is l, trm_is r]
      rfl
    · rw [if_neg h, if_neg h]
      by_cases h2 : kn m p = 48
      · rw [if_pos h2, if_pos h2, trm_is l]
      · rw [if_neg h2, if_neg h2, trm_is r]
/-- one round of the law -/
def rnd : Tr → Tr
  | .leaf i => .leaf i
  | .node p l r => if eqT l r then rnd l else .node p (rnd l) (rnd r)
def rnds : Nat → Tr → Tr
  | 0, t => t
  | n + 1, t => rnd (rnds n t)
theorem rnds_leaf (n : Nat) (i : Int) : rnds n (.leaf i) = .leaf i := by
  induction n with
  | zero => rfl
  | succ n ih =>
    unfold rnds
    rw [ih]
    rfl
theorem rnds_node (p : Int) (l r : Tr) : ∀ n, rnds (n + 1) (.node p l r) = if eqT (rnds n l) (rnds n r) then rnds (n + 1) l else .node p (rnds (n + 1) l) (rnds (n + 1) r)
  | 0 => rfl
  | n + 1 => by
    show rnd (rnds (n + 1) (.node p l r)) = _
    rw [rnds_node p l r n]
    cases h : eqT (rnds n l) (rnds n r) with
    | true =>
      have e := (eqT_iff _ _).mp h
      have e2 : rnds (n + 1) l = rnds (n + 1) r := by
        show rnd _ = rnd _
        rw [e]
      rw [if_pos rfl, e2, eqT_self, if_pos rfl]
      show rnd (rnds (n + 1) r) = rnd (rnds (n + 1) l)
      rw [e2]
    | false =>
      rw [if_neg Bool.false_ne_true]
      rfl
def dep : Tr → Nat
  | .leaf _ => 0
  | .node _ l r => max (dep l) (dep r) + 1
/-- enough rounds do what is done from the leaves up -/
theorem rnds_jn : ∀ (t : Tr) (n : Nat), dep t ≤ n → rnds n t = jn t
  | .leaf i, n, _ => rnds_leaf n i
  | .node p l r, n, h => by
    unfold dep at h
    obtain ⟨k, rfl⟩ : ∃ k, n = k + 1 := ⟨n - 1, by omega⟩
    rw [rnds_node, rnds_jn l k (by omega), rnds_jn r k (by omega), rnds_jn l (k + 1) (by omega), rnds_jn r (k + 1) (by omega)]
    rfl
/-- no position twice on a way, none that is known -/
def free : Tr → List Nat → Prop
  | .leaf _, _ => True
  | .node p l r, m => kn m p = 45 ∧ p.toNat < m.length ∧ free l (nw m p 48) ∧ free r (nw m p 49)
theorem kn_nw {m : List Nat} {p q : Int} {c : Nat} : kn (nw m p c) q = if p.toNat = q.toNat ∧ p.toNat < m.length then c else kn m q := by
  unfold kn nw
  rw [List.getD_eq_getElem?_getD, List.getD_eq_getElem?_getD, List.getElem?_set]
  by_cases h : p.toNat = q.toNat
  · rw [if_pos h]
    by_cases h2 : p.toNat < m.length
    · rw [if_pos h2, if_pos ⟨h, h2⟩]
      rfl
    · rw [if_neg h2, if_neg (fun z => h2 z.2), ← h, List.getElem?_eq_none (by omega)]
  · rw [if_neg h, if_neg (fun z => h z.1)]
theorem nw_len {m : List Nat} {p : Int} {c : Nat} : (nw m p c).length = m.length := by unfold nw; rw [List.length_set]
/-- where less is known, what is free stays free -/
theorem free_up : ∀ (t : Tr) {m m' : List Nat}, m'.length = m.length → (∀ q, kn m' q = 45 → kn m q = 45) → free t m' → free t m
  | .leaf _, _, _, _, _, _ => trivial
  | .node p l r, m, m', hl, hk, ⟨h1, h2, h3, h4⟩ => by
    refine ⟨hk p h1, by omega, free_up l (by rw [nw_len, nw_len]; exact hl) (fun q hq => ?_) h3, free_up r (by rw [nw_len, nw_len]; exact hl) (fun q hq => ?_) h4⟩
    · rw [kn_nw] at hq ⊢
      split at hq
      · cases hq
      · rename_i h
        rw [if_neg (by rw [hl] at h; exact h)]
        exact hk q hq
    · rw [kn_nw] at hq ⊢
      split at hq
      · cases hq
      · rename_i h
        rw [if_neg (by rw [hl] at h; exact h)]
        exact hk q hq
theorem free_nw {t : Tr} {m : List Nat} {p : Int} {c : Nat} (hc : c ≠ 45) (h : free t (nw m p c)) : free t m :=
  free_up t nw_len (fun q hq => by
    rw [kn_nw] at hq
    split at hq
    · exact absurd hq hc
    · exact hq) h
/-- positions below the number of bits -/
def inn (n : Nat) : Tr → Prop
  | .leaf _ => True
  | .node p l r => p.toNat < n ∧ inn n l ∧ inn n r
theorem free_fst : ∀ (t : Tr) (m : List Nat), inn m.length t → free (fst t m) m
  | .leaf _, _, _ => trivial
  | .node p l r, m, ⟨h1, h2, h3⟩ => by
    unfold fst
    by_cases h : kn m p = 45
    · rw [if_pos h]
      exact ⟨h, h1, free_fst l _ (by rw [nw_len]; exact h2), free_fst r _ (by rw [nw_len]; exact h3)⟩
    · rw [if_neg h]
      split
      · exact free_fst l m h2
      · exact free_fst r m h3
theorem fst_free : ∀ (t : Tr) (m : List Nat), free t m → fst t m = t
  | .leaf _, _, _ => rfl
  | .node p l r, m, ⟨h1, _, h3, h4⟩ => by
    unfold fst
    rw [if_pos h1, fst_free l _ h3, fst_free r _ h4]
theorem free_jn : ∀ (t : Tr) (m : List Nat), free t m → free (jn t) m
  | .leaf _, _, _ => trivial
  | .node p l r, m, ⟨h1, h2, h3, h4⟩ => by
    unfold jn
    have a := free_jn l _ h3
    have b := free_jn r _ h4
    split
    · exact free_nw (by decide) a
    · exact ⟨h1, h2, a, b⟩
theorem jn_jn : ∀ t : Tr, jn (jn t) = jn t
  | .leaf _ => rfl
  | .node p l r => by
    have e : jn (.node p l r) = if eqT (jn l) (jn r) then jn l else .node p (jn l) (jn r) := rfl
    rw [e]
    cases h : eqT (jn l) (jn r) with
    | true =>
      rw [if_pos rfl]
      exact jn_jn l
    | false =>
      rw [if_neg Bool.false_ne_true]
      show (if eqT (jn (jn l)) (jn (jn r)) then jn (jn l) else .node p (jn (jn l)) (jn (jn r))) = _
      rw [jn_jn l, jn_jn r, h, if_neg Bool.false_ne_true]
/-- trimmed again it stays -/
theorem trm_trm (t : Tr) (m : List Nat) (h : inn m.length t) : trm (trm t m) m = trm t m := by
  rw [trm_is t m, trm_is, fst_free _ _ (free_jn _ _ (free_fst t m h)), jn_jn]
/-- a position that was met -/
def tw (met : List Int) : Tr → Bool
  | .leaf _ => false
  | .node p l r => decide (p ∈ met) || (tw (met ++ [p]) l || tw (met ++ [p]) r)
theorem tw_free : ∀ (t : Tr) (m : List Nat) (met : List Int), free t m → (∀ q ∈ met, kn m q ≠ 45) → tw met t = false
  | .leaf _, _, _, _, _ => rfl
  | .node p l r, m, met, ⟨h1, h2, h3, h4⟩, hm => by
    have key : ∀ c, c ≠ 45 → ∀ q ∈ met ++ [p], kn (nw m p c) q ≠ 45 := fun c hc q hq => by
      rw [kn_nw]
      split
      · exact hc
      · rename_i h
        rcases List.mem_append.mp hq with hq | hq
        · exact hm q hq
        · rw [List.mem_singleton.mp hq] at h
          exact absurd ⟨rfl, h2⟩ h
    unfold tw
    rw [decide_eq_false (fun z => hm p z h1), tw_free l _ _ h3 (key 48 (by decide)), tw_free r _ _ h4 (key 49 (by decide))]
    rfl
theorem dep_jn : ∀ t : Tr, dep (jn t) ≤ dep t
  | .leaf _ => Nat.le_refl _
  | .node p l r => by
    have a := dep_jn l
    have b := dep_jn r
    unfold jn
    split
    · show dep (jn l) ≤ max (dep l) (dep r) + 1
      omega
    · show max (dep (jn l)) (dep (jn r)) + 1 ≤ max (dep l) (dep r) + 1
      omega
theorem dep_fst : ∀ (t : Tr) (m : List Nat), dep (fst t m) ≤ dep t
  | .leaf _, _ => Nat.le_refl _
  | .node p l r, m => by
    have a := dep_fst l m
    have b := dep_fst r m
    have c := dep_fst l (nw m p 48)
    have d := dep_fst r (nw m p 49)
    unfold fst
    split
    · show max _ _ + 1 ≤ max (dep l) (dep r) + 1
      omega
    · show _ ≤ max (dep l) (dep r) + 1
      split <;> omega
theorem count_nw {m : List Nat} {p : Int} {c : Nat} (h : kn m p = 45) (hl : p.toNat < m.length) (hc : c ≠ 45) : (nw m p c).count 45 + 1 = m.count 45 := by
  unfold nw
  have e : m[p.toNat]'hl = 45 := by
    unfold kn at h
    rw [List.getD_eq_getElem?_getD, List.getElem?_eq_getElem hl] at h
    exact h
  rw [List.count_set hl, e]
  have : 0 < m.count 45 := List.count_pos_iff.mpr (by rw [← e]; exact List.getElem_mem hl)
  simp [hc]
  omega
/-- no way is longer than what is not known -/
theorem dep_free : ∀ (t : Tr) (m : List Nat), free t m → dep t ≤ m.count 45
  | .leaf _, _, _ => Nat.zero_le _
  | .node p l r, m, ⟨h1, h2, h3, h4⟩ => by
    have a := dep_free l _ h3
    have b := dep_free r _ h4
    have c := count_nw (c := 48) h1 h2 (by decide)
    have d := count_nw (c := 49) h1 h2 (by decide)
    show max (dep l) (dep r) + 1 ≤ _
    omega
/-- the answer at an input -/
def ev (w : List Nat) : Tr → Int
  | .leaf i => i
  | .node p l r => if w.getD p.toNat 0 = 48 then ev w l else ev w r
theorem ev_jn (w : List Nat) : ∀ t : Tr, ev w (jn t) = ev w t
  | .leaf _ => rfl
  | .node p l r => by
    have a := ev_jn w l
    have b := ev_jn w r
    unfold jn
    cases h : eqT (jn l) (jn r) with
    | true =>
      have e := (eqT_iff _ _).mp h
      rw [if_pos rfl]
      show _ = if _ then ev w l else ev w r
      split
      · exact a
      · rw [e]
        exact b
    | false =>
      rw [if_neg Bool.false_ne_true]
      show (if _ then ev w (jn l) else ev w (jn r)) = if _ then ev w l else ev w r
      rw [a, b]
def fits (m w : List Nat) : Prop := ∀ q : Int, kn m q = 45 ∨ kn m q = w.getD q.toNat 0
theorem ev_fst (w : List Nat) (hw : ∀ i, i < w.length → w.getD i 0 = 48 ∨ w.getD i 0 = 49) : ∀ (t : Tr) (m : List Nat), m.length = w.length → inn m.length t → fits m w → ev w (fst t m) = ev w t
  | .leaf _, _, _, _, _ => rfl
  | .node p l r, m, hl, ⟨h1, h2, h3⟩, hf => by
    have fn : ∀ c, c = w.getD p.toNat 0 → fits (nw m p c) w := fun c hc q => by
      rw [kn_nw]
      split
      · rename_i h
        exact .inr (by rw [hc, h.1])
      · exact hf q
    have b := hw p.toNat (by omega)
    unfold fst
    by_cases h : kn m p = 45
    · rw [if_pos h]
      show (if w.getD p.toNat 0 = 48 then ev w (fst l (nw m p 48)) else ev w (fst r (nw m p 49))) = if w.getD p.toNat 0 = 48 then ev w l else ev w r
      by_cases h4 : w.getD p.toNat 0 = 48
      · rw [if_pos h4, if_pos h4]
        exact ev_fst w hw l _ (by rw [nw_len]; exact hl) (by rw [nw_len]; exact h2) (fn 48 h4.symm)
      · rw [if_neg h4, if_neg h4]
        exact ev_fst w hw r _ (by rw [nw_len]; exact hl) (by rw [nw_len]; exact h3) (fn 49 (by omega))
    · rw [if_neg h]
      have e : kn m p = w.getD p.toNat 0 := (hf p).resolve_left h
      show _ = if w.getD p.toNat 0 = 48 then ev w l else ev w r
      by_cases h4 : w.getD p.toNat 0 = 48
      · rw [if_pos (by rw [e]; exact h4), if_pos h4]
        exact ev_fst w hw l m hl h2 hf
      · rw [if_neg (by rw [e]; exact h4), if_neg h4]
        exact ev_fst w hw r m hl h3 hf
end K36

/-! classmethods, with keywords; a class that stands in a variable is called -/
namespace LA
open PySem PySem.Spec PyProof.Rows L2
section
variable {X : Cx} {W : WX} {p : HD} {ρ ρ1 : Rho} {c c1 c2 c3 : PC} {e a b fe : Expr} {es : List Expr} {pos apos : Pos} {d d1 d2 : D} {n1 n2 nw : Bool} {o o' : EO}
variable {CX : CXT} {k : Nat} {f C g q : Addr} {fd : FuncData} {ps : List Str} {R : FSpec} {x m : Str} {xp : Pos} {ds : List D} {sp : Sp} {mc : Value}
/-- cls(..) -/
def tMakeV (C : Addr) (sp : Sp) (E : L2.St → XK) (tf : TE) (t : TA) : TE := fun σ H Q => tf σ H fun y H1 => y = .ref C ∧ t σ H1 fun vs H2 => ∀ x dx, H2 x = none → H2 dx = none → dx ≠ x → sp (V.ref x :: vs) (laid H2 x dx C) (fun v H3 => v = .non ∧ Q (.ref x) H3) (E σ)
theorem pe_makeV {E : L2.St → XK} {tf : TE} {t : TA} (hf : PE X (.Name x xp) tf) (M : Mk X.K C f) (F : FnOk X.prog X.w X.K X.mg X.base CX k f fd ps sp) (hr : Room (k + 1) X.A) (hb : Binds X.K fd ps []) (hx : ∀ σ, PassesAt CX X σ (E σ))
    (ha : PA X (e :: es) t) (he : starEach (e :: es) X.env = (false, eval e X.env) :: starEach es X.env := by rfl) (hpl : (backTo pos (starEach es X.env)).any (·.1) = false := by rfl) :
    PE X (.Call (.Name x xp) (e :: es) [] pos) (tMakeV C sp E tf t) := ⟨fun pins s σ H Q I h =>
  wpAny_Call_Name_kw (thn (hf.run pins s σ H _ I h) fun u s0 ⟨y, H0, I0, ry, ey, q0⟩ => by
    subst ey
    obtain rfl : u = Value.ref C := ry
    exact PySem.W.callWith_K (h₀ := X.base) I0.ok.mod.kin M.kp (thn (ha.run pos pins s0 σ H0 _ I0 q0) fun us s1 ⟨vs, H1, I1, r, q⟩ => ⟨I1.kIn, run_makeS M F hr hb (hx σ) I1 r q⟩) he hpl)⟩
theorem re_makeXv (tk : Takes X W) (hf : RE X W p ρ c (.Name x xp) (.val (.cls C) nw c)) (M : Mk X.K C f) (G : FnOk X.prog X.w X.K X.mg X.base (L2.CX X.prog X.w) k f fd ps (spF X.K R)) (hr : Room (k + 1) X.A) (hb : Binds X.K fd ps []) (ha : RA X W p ρ c (e :: es) (.val ds c1)) (ho : R (.mut c1.length :: ds) (c1 ++ [.ins C []]) o') (hd : Made C c1.length o' o)
    (he : starEach (e :: es) X.env = (false, eval e X.env) :: starEach es X.env := by rfl) (hpl : (backTo pos (starEach es X.env)).any (·.1) = false := by rfl) :
    RE X W p ρ c (.Call (.Name x xp) (e :: es) [] pos) o := by
  refine pe_imp (pe_makeV hf M G hr hb (fun σ => passAt tk σ) ha he hpl) fun σ H Q h => ⟨tE_sr h, fun v H0 e0 p0 dv _ => ?_⟩
  cases dv
  refine ⟨rfl, (tE_sr h).mono e0 p0, fun vs H1 e1' p1 dvs y dy ny nd ne => ?_⟩
  have e1 := e0.trans e1'
  refine ⟨p.mut y, c1 ++ [.ins C []], .mut c1.length :: ds, o', laid_vals p1 dvs ny nd ne, laid_pool p1 ny nd ne, ho, ?_⟩
  cases hd with
  | val hl =>
    intro v H3 e3 p3 dv _
    have ext := laid_after p1 ny nd ne e3
    refine ⟨by cases dv; rfl, ?_⟩
    exact (fo_at h e1) (.ref y) H3 ext (laid_out hl p1 p3) (laid_obj hl p1 ny p3) fun _ => laid_new hl p1 ny p3
  | ex hl lo =>
    intro dx fv H3 e3 p3 hx hf
    have ext := laid_after p1 ny nd ne e3
    exact (fo_at h e1) dx fv H3 ext (laid_out hl p1 p3) (sub_mut dx _ hx) (hf.low (n := c1.length) sub_mut (fun i b li hi => at_mut (by rw [p1.1.2.1]; exact li) hi) lo)
/-! ### C.m(a, .., k = v, ..) -/
def tCMS (C : Addr) (n m : Nat) (sp : Sp) (gV : List V → List V → List V) (E : L2.St → XK) (ta : TE) (t tk : TA) : TE := fun σ H Q => ta σ H fun x H1 => x = .ref C ∧ t σ H1 fun vs H2 => tk σ H2 fun zs H3 => vs.length = n ∧ zs.length = m ∧ sp (gV (.ref C :: vs) zs) H3 Q (E σ)
theorem run_cmKS {n : Nat} {ks : List Str} {gL : List Value → List Value → List Value} {gV : List V → List V → List V} {E : L2.St → XK} {pins : List (Addr × Obj)} {σ : L2.St} {H : Hp} {s : Shared} {Q : VK} {us ws : List Value} {vs zs : List V}
    (F : FnOk X.prog X.w X.K X.mg X.base CX k g fd ps sp) (hr : Room k X.A) (hb : KBn X.K fd ps (n + 1) ks gL gV) (hx : PassesAt CX X σ (E σ))
    (I : Inv X ((q, PySem.W.methodObj (.ref g) (.ref C)) :: pins) σ H s) (r : Vals vs us) (rz : Vals zs ws) (l1 : vs.length = n) (l2 : zs.length = ks.length) (h : sp (gV (.ref C :: vs) zs) H Q (E σ)) : wpAny (model X.prog X.w) X.A (call (.ref q) us (ks.zip ws)) (EP X pins σ Q) X.xe s := by
  have r1 : Vals (V.ref C :: vs) (Value.ref C :: us) := .cons rfl r
  have r2 := hb.rel r1 rz
  have z : wpAny (model X.prog X.w) X.A (call (.ref q) us (ks.zip ws)) (EP X ((q, PySem.W.methodObj (.ref g) (.ref C)) :: pins) σ Q) X.xe s := by
    refine wpAny_call (PySem.W.method_call (ClX.pin_at I) (codeAny_mono (F.run X.A X.stack s H ⟨Value.ref C :: us, ks.zip ws⟩ (gL (Value.ref C :: us) ws) (gV (V.ref C :: vs) zs) Q (E σ) hr I.env0 (hb.to s _ ws I.kIn (by rw [List.length_cons, ← r.length, l1]) (rz.length.symm.trans l2)) r2 h) fun r s' hq => ?_))
    cases r with
    | error e => exact hx _ H s e s' I hq
    | ok fl =>
      cases fl with
      | ret u => exact I.after hq
      | next => exact False.elim hq
      | brk => exact False.elim hq
      | cont => exact False.elim hq
  exact thn z fun _ _ y => ClX.unpinE y
theorem pe_cmKS {n : Nat} {ks : List Str} {gL : List Value → List Value → List Value} {gV : List V → List V → List V} {pl : Sem Bool} {E : L2.St → XK} {pc : Addr} {ta : TE} {t : TA} {kws : List Keyword} {tk : TA} (he : PE X a ta) (r : ClX.CRead X.K C mc) (cm : ClX.CMet X.K C mc m pc g) (F : FnOk X.prog X.w X.K X.mg X.base CX k g fd ps sp) (hr : Room k X.A) (hb : KBn X.K fd ps (n + 1) ks gL gV) (hx : ∀ σ, PassesAt CX X σ (E σ))
    (ha : PA X (e :: es) t) (hkw : PK X kws tk) (hall : (backToKw pos (keywordEach kws X.env)).all (·.1.isSome) = true) (hks : (backToKw pos (keywordEach kws X.env)).filterMap (·.1) = ks)
    (ht : eval (.Call (.Attribute a m apos) (e :: es) kws pos) X.env = (do
      let ov ← eval a X.env
      standAt apos.atName
      let (f, first) ← holding [ov] (getMethod ov m pl)
      callWith pos f first (backTo pos (starEach (e :: es) X.env)) (backToKw pos (keywordEach kws X.env))))
    (hst : starEach (e :: es) X.env = (false, eval e X.env) :: starEach es X.env)
    (hpl : ((backTo pos (starEach (e :: es) X.env)).any (·.1) || (backToKw pos (keywordEach kws X.env)).any (·.1.isNone)) = false) :
    PE X (.Call (.Attribute a m apos) (e :: es) kws pos) (tCMS C n ks.length sp gV E ta t tk) := by
  refine ⟨fun pins s σ H Q I h => ?_⟩
  refine PySem.W.methodCall_KW (pl := pl) (thn (he.run pins s σ H _ I h) fun u s1 ⟨x, H1, I1, rx, ex, q⟩ => ?_) ht
  subst ex
  obtain rfl : u = Value.ref C := rx
  refine ClX.getmethcm_ok I1 r cm fun s2 I2 => ?_
  refine PySem.W.callWith_of hpl (PySem.W.keeps_M (q := s1.heap.objs.size) (self := .ref C) cm.fi) (PyProof.Rows.evalArgs_kw2 hall (thn (ha.run pos _ s2 σ H1 _ I2 q) fun us s3 ⟨vs, H2, I3, rv, q2⟩ => thn (hkw.run pos _ s3 σ H2 _ I3 q2) fun ws s4 ⟨zs, H3, I4, rz, l1, l2, q3⟩ => ⟨⟨ClX.pin_at I4, I4.kIn⟩, ?_⟩) hst)
  rw [hks]
  exact run_cmKS F hr hb (hx σ) I4 rv rz l1 l2 q3
theorem pe_cmKS0 {ks : List Str} {gL : List Value → List Value → List Value} {gV : List V → List V → List V} {pl : Sem Bool} {E : L2.St → XK} {pc : Addr} {ta : TE} {kws : List Keyword} {tk : TA} (he : PE X a ta) (r : ClX.CRead X.K C mc) (cm : ClX.CMet X.K C mc m pc g) (F : FnOk X.prog X.w X.K X.mg X.base CX k g fd ps sp) (hr : Room k X.A) (hb : KBn X.K fd ps 1 ks gL gV) (hx : ∀ σ, PassesAt CX X σ (E σ))
    (hkw : PK X kws tk) (hall : (backToKw pos (keywordEach kws X.env)).all (·.1.isSome) = true) (hks : (backToKw pos (keywordEach kws X.env)).filterMap (·.1) = ks)
    (ht : eval (.Call (.Attribute a m apos) [] kws pos) X.env = (do
      let ov ← eval a X.env
      standAt apos.atName
      let (f, first) ← holding [ov] (getMethod ov m pl)
      callWith pos f first (backTo pos (starEach [] X.env)) (backToKw pos (keywordEach kws X.env))))
    (hpl : ((backTo pos (starEach [] X.env)).any (·.1) || (backToKw pos (keywordEach kws X.env)).any (·.1.isNone)) = false) :
    PE X (.Call (.Attribute a m apos) [] kws pos) (tCMS C 0 ks.length sp gV E ta tNil tk) := by
  refine ⟨fun pins s σ H Q I h => ?_⟩
  refine PySem.W.methodCall_KW (pl := pl) (thn (he.run pins s σ H _ I h) fun u s1 ⟨x, H1, I1, rx, ex, q⟩ => ?_) ht
  subst ex
  obtain rfl : u = Value.ref C := rx
  refine ClX.getmethcm_ok I1 r cm fun s2 I2 => ?_
  have q : tk σ H1 fun zs H3 => ([] : List V).length = 0 ∧ zs.length = ks.length ∧ sp (gV [.ref C] zs) H3 Q (E σ) := q
  refine PySem.W.callWith_of hpl (PySem.W.keeps_M (q := s1.heap.objs.size) (self := .ref C) cm.fi) (PyProof.Rows.evalArgs_kw2_nil hall (thn (hkw.run pos _ s2 σ H1 _ I2 q) fun ws s4 ⟨zs, H3, I4, rz, l1, l2, q3⟩ => ⟨⟨ClX.pin_at I4, I4.kIn⟩, ?_⟩))
  rw [hks]
  exact run_cmKS (n := 0) (us := []) (vs := []) F hr hb (hx σ) I4 .nil rz rfl l2 q3
structure CMeth (P : Program) (w : World) (K : PySem.W.Frag) (mg : Str → Option Value) (base : Heap) (C : Addr) (m : Str) (k : Nat) (ps : List Str) (R : FSpec) (n : Nat) (ks : List Str) (gL : List Value → List Value → List Value) (gV : List V → List V → List V) : Prop where
  ex : ∃ (mc : Value) (pc g : Addr) (fd : FuncData), ClX.CRead K C mc ∧ ClX.CMet K C mc m pc g ∧ FnOk P w K mg base (L2.CX P w) k g fd ps (spF K R) ∧ KBn K fd ps (n + 1) ks gL gV
theorem re_cm {n : Nat} {ks : List Str} {gL : List Value → List Value → List Value} {gV : List V → List V → List V} {pl : Sem Bool} {kws : List Keyword} {zs : List D} (tk : Takes X W) (T : CMeth X.prog X.w X.K X.mg X.base C m k ps R n ks gL gV) (hr : Room k X.A) (hc : RE X W p ρ c a (.val (.cls C) nw c1))
    (ha : RA X W p ρ c1 (e :: es) (.val ds c2)) (hkw : RK X W p ρ c2 kws (.val zs c3)) (hn : ds.length = n) (hl : zs.length = ks.length) {gD : List D} (hg : ∀ {H : Hp} {vs us : List V}, DVs X.K p H vs (.cls C :: ds) → DVs X.K p H us zs → DVs X.K p H (gV vs us) gD) (ho : R gD c3 o)
    (ht : eval (.Call (.Attribute a m apos) (e :: es) kws pos) X.env = (do
      let ov ← eval a X.env
      standAt apos.atName
      let (f, first) ← holding [ov] (getMethod ov m pl)
      callWith pos f first (backTo pos (starEach (e :: es) X.env)) (backToKw pos (keywordEach kws X.env))) := by rfl)
    (hall : (backToKw pos (keywordEach kws X.env)).all (·.1.isSome) = true := by rfl) (hks : (backToKw pos (keywordEach kws X.env)).filterMap (·.1) = ks := by rfl) (hst : starEach (e :: es) X.env = (false, eval e X.env) :: starEach es X.env := by rfl)
    (hpl : ((backTo pos (starEach (e :: es) X.env)).any (·.1) || (backToKw pos (keywordEach kws X.env)).any (·.1.isNone)) = false := by rfl) : RE X W p ρ c (.Call (.Attribute a m apos) (e :: es) kws pos) o := by
  obtain ⟨mc, pc, g, fd, h1, h2, h3, h4⟩ := T.ex
  refine pe_imp (pe_cmKS hc h1 h2 h3 hr h4 (fun σ => passAt tk σ) ha hkw hall hks ht hst hpl) fun σ H Q h => ⟨tE_sr h, fun v H1 e1 p1 dv _ => ?_⟩
  cases dv
  exact ⟨rfl, (tE_sr h).mono e1 p1, fun vs H2 e2 p2 dvs => ⟨((tE_sr h).mono e1 p1).mono e2 p2, fun us H3 e3 p3 dus => ⟨by rw [dvs.length]; exact hn, by rw [dus.length]; exact hl, p, c3, gD, o, hg (.cons (.cls C) (dvs.mono e3)) dus, p3, ho, fo_at h ((e1.trans e2).trans e3)⟩⟩⟩
theorem re_cm0 {ks : List Str} {gL : List Value → List Value → List Value} {gV : List V → List V → List V} {pl : Sem Bool} {kws : List Keyword} {zs : List D} (tk : Takes X W) (T : CMeth X.prog X.w X.K X.mg X.base C m k ps R 0 ks gL gV) (hr : Room k X.A) (hc : RE X W p ρ c a (.val (.cls C) nw c1))
    (hkw : RK X W p ρ c1 kws (.val zs c3)) (hl : zs.length = ks.length) {gD : List D} (hg : ∀ {H : Hp} {vs us : List V}, DVs X.K p H vs [.cls C] → DVs X.K p H us zs → DVs X.K p H (gV vs us) gD) (ho : R gD c3 o)
    (ht : eval (.Call (.Attribute a m apos) [] kws pos) X.env = (do
      let ov ← eval a X.env
      standAt apos.atName
      let (f, first) ← holding [ov] (getMethod ov m pl)
      callWith pos f first (backTo pos (starEach [] X.env)) (backToKw pos (keywordEach kws X.env))) := by rfl)
    (hall : (backToKw pos (keywordEach kws X.env)).all (·.1.isSome) = true := by rfl) (hks : (backToKw pos (keywordEach kws X.env)).filterMap (·.1) = ks := by rfl)
    (hpl : ((backTo pos (starEach [] X.env)).any (·.1) || (backToKw pos (keywordEach kws X.env)).any (·.1.isNone)) = false := by rfl) : RE X W p ρ c (.Call (.Attribute a m apos) [] kws pos) o := by
  obtain ⟨mc, pc, g, fd, h1, h2, h3, h4⟩ := T.ex
  refine pe_imp (pe_cmKS0 hc h1 h2 h3 hr h4 (fun σ => passAt tk σ) hkw hall hks ht hpl) fun σ H Q h => ⟨tE_sr h, fun v H1 e1 p1 dv _ => ?_⟩
  cases dv
  exact ⟨rfl, (tE_sr h).mono e1 p1, fun us H3 e3 p3 dus => ⟨rfl, by rw [dus.length]; exact hl, p, c3, gD, o, hg (.cons (.cls C) .nil) dus, p3, ho, fo_at h (e1.trans e3)⟩⟩
end
end LA

/-! a loop whose turn raises; a number's truth; an odd number -/
namespace LA
open PySem PySem.Spec PyProof.Rows L2
section
variable {X : Cx} {W : WX} {p : HD} {ρ : Rho} {c c1 : PC} {e tg it : Expr} {body : List Stmt} {pos : Pos} {xs : List D} {g : TG} {vs : List Nat} {nw : Bool} {C : Addr} {fs : List (Str × D)}
/-- n turns go on, then a turn raises -/
theorem rs_forX (n : Nat) (ρs ρt : Nat → Rho) (cs : Nat → PC) (hp : PassesOwn (model X.prog X.w) X.A X.env X.xe) (hc : X.calm = true) (h0 : ρs 0 = ρ) (hi : RI X W p ρ c tg it xs (cs 0)) (hg : PG X tg g)
    (htg : ∀ i d, xs[i]? = some d → i ≤ n → TgOk X.K g vs d (ρs i) (ρt i))
    (hb : ∀ i d, xs[i]? = some d → i < n → RSs X W p (ρt i) (cs i) body (.nx (ρs (i + 1)) (cs (i + 1))))
    {d : D} (h1 : xs[n]? = some d) (h3 : RSs X W p (ρt n) (cs n) body (.ex C fs c1)) (hl : (ρt n).length = ρ.length)
    (hs : ∀ x, foldedSetIterable it X.env x = pure x := by intro _; rfl) : RS X W p ρ c (.For tg it body [] pos) (.ex C fs c1) := by
  subst h0
  have hn : n ≤ xs.length := by
    have := (List.getElem?_eq_some_iff.mp h1).1
    omega
  have PU : PSs X body (fun De σ H => ∃ (i : Nat) (so : SO), RSs X W p (ρt i) (cs i) body so ∧ tSt X.K W p (ρt i) (cs i) so De σ H) := ⟨fun pins s σ H De I ⟨i, so, h1, h2⟩ => h1.run pins s σ H De I h2⟩
  refine ps_imp (ps_for hp hc hi hg PU hs) fun De σ H h => ?_
  refine ⟨st_sr h, fun J H1 e1 p1 yl => ?_⟩
  refine ⟨fun i m σ2 H2 => m = xs.length - i ∧ i ≤ n ∧ Ext p H1 H2 ∧ SR X.K p H2 σ2 (ρs i) (cs i), ⟨xs.length, by simp, Nat.zero_le _, Ext.refl _ _, (st_sr h).mono e1 p1⟩, ?_⟩
  rintro i m σ2 H2 ⟨rfl, hi', e2, s2⟩
  obtain ⟨hstop, hgo⟩ := yl p (cs i) H2 rfl e2.hide s2.pl
  by_cases hlt : i < n
  · have hd : xs[i]? = some (xs[i]'(Nat.lt_of_lt_of_le hlt hn)) := List.getElem?_eq_getElem _
    obtain ⟨g1, g2⟩ := hgo i _ hd
    refine .inr ⟨g1, fun σ' H' => Ext p H1 H' ∧ SR X.K p H' σ' (ρs (i + 1)) (cs (i + 1)), fun σ' H' ⟨a1, a2⟩ => ⟨xs.length - (i + 1), by omega, rfl, hlt, a1, a2⟩, fun x H3 hy => ?_⟩
    obtain ⟨e3, p3, dx⟩ := g2 x H3 hy
    refine (htg i _ hd hi').run p (cs i) x _ H3 _ dx (s2.mono e3 p3) p3 fun σ3 s3 _ => ⟨i, _, hb i _ hd hlt, s3, fun σ4 H4 e4 s4 => ⟨(e2.trans e3).trans e4, s4⟩⟩
  · have e : i = n := by omega
    subst e
    obtain ⟨g1, g2⟩ := hgo i _ h1
    refine .inr ⟨g1, fun _ _ => False, fun _ _ z => z.elim, fun x H3 hy => ?_⟩
    obtain ⟨e3, p3, dx⟩ := g2 x H3 hy
    refine (htg i _ h1 hi').run p (cs i) x _ H3 _ dx (s2.mono e3 p3) p3 fun σ3 s3 _ => ⟨i, _, h3, s3, fun ρ' dx fv σ4 H4 e4 s4 hl' hx hf => ?_⟩
    exact h.2 ρ' dx fv σ4 H4 (e1.trans (e2.trans (e3.trans e4))) s4 (hl'.trans hl) hx hf
theorem re_lcX {elt : Expr} {ifs : List Expr} {scope : Scope} {own : List (Str × Nat)} (hc : X.calm = true) (hN : X.N.Nodup) (h : RE X W p ρ c it (.ex C fs c1)) (ok : BlkOk X.N X.env.scope scope own)
    (hg : ∀ (s : Shared) (H : Hp) (C : Addr) (cl : List (Str × Addr)) (fp : List Addr), PG (X.blk s H scope (compEnvC scope cl C X.env) fp) tg g)
    (hs : ∀ x, foldedSetIterable it X.env x = pure x := by intro _; rfl) : RE X W p ρ c (.ListComp elt [⟨tg, it, ifs, 0⟩] scope pos) (.ex C fs c1) :=
  pe_imp (pe_lc (tt := fun _ _ _ => False) (te := fun _ _ _ => False) hc hN (pi_list h) ok hg (fun s H C cl fp => ⟨fun _ _ _ _ _ _ z => z.elim⟩) (fun s H C cl fp => ⟨fun _ _ _ _ _ _ z => z.elim⟩) hs) fun σ H Q h => h
theorem ov_odd {K : PySem.W.Frag} {n : Nat} : OV K p (fun x y H Q => ∃ n : Nat, x = .int (n : Int) ∧ y = .int 1 ∧ Q (.int ((n % 2 : Nat) : Int)) H) (.int ((n : Nat) : Int)) (.int 1) (.int ((n % 2 : Nat) : Int)) true c := fun v u H Q dv du hp k => by
  cases dv
  cases du
  exact ⟨n, rfl, rfl, k _ H (Ext.refl p H) hp (.int _) fun _ => New.sc (by intro a h; cases h)⟩
end
end LA

/-! a statement, a block that leaves a new list out of sight; its return, as new -/
namespace LA
open PySem PySem.Spec PyProof.Rows L2
section
variable {X : Cx} {W : WX} {p : HD} {as : List Addr} {ρ ρ1 ρ2 ρ' : Rho} {c c1 c2 c' cc : PC} {e t : Expr} {st st1 st2 : Stmt} {A B sts rest : List Stmt} {pos pos' : Pos} {g : G} {ds : List D} {so : SO} {x : Str}
/-- it ends with a new list out of sight -/
def tM (K : PySem.W.Frag) (p : HD) (ρ : Rho) (c : PC) (ρ1 : Rho) (cc : PC) : TS := fun De σ H => SR K p H σ ρ c ∧ ∀ a σ' H', (H a = none ∧ a ∉ p.m) → Ext p H H' → SR K (p.mut a) H' σ' ρ1 cc → De.nx σ' H'
theorem rm_one (i : Nat) (h : RN X p ρ c st i (.lst g ds) c1) (hds : lowDs 0 ds = true) : PS X st (tM X.K p ρ c (ρ.set i (some (.mut c1.length))) (c1 ++ [.lst ds])) :=
  ps_imp h fun De σ H ⟨s, k⟩ => ⟨s, fun v H1 e2 p1 dv hn => by
    cases dv with
    | @lst a vs _ _ hb hq r =>
      obtain ⟨⟨nA, nm⟩, pa, hc⟩ := hn a rfl
      obtain ⟨vs', hv, dvs⟩ := hc _ _ rfl
      exact k a _ _ ⟨nA, nm⟩ e2 (s.in' nA nm e2 pa hv dvs hds)⟩
theorem none_back {H H1 : Hp} {a : Addr} (e1 : Ext p H H1) (na : H1 a = none ∧ a ∉ p.m) : H a = none ∧ a ∉ p.m := by
  refine ⟨?_, na.2⟩
  cases q0 : H a with
  | none => rfl
  | some o =>
    have := e1 a o na.2 q0
    rw [na.1] at this
    cases this
theorem rm_cons (h1 : RS X W p ρ c st (.nx ρ' c')) (h2 : PSs X rest (tM X.K p ρ' c' ρ1 cc)) : PSs X (st :: rest) (tM X.K p ρ c ρ1 cc) :=
  pss_imp (pss_cons h1 h2) fun De σ H ⟨s, k⟩ => ⟨s, fun σ1 H1 e1 s1 => ⟨s1, fun a σ2 H2 na e2 s2 => k a σ2 H2 (none_back e1 na) (e1.trans e2) s2⟩⟩
theorem rm_last (h1 : PS X st (tM X.K p ρ c ρ1 cc)) : PSs X [st] (tM X.K p ρ c ρ1 cc) := pss_one h1
/-- one more statement behind it -/
theorem rm_more (h1 : PS X st1 (tM X.K p ρ c ρ1 cc)) (h2 : ∀ a, RS X W (p.mut a) ρ1 cc st2 (.nx ρ2 c2)) : PSs X [st1, st2] (tM X.K p ρ c ρ2 c2) := by
  have PU : PSs X [st2] (fun De σ H => ∃ a, tSt X.K W (p.mut a) ρ1 cc (.nx ρ2 c2) De σ H) := ⟨fun pins s σ H De I ⟨a, q⟩ => (pss_one (h2 a)).run pins s σ H De I q⟩
  refine pss_imp (pss_cons h1 PU) fun De σ H ⟨s, k⟩ => ⟨s, fun a σ1 H1 na e1 s1 => ⟨a, s1, fun σ2 H2 e2 s2 => k a σ2 H2 na ?_ s2⟩⟩
  exact fun b o n q => e2 b o (fun z => by
    rcases List.mem_append.mp z with z | z
    · exact n z
    · rw [List.mem_singleton.mp z, na.1] at q
      cases q) (e1 b o n q)
theorem rm_if (ht : RT X W p ρ c t (.val true c1)) (h : PSs X A (tM X.K p ρ c1 ρ1 cc)) : PS X (.If t A B pos) (tM X.K p ρ c ρ1 cc) :=
  ps_imp (ps_if ht h pss_never) fun De σ H ⟨s, k⟩ => ⟨s, fun H1 e1 p1 => ⟨s.mono e1 p1, fun a σ2 H2 na e2 s2 => k a σ2 H2 (none_back e1 na) (e1.trans e2) s2⟩⟩
theorem rso_m (h : PS X st (tM X.K (p.muts as) ρ c ρ1 cc)) (hl1 : ρ1.length = ρ.length) (hr : ∀ a, RSo X W p (a :: as) ρ1 cc rest so) : RSo X W p as ρ c (st :: rest) so := by
  have PU : PSs X rest (fun De σ H => ∃ a, tSo X.K W p (a :: as) ρ1 cc so De σ H) := ⟨fun pins s σ H De I ⟨a, h2⟩ => (hr a).run pins s σ H De I h2⟩
  refine pss_imp (pss_cons h PU) fun De σ H ⟨H0, σ0, ρ0, c0, na, e1, q, hl, s⟩ => ⟨s, fun a σ1 H1 nA e2 s1 => ?_⟩
  have n0 : H0 a = none ∧ a ∉ p.m := by
    have nmp : a ∉ p.m := fun z => nA.2 (by
      have key : ∀ (as : List Addr), a ∈ (p.muts as).m := fun as => by
        induction as with
        | nil => exact z
        | cons b r ih => exact List.mem_append.mpr (.inl ih)
      exact key as)
    refine ⟨?_, nmp⟩
    cases q0 : H0 a with
    | none => rfl
    | some o =>
      rw [e1 a o nmp q0] at nA
      cases nA.1
  exact ⟨a, H0, σ0, ρ0, c0, fun b m => (List.mem_cons.mp m).elim (fun z => by rw [z]; exact n0) (na b), ext_muts na e1 e2, q, hl1.trans hl, s1⟩
/-- the new list is returned -/
theorem rso_ret {a : Addr} (h : RE X W (p.mut a) ρ (c ++ [.lst ds]) e (.val (.mut c.length) false (c ++ [.lst ds]))) : RSo X W p [a] ρ (c ++ [.lst ds]) [.Return (some e) pos] (.rt (.lst ⟨false, true⟩ ds) true c) := by
  refine pss_imp (show RSs X W (p.mut a) ρ (c ++ [.lst ds]) [.Return (some e) pos] (.rt (.mut c.length) false (c ++ [.lst ds])) from rss_ret (rs_ret h)) fun De σ H ⟨H0, σ0, ρ0, c0, na, e1, q, hl, s⟩ => ⟨s, fun v H2 e2 p2 dv hnw => ?_⟩
  clear hnw
  have n0 := na a (List.mem_singleton.mpr rfl)
  have hn : p.m.length = c.length := by
    have := p2.1.2.1
    rw [List.length_append] at this
    have e : (p.m ++ [a]).length = c.length + 1 := this
    rw [List.length_append] at e
    exact Nat.succ.inj e
  have po : PoolAt X.K p H2 c := by
    have z := PoolAt.out (p := p) p2
    rw [hn, List.take_left'] at z
    · exact z
    · rfl
  have ha : (p.m ++ [a])[c.length]? = some a := by
    rw [← hn, List.getElem?_append_right (Nat.le_refl _)]
    simp
  obtain ⟨vs, hv2, dvs⟩ : CellAt X.K (p.mut a) H2 a (.lst ds) := p2.1.2.2 c.length a (.lst ds) ha (by simp)
  have eb : v = .ref a := by
    generalize hm : D.mut c.length = dm at dv
    cases dv <;> cases hm
    rename_i b hb
    have hb' : (p.m ++ [a])[c.length]? = some b := hb
    rw [ha] at hb'
    rw [Option.some.inj hb']
  subst eb
  have vis : hide p H2 a = some (.lst vs) := by
    rw [hide_ne]
    · exact hv2
    · rintro (z | z)
      · exact n0.2 z
      · obtain ⟨o, ho⟩ := (st_sr q).pl.2 a z
        rw [n0.1] at ho
        cases ho
  have e3 : Ext p H0 H2 := ext_muts (as := [a]) na e1 e2
  refine q.2 _ H2 e3 po (.lst ⟨(fun z => nomatch z), fun _ => vis⟩ (.inl (.inl vis)) (dvs.sub (fun b o y => by rw [hide_flat] at y; exact sub_mut b o y) fun i b z => by simp [HD.flat] at z)) fun _ b eb => ?_
  cases eb
  have sm : Sub (hide (p.mut a) H2) (hide (p.also a) H2) := fun b o z => by
    obtain ⟨z1, z2⟩ := hide_some z
    rw [hide_ne]
    · exact z1
    · rintro (y | y)
      · exact z2 (.inl (List.mem_append.mpr (.inl y)))
      · rcases List.mem_cons.mp y with y | y
        · exact z2 (.inl (List.mem_append.mpr (.inr (List.mem_singleton.mpr y))))
        · exact z2 (.inr y)
  refine ⟨n0, ⟨⟨po.1.1, po.1.2.1, fun i b y hb hy => ?_⟩, fun b m => ?_⟩, fun g ds' e' => ?_⟩
  · refine (p2.1.2.2 i b y (mut_at hb) ?_).sub sm rfl
    rw [List.getElem?_append_left (List.getElem?_eq_some_iff.mp hy).1]
    exact hy
  · rcases List.mem_cons.mp m with rfl | m
    · exact ⟨_, hv2⟩
    · exact po.2 b m
  · cases e'
    exact ⟨vs, hv2, dvs.sub (fun b o y => by rw [hide_flat] at y; exact sm b o y) fun i b z => by simp [HD.flat] at z⟩
end
end LA

/-! a list that changes, walked, searched, copied, emptied, and seen as one that does not -/
namespace LA
open PySem PySem.Spec PyProof.Rows L2
section
variable {X : Cx} {W : WX} {p : HD} {ρ ρ1 ρ2 ρ' : Rho} {c c1 c2 c' cc : PC} {e t : Expr} {tg it : Expr} {st : Stmt} {body : List Stmt} {pos : Pos} {g : TG} {gg : G} {ds xs : List D} {k : Nat} {x : Str} {nw : Bool} {d : D} {vs : List Nat} {K : PySem.W.Frag}
theorem dvs_unflat {H : Hp} {us : List V} (h : DVs K p.flat H us ds) : DVs K p H us ds := h.sub (fun b o y => by rw [hide_flat] at y; exact y) fun i b z => by simp [HD.flat] at z
/-- an iterator that yields the data xs while c stays -/
def YieldsM (K : PySem.W.Frag) (p : HD) (J : It) (xs : List D) (c : PC) (H0 : Hp) : Prop :=
  ∀ (q : HD) (H1 : Hp), q.m = p.m → Sub (hide p H0) (hide q H1) → PoolAt K q H1 c →
    J.stop xs.length H1 ∧ ∀ i d, xs[i]? = some d → J.go i H1 ∧ ∀ x H2, J.yld i H1 x H2 → Ext q H1 H2 ∧ PoolAt K q H2 c ∧ DV K q H2 x d
def tIM (K : PySem.W.Frag) (W : WX) (p : HD) (ρ : Rho) (c : PC) (xs : List D) (c' : PC) : TI := fun σ H R => SR K p H σ ρ c ∧ ∀ J H', Ext p H H' → PoolAt K p H' c' → YieldsM K p J xs c' H' → R J H'
theorem ri_mut (h : RE X W p ρ c e (.val (.mut k) nw c1)) (hc : c1[k]? = some (.lst xs)) : PI X tg e (tIM X.K W p ρ c xs c1) :=
  pi_imp (pi_list h) fun σ H R ⟨s, kk⟩ => ⟨s, fun v H1 e1 p1 dv _ => by
    obtain ⟨a, us, rfl, ha, hv, r⟩ := mut_lst dv p1 hc
    refine ⟨a, rfl, ⟨us, .inl (.inl hv)⟩, kk _ H1 e1 p1 fun q H2 qe qs p2 => ?_⟩
    have ha2 : q.m[k]? = some a := by rw [qe]; exact ha
    obtain ⟨us2, hv2, r2⟩ : CellAt X.K q H2 a (.lst xs) := p2.1.2.2 k a _ ha2 hc
    have hq2 : SqL X.K H2 a us2 := .inl (.inl hv2)
    refine ⟨⟨us2, hq2, Nat.le_of_eq r2.length⟩, fun i d hd => ?_⟩
    obtain ⟨v, h1, h2⟩ := (dvs_unflat r2).get hd
    refine ⟨⟨us2, v, hq2, h1⟩, fun x H3 y => ?_⟩
    obtain ⟨rfl, h3⟩ := y
    have e' : x = v := Option.some.inj ((h3 us2 hq2).symm.trans h1)
    subst e'
    exact ⟨Ext.refl _ _, p2, h2⟩⟩
/-- all turns go on, and c stays -/
theorem rs_forM (ρs ρt : Nat → Rho) (hp : PassesOwn (model X.prog X.w) X.A X.env X.xe) (hc : X.calm = true) (h0 : ρs 0 = ρ) (hi : PI X tg it (tIM X.K W p ρ c xs c1)) (hg : PG X tg g)
    (htg : ∀ i d, xs[i]? = some d → TgOk X.K g vs d (ρs i) (ρt i))
    (hb : ∀ i d, xs[i]? = some d → RSs X W p (ρt i) c1 body (.nx (ρs (i + 1)) c1))
    (hs : ∀ x, foldedSetIterable it X.env x = pure x := by intro _; rfl) : RS X W p ρ c (.For tg it body [] pos) (.nx (ρs xs.length) c1) := by
  subst h0
  have PU : PSs X body (fun De σ H => ∃ (i : Nat) (so : SO), RSs X W p (ρt i) c1 body so ∧ tSt X.K W p (ρt i) c1 so De σ H) := ⟨fun pins s σ H De I ⟨i, so, h1, h2⟩ => h1.run pins s σ H De I h2⟩
  refine ps_imp (ps_for hp hc hi hg PU hs) fun De σ H h => ?_
  refine ⟨st_sr h, fun J H1 e1 p1 yl => ?_⟩
  refine ⟨fun i m σ2 H2 => m = xs.length - i ∧ i ≤ xs.length ∧ Ext p H1 H2 ∧ SR X.K p H2 σ2 (ρs i) c1, ⟨xs.length, by simp, Nat.zero_le _, Ext.refl _ _, ⟨((st_sr h).mono e1 p1).len, ((st_sr h).mono e1 p1).at', p1⟩⟩, ?_⟩
  rintro i m σ2 H2 ⟨rfl, hi', e2, s2⟩
  obtain ⟨hstop, hgo⟩ := yl p H2 rfl e2.hide s2.pl
  by_cases hlt : i < xs.length
  · have hd : xs[i]? = some (xs[i]'hlt) := List.getElem?_eq_getElem _
    obtain ⟨g1, g2⟩ := hgo i _ hd
    refine .inr ⟨g1, fun σ' H' => Ext p H1 H' ∧ SR X.K p H' σ' (ρs (i + 1)) c1, fun σ' H' ⟨a1, a2⟩ => ⟨xs.length - (i + 1), by omega, rfl, hlt, a1, a2⟩, fun x H3 hy => ?_⟩
    obtain ⟨e3, p3, dx⟩ := g2 x H3 hy
    refine (htg i _ hd).run p c1 x _ H3 _ dx (s2.mono e3 p3) p3 fun σ3 s3 _ => ⟨i, _, hb i _ hd, s3, fun σ4 H4 e4 s4 => ⟨(e2.trans e3).trans e4, s4⟩⟩
  · have e : i = xs.length := by omega
    subst e
    exact .inl ⟨hstop, h.2 σ2 H2 (e1.trans e2) s2⟩
/-- x in a list that changes, of flat items -/
theorem ov_inM {y : D} {v : V} {ws : List V} {neg : Bool} (hc : c[k]? = some (.lst ds)) (hx : scD y = some v) (hs : ds.map scD = ws.map some) (fx : flatV v = true) (fs : ws.all flatV = true) :
    OV K p (rIn K neg) y (.mut k) (.bl (if neg then !inV v ws else inV v ws)) true c := fun v' u' H Q dv du hp kk => by
  have e1 := dv_sc dv hx
  subst e1
  obtain ⟨a, us, rfl, ha, hv, r⟩ := mut_lst du hp hc
  have e2 := dvs_sc r hs
  subst e2
  exact ⟨_, _, rfl, .inl (.inl (.inl hv)), fx, fs, kk _ H (Ext.refl p H) hp (.bl _) fun _ => New.sc (by intro a h; cases h)⟩
theorem cv_listM (hc : c[k]? = some (.lst ds)) : CV K p (fun vs H Q => ∃ p ys, vs = [.ref p] ∧ (SqL K H p ys ∨ SqT K H p ys) ∧ ∀ l, H l = none → Q (.ref l) (upd H l (.lst ys))) [.mut k] (.lst ⟨false, true⟩ ds) true c := fun vs H Q dvs hp kk => by
  cases dvs with
  | cons h1 r =>
    cases r
    obtain ⟨a, us, rfl, ha, hv, r⟩ := mut_lst h1 hp hc
    have r := dvs_unflat r
    exact ⟨_, _, rfl, .inl (.inl (.inl hv)), fun l nl => kk _ _ (Ext.new nl) (hp.upd nl) (.lst ⟨(fun z => nomatch z), fun _ => hide_upd hp nl⟩ (.inl (.inl (hide_upd hp nl))) (r.mono (Ext.new nl))) fun _ => New.lst hp nl r⟩
theorem cv_tupM (hc : c[k]? = some (.lst ds)) : CV K p (fun xs H Q => ∃ p ys, xs = [.ref p] ∧ ((SqL K H p ys ∧ ∀ l, H l = none → Q (.ref l) (upd H l (.tup ys))) ∨ (SqT K H p ys ∧ Q (.ref p) H))) [.mut k] (.tup ds) true c := fun vs H Q dvs hp kk => by
  cases dvs with
  | cons h1 r =>
    cases r
    obtain ⟨a, us, rfl, ha, hv, r⟩ := mut_lst h1 hp hc
    have r := dvs_unflat r
    exact ⟨_, _, rfl, .inl ⟨.inl (.inl hv), fun l nl => kk _ _ (Ext.new nl) (hp.upd nl) (.tup (.inl (.inl (hide_upd hp nl))) (r.mono (Ext.new nl))) fun _ => New.oth hp nl (by intro _ _ z; cases z)⟩⟩
/-- x.clear() -/
theorem rs_clear (i k : Nat) {xp apos cpos : Pos} (hc : c[k]? = some (.lst ds)) (hρ : ρ[i]? = some (some (.mut k)) := by rfl) (hN : X.N[i]? = some x := by rfl) (hv : Vis X.env.scope x := by first | exact Or.inl rfl | exact Or.inr (Or.inl rfl) | exact Or.inr (Or.inr rfl))
    (hd : (x == ("__debug__" : Str)) = false := by decide) (hcd : (x == ("__classdict__" : Str)) = false := by decide) (hline : (apos.endLine == cpos.line) = true := by rfl) (hsw : swapsWith (.Call (.Attribute (.Name x xp) "clear" apos) [] [] cpos) none pos.line X.env = pure false := by rfl)
    (hbase : attributeBase (.Name x xp) "clear" X.env (eval (.Name x xp) X.env) = eval (.Name x xp) X.env := by rfl) :
    RS X W p ρ c (.Expr (.Call (.Attribute (.Name x xp) "clear" apos) [] [] cpos) pos) (.nx ρ (c.set k (.lst []))) := by
  have PB := pe_bm0 (cpos := cpos) (apos := apos) PySem.F.plainAttrs_list PySem.F.slot_list_clear PySem.F.type_list_clear mt_clear (pe_var (pos := xp) hN hv hd hcd) hbase hline
  refine ps_imp (ps_expr PB hsw) fun De σ H h => ?_
  obtain ⟨o, q1, q2⟩ := h.1.at' i _ hρ
  obtain ⟨a, vs0, rfl, ha, hv0, _⟩ := mut_lst q2 h.1.pl hc
  have m : a ∈ p.m := List.mem_of_getElem? ha
  refine ⟨_, q1, .inl ⟨rfl, _, .inl (.inl hv0)⟩, a, vs0, rfl, rfl, hv0, ?_⟩
  exact h.2 σ _ (ext_upd m) (h.1.mono (ext_upd m) (h.1.pl.put ha ⟨_, upd_same, .nil⟩))
end
end LA

/-! a test asked while the last list that changes is seen as one that does not -/
namespace LA
open PySem PySem.Spec PyProof.Rows L2
def isSc : D → Bool
  | .non => true
  | .bl _ => true
  | .int _ => true
  | .str _ => true
  | _ => false
def ScCell (y : Cell) : Prop := ∃ es, y = .lst es ∧ es.all isSc = true
section
variable {K : PySem.W.Frag} {p q : HD} {H H' : Hp}
theorem dv_move {v : V} {d : D} (h : DV K p H v d) (e : isSc d = true) : DV K q H' v d := by
  cases h <;> first | (cases e; done) | constructor
theorem dvs_move : ∀ {vs : List V} {ds : List D}, DVs K p H vs ds → ds.all isSc = true → DVs K q H' vs ds
  | _, _, .nil, _ => .nil
  | _, _, .cons h r, e => by
    rw [List.all_cons, Bool.and_eq_true_iff] at e
    exact .cons (dv_move h e.1) (dvs_move r e.2)
end
inductive Frz (n : Nat) (ds : List D) : Rho → Rho → Prop
  | nil : Frz n ds [] []
  | non {r r' : Rho} : Frz n ds r r' → Frz n ds (none :: r) (none :: r')
  | low {d : D} {r r' : Rho} : lowD n d = true → Frz n ds r r' → Frz n ds (some d :: r) (some d :: r')
  | seen {r r' : Rho} : Frz n ds r r' → Frz n ds (some (.mut n) :: r) (some (.lst ⟨false, true⟩ ds) :: r')
theorem Frz.len {n : Nat} {ds : List D} : ∀ {r r' : Rho}, Frz n ds r r' → r.length = r'.length
  | _, _, .nil => rfl
  | _, _, .non h => by rw [List.length_cons, List.length_cons, Frz.len h]
  | _, _, .low _ h => by rw [List.length_cons, List.length_cons, Frz.len h]
  | _, _, .seen h => by rw [List.length_cons, List.length_cons, Frz.len h]
theorem Frz.get {n : Nat} {ds : List D} : ∀ {r r' : Rho}, Frz n ds r r' → ∀ (i : Nat) (d : D), r'[i]? = some (some d) → (r[i]? = some (some d) ∧ lowD n d = true) ∨ (d = .lst ⟨false, true⟩ ds ∧ r[i]? = some (some (.mut n)))
  | _, _, .nil, _, _, h => by simp at h
  | _, _, .non _, 0, _, h => by cases h
  | _, _, .non h, i + 1, d, z => Frz.get h i d z
  | _, _, .low l _, 0, _, h => by
    cases Option.some.inj (Option.some.inj h)
    exact .inl ⟨rfl, l⟩
  | _, _, .low _ h, i + 1, d, z => Frz.get h i d z
  | _, _, .seen _, 0, _, h => by
    cases Option.some.inj (Option.some.inj h)
    exact .inr ⟨rfl, rfl⟩
  | _, _, .seen h, i + 1, d, z => Frz.get h i d z
section
variable {X : Cx} {W : WX} {p : HD} {ρ ρf : Rho} {c c1 : PC} {t : Expr} {ds : List D} {b : Bool}
theorem rt_frz {a : Addr} (h : RT X W p ρf c t (.val b c1)) (fz : Frz c.length ds ρ ρf) (hz : p.z = []) (hs : ∀ y ∈ c1, ScCell y) : RT X W (p.mut a) ρ (c ++ [.lst ds]) t (.val b (c1 ++ [.lst ds])) := by
  refine pt_imp h fun σ H Q ⟨s, k⟩ => ?_
  have hn : p.m.length = c.length := by
    have := s.pl.1.2.1
    rw [List.length_append] at this
    have e : (p.m ++ [a]).length = c.length + 1 := this
    rw [List.length_append] at e
    exact Nat.succ.inj e
  have po : PoolAt X.K p H c := by
    have z := PoolAt.out (p := p) s.pl
    rw [hn, List.take_left'] at z
    · exact z
    · rfl
  have ha : (p.m ++ [a])[c.length]? = some a := by
    rw [← hn, List.getElem?_append_right (Nat.le_refl _)]
    simp
  have nda : a ∉ p.m := fun z => by
    have nd : (p.m ++ [a]).Nodup := s.pl.1.1
    exact (List.nodup_append.mp nd).2.2 a z a (List.mem_singleton.mpr rfl) rfl
  obtain ⟨vs, hv, dvs⟩ : CellAt X.K (p.mut a) H a (.lst ds) := s.pl.1.2.2 c.length a (.lst ds) ha (by simp)
  have vis : hide p H a = some (.lst vs) := by
    rw [hide_ne]
    · exact hv
    · rintro (z | z)
      · exact nda z
      · rw [hz] at z
        cases z
  refine ⟨⟨by rw [← fz.len]; exact s.len, fun i d q => ?_, po⟩, fun H1 e1 p1 => k H1 (fun x o n y => e1 x o (fun z => n (List.mem_append.mpr (.inl z))) y) ?_⟩
  · rcases fz.get i d q with ⟨q1, l⟩ | ⟨rfl, q1⟩
    · obtain ⟨v, h1, h2⟩ := s.at' i d q1
      exact ⟨v, h1, h2.low (n := c.length) sub_mut (fun i b li hi => at_mut (by rw [hn]; exact li) hi) l⟩
    · obtain ⟨v, h1, h2⟩ := s.at' i _ q1
      refine ⟨v, h1, ?_⟩
      obtain ⟨b, us, rfl, hb, hv2, r2⟩ := mut_lst h2 s.pl (ds := ds) (by simp)
      have eb : b = a := by
        have hb' : (p.m ++ [a])[c.length]? = some b := hb
        rw [ha] at hb'
        exact (Option.some.inj hb').symm
      subst eb
      exact .lst ⟨(fun z => nomatch z), fun _ => vis⟩ (.inl (.inl vis)) (dvs.sub (fun b o y => by rw [hide_flat] at y; exact sub_mut b o y) fun i b z => by simp [HD.flat] at z)
  · have hv1 : H1 a = some (.lst vs) := e1 a _ nda hv
    have pa : PoolAt X.K (p.also a) H1 c1 := by
      refine ⟨⟨p1.1.1, p1.1.2.1, fun i b y hb hy => ?_⟩, fun b m => ?_⟩
      · obtain ⟨es, rfl, he⟩ := hs y (List.mem_of_getElem? hy)
        obtain ⟨us, u1, u2⟩ : CellAt X.K p H1 b (.lst es) := p1.1.2.2 i b _ hb hy
        exact ⟨us, u1, dvs_move u2 he⟩
      · rcases List.mem_cons.mp m with rfl | m
        · exact ⟨_, hv1⟩
        · exact p1.2 b m
    refine pa.in' nda ⟨vs, hv1, dvs.sub (fun b o y => ?_) fun i b z => by simp [HD.flat] at z⟩
    rw [hide_flat] at y ⊢
    obtain ⟨y1, y2⟩ := hide_some y
    rw [hide_ne y2]
    exact e1 b o (fun z => y2 (.inl (List.mem_append.mpr (.inl z)))) y1
end
end LA

/-! what the head leaves of a classmethod -/
namespace LA
open PySem PySem.Spec PyProof.Rows L2
structure Gcm (K : PySem.W.Frag) (C : Addr) (m q : Str) (st : Stmt) : Prop where
  ex : ∃ p g fd, ClX.CRead K C (.type "type") ∧ ClX.CMet K C (.type "type") m p g ∧ Fun K m q st g fd
theorem gcm_mk {K : PySem.W.Frag} {C : Addr} {m q : Str} {st : Stmt} {p g : Addr} {rest : List Value} {oc kV dc pm cd ct : Value} {od an : Option Addr} {sl : Array (Option Value)} (rd : PySem.W.readsIn K C (.type "type") = true) (ga : PySem.W.specialIn K (.ref C) "__getattribute__" = some (some (.builtin "type.__getattribute__")))
    (a : PySem.W.findCls K (.ref C) (.type "type") m = some (.get (.builtin "classmethod.__get__") (.ref p) .none (.ref C))) (r : PySem.W.recIn K p "classmethod" = some (.ref g :: rest))
    (l : K.lookup g = some ⟨oc, od, .func (PySem.W.fnOf m q (defArgs st) (defBody st) (defScope st) .none kV dc pm an cd ct), sl⟩) (c : PySem.W.codeIn K cd q = true) (k : PySem.W.keepIn K (.ref g) = true) : Gcm K C m q st :=
  ⟨p, g, _, ⟨rd, ga⟩, ⟨a, ⟨rest, r⟩, by unfold PySem.W.fnIn; rw [l]⟩, fun_mk l c k⟩
end LA

/-! while -/
namespace LA
open PySem PySem.Spec PyProof.Rows L2
section
variable {X : Cx} {W : WX} {p : HD} {ρ : Rho} {c : PC} {t : Expr} {body : List Stmt} {pos : Pos}
/-- n turns, then the test fails -/
theorem rs_while (n : Nat) (ρs : Nat → Rho) (cs : Nat → PC) (hp : PassesOwn (model X.prog X.w) X.A X.env X.xe) (h0 : ρs 0 = ρ) (hc0 : cs 0 = c)
    (ht : ∀ i, i < n → RT X W p (ρs i) (cs i) t (.val true (cs i))) (hf : RT X W p (ρs n) (cs n) t (.val false (cs n)))
    (hb : ∀ i, i < n → RSs X W p (ρs i) (cs i) body (.nx (ρs (i + 1)) (cs (i + 1)))) : RS X W p ρ c (.While t body [] pos) (.nx (ρs n) (cs n)) := by
  subst h0
  subst hc0
  have PTt : PT X t (fun σ H Q => ∃ (i : Nat) (o : TO), RT X W p (ρs i) (cs i) t o ∧ tT X.K W p (ρs i) (cs i) o σ H Q) := ⟨fun pins s σ H Q I ⟨i, o, h1, h2⟩ => h1.run pins s σ H Q I h2⟩
  have PU : PSs X body (fun De σ H => ∃ (i : Nat) (so : SO), RSs X W p (ρs i) (cs i) body so ∧ tSt X.K W p (ρs i) (cs i) so De σ H) := ⟨fun pins s σ H De I ⟨i, so, h1, h2⟩ => h1.run pins s σ H De I h2⟩
  refine ps_imp (ps_while hp PTt PU) fun De σ H h => ?_
  refine ⟨fun m σ2 H2 => ∃ i, m = n - i ∧ i ≤ n ∧ Ext p H H2 ∧ SR X.K p H2 σ2 (ρs i) (cs i), ⟨n, 0, by simp, Nat.zero_le _, Ext.refl _ _, st_sr h⟩, ?_⟩
  rintro m σ2 H2 ⟨i, rfl, hi, e2, s2⟩
  by_cases hlt : i < n
  · refine ⟨i, _, ht i hlt, s2, fun H3 e3 p3 => ?_⟩
    exact ⟨fun σ' H' => Ext p H H' ∧ SR X.K p H' σ' (ρs (i + 1)) (cs (i + 1)), fun σ' H' ⟨a1, a2⟩ => ⟨n - (i + 1), by omega, i + 1, rfl, hlt, a1, a2⟩, i, _, hb i hlt, s2.mono e3 p3, fun σ4 H4 e4 s4 => ⟨(e2.trans e3).trans e4, s4⟩⟩
  · have e : i = n := by omega
    subst e
    refine ⟨i, _, hf, s2, fun H3 e3 p3 => ?_⟩
    exact iteF (h.2 σ2 H3 (e2.trans e3) (s2.mono e3 p3))
end
end LA

/-! keyword-only parameters with defaults; sum, max; {}; a pair with the list that changed -/
namespace LA
open PySem PySem.Spec PyProof.Rows L2
section
variable {X : Cx} {W : WX} {p : HD} {ρ ρ1 : Rho} {c c1 c2 : PC} {sts : List Stmt} {pos : Pos} {ds xs : List D} {b : D} {nw : Bool} {K : PySem.W.Frag} {g : G}
theorem rso_pair {a : Addr} (h : RSs X W (p.mut a) ρ c1 sts (.rt (.tup [.mut c.length, b]) nw (c ++ [.lst ds]))) (lb : lowD c.length b = true) : RSo X W p [a] ρ c1 sts (.rt (.tup [.lst ⟨false, true⟩ ds, b]) false c) := by
  refine pss_imp h fun De σ H q0 => ?_
  obtain ⟨H0, σ0, ρ0, c0, na, e1, q, hl, s⟩ := q0
  refine ⟨s, fun v H2 e2 p2 dv _ => ?_⟩
  have hz : a ∉ p.z := fun z => by
    obtain ⟨o, ho⟩ := (st_sr q).pl.2 a z
    rw [(na a List.mem_cons_self).1] at ho
    cases ho
  have hlen : p.m.length = c.length := by
    have := p2.1.2.1
    rw [List.length_append] at this
    have e : (p.m ++ [a]).length = c.length + 1 := this
    rw [List.length_append] at e
    exact Nat.succ.inj e
  have po : PoolAt X.K p H2 c := by
    have z := PoolAt.out (p := p) p2
    rw [hlen, List.take_left'] at z
    · exact z
    · rfl
  have ha : (p.m ++ [a])[c.length]? = some a := by
    rw [← hlen, List.getElem?_append_right (Nat.le_refl _)]
    simp
  have nda : a ∉ p.m := (na a List.mem_cons_self).2
  obtain ⟨vs, hv, dvs⟩ : CellAt X.K (p.mut a) H2 a (.lst ds) := p2.1.2.2 c.length a (.lst ds) ha (by simp)
  have vis : hide p H2 a = some (.lst vs) := by
    rw [hide_ne]
    · exact hv
    · rintro (z | z)
      · exact nda z
      · exact hz z
  refine q.2 v H2 (ext_muts (as := [a]) na e1 e2) po ?_ fun z => nomatch z
  cases dv with
  | tup hq r =>
    cases r with
    | cons h1 r =>
      cases r with
      | cons h2 r =>
        cases r
        refine .tup (Sub.sqT sub_mut hq) (.cons ?_ (.cons (h2.low (n := c.length) sub_mut (fun i b li hi => at_mut (by rw [hlen]; exact li) hi) lb) .nil))
        generalize hm : D.mut c.length = dm at h1
        cases h1 <;> cases hm
        rename_i b hb
        have eb : b = a := by
          have hb' : (p.m ++ [a])[c.length]? = some b := hb
          rw [ha] at hb'
          exact (Option.some.inj hb').symm
        subst eb
        exact .lst ⟨(fun z => nomatch z), fun _ => vis⟩ (.inl (.inl vis)) (dvs.sub (fun b o y => by rw [hide_flat] at y; exact sub_mut b o y) fun i b z => by simp [HD.flat] at z)
theorem re_dct0 : RE X W p ρ c (.Dict [] [] pos) (.val (.dct []) true c) :=
  pe_imp pe_dnewK fun σ H Q ⟨s, k⟩ => fun L nL => by
    have pq : PoolAt X.K p (upd H L (.dK [])) c := s.pl.upd nL
    refine k _ _ (Ext.new nL) pq (.dct (.inl (hide_upd s.pl nL)) .nil) fun _ => (fun b z => by
      cases z
      exact ⟨⟨nL, s.pl.not nL ∘ Or.inl⟩, s.pl.also nL, fun g ds z => nomatch z⟩)
theorem cv_sum {ns : List Int} : CV K p (rSum K) [.lst g (ns.map D.int)] (.int ns.sum) true c := fun vs H Q dvs hp k => by
  cases dvs with
  | cons h r =>
    cases r
    cases h with
    | lst hb hq ha =>
      rw [of_ints ha] at hq
      exact ⟨_, ns, rfl, un_sqL hq, k _ H (Ext.refl p H) hp (.int _) fun _ => New.sc (by intro a h; cases h)⟩
def mxL (ns : List Int) : Int := ns.tail.foldl max (ns.headD 0)
theorem mxL_ok : ∀ {ns : List Int} {m : Int}, m ∈ ns → (∀ y ∈ ns, y ≤ m) → m = mxL ns := by
  have key : ∀ (r : List Int) (a : Int), a ≤ r.foldl max a ∧ (∀ y ∈ r, y ≤ r.foldl max a) ∧ (r.foldl max a = a ∨ r.foldl max a ∈ r) := fun r => by
    induction r with
    | nil => exact fun a => ⟨Int.le_refl _, (fun y h => nomatch h), .inl rfl⟩
    | cons b r ih =>
      intro a
      obtain ⟨h1, h2, h3⟩ := ih (max a b)
      refine ⟨Int.le_trans (Int.le_max_left a b) h1, fun y hy => ?_, ?_⟩
      · rcases List.mem_cons.mp hy with rfl | hy
        · exact Int.le_trans (Int.le_max_right a y) h1
        · exact h2 y hy
      · show (r.foldl max (max a b) = a) ∨ r.foldl max (max a b) ∈ b :: r
        rcases h3 with h3 | h3
        · rw [h3]
          by_cases q : a ≤ b
          · rw [Int.max_eq_right q]
            exact .inr List.mem_cons_self
          · rw [Int.max_eq_left (by omega)]
            exact .inl rfl
        · exact .inr (List.mem_cons_of_mem _ h3)
  intro ns m hm hy
  cases ns with
  | nil => cases hm
  | cons a r =>
    obtain ⟨h1, h2, h3⟩ := key r a
    have u : mxL (a :: r) ≤ m := by
      rcases h3 with h3 | h3
      · show r.foldl max a ≤ m
        rw [h3]
        exact hy a List.mem_cons_self
      · exact hy _ (List.mem_cons_of_mem _ h3)
    have l : m ≤ mxL (a :: r) := by
      rcases List.mem_cons.mp hm with rfl | hm
      · exact h1
      · exact h2 m hm
    exact Int.le_antisymm l u
theorem cv_maxL {ns : List Int} (h0 : 0 < ns.length) : CV K p (rMax K) [.lst g (ns.map D.int)] (.int (mxL ns)) true c := fun vs H Q dvs hp k => by
  cases dvs with
  | cons h r =>
    cases r
    cases h with
    | lst hb hq ha =>
      rw [of_ints ha] at hq
      refine ⟨_, ns, rfl, un_sqL hq, h0, fun m h1 h2 => ?_⟩
      rw [mxL_ok h1 h2]
      exact k _ H (Ext.refl p H) hp (.int _) fun _ => New.sc (by intro a h; cases h)
end
/-! ### defs with keyword-only parameters that have defaults -/
structure Gk (K : PySem.W.Frag) (x : Str) (st : Stmt) (kws : List (Str × V)) : Prop where
  ex : ∃ f fd, PySem.W.nsIn K mainGlobals x = some (some (.ref f)) ∧ FunD K x x (defArgs st) (defBody st) (defScope st) [] kws f fd
section
variable {K : PySem.W.Frag} {x qual : Str} {params : Arguments} {body : List Stmt} {scope : Scope} {kws : List (Str × V)} {f : Addr} {fd : FuncData} {ps : List Str}
theorem gk1_mk {x k1 : Str} {st : Stmt} {f T : Addr} {oc dc pm cd ct : Value} {od an : Option Addr} {sl : Array (Option Value)} (a : PySem.W.nsIn K mainGlobals x = some (some (.ref f)))
    (l : K.lookup f = some ⟨oc, od, .func (PySem.W.fnOf x x (defArgs st) (defBody st) (defScope st) .none (.ref T) dc pm an cd ct), sl⟩) (n1 : PySem.W.nsIn K T k1 = some (some .none)) (c : PySem.W.codeIn K cd x = true) (k : PySem.W.keepIn K (.ref f) = true) : Gk K x st [(k1, .non)] :=
  ⟨⟨f, _, a, ⟨⟨oc, od, .none, .ref T, dc, pm, an, cd, ct, sl, rfl, l, c, .inl ⟨rfl, rfl⟩, .inr ⟨T, rfl, fun q hq => by
    rw [List.mem_singleton.mp hq]
    exact ⟨.none, n1, rfl⟩⟩⟩, k⟩⟩⟩
theorem gk2_mk {x k1 k2 : Str} {st : Stmt} {f T : Addr} {oc dc pm cd ct : Value} {od an : Option Addr} {sl : Array (Option Value)} (a : PySem.W.nsIn K mainGlobals x = some (some (.ref f)))
    (l : K.lookup f = some ⟨oc, od, .func (PySem.W.fnOf x x (defArgs st) (defBody st) (defScope st) .none (.ref T) dc pm an cd ct), sl⟩) (n1 : PySem.W.nsIn K T k1 = some (some .none)) (n2 : PySem.W.nsIn K T k2 = some (some .none)) (c : PySem.W.codeIn K cd x = true) (k : PySem.W.keepIn K (.ref f) = true) : Gk K x st [(k1, .non), (k2, .non)] :=
  ⟨⟨f, _, a, ⟨⟨oc, od, .none, .ref T, dc, pm, an, cd, ct, sl, rfl, l, c, .inl ⟨rfl, rfl⟩, .inr ⟨T, rfl, fun q hq => by
    rcases List.mem_cons.mp hq with rfl | hq
    · exact ⟨.none, n1, rfl⟩
    · rw [List.mem_singleton.mp hq]
      exact ⟨.none, n2, rfl⟩⟩⟩, k⟩⟩⟩
/-- f(e, .., k = v, ..): keywords named ks are written, those named ms lack (defaults None) -/
theorem FunD.kbinds0 (F : FunD K x qual params body scope [] kws f fd) (n : Nat) (ks ms : List Str) (g : List Value → List Value → List Value) (gV : List V → List V → List V) (hk : kws ≠ []) (hms : ∀ q ∈ ms, (q, V.non) ∈ kws)
    (hrel : ∀ {vs : List V} {us : List Value} {zs : List V} {ws : List Value}, Vals vs us → Vals zs ws → Vals (gV vs zs) (g us ws))
    (h : ∀ (D : Addr) (doc pm : Value) (an : Option Addr) (cdv ct : Value) (us ws : List Value), us.length = n → ws.length = ks.length →
      KwChain D (ms.map fun m => (m, Value.none)) (bindArgs (PySem.W.fnOf x qual params body scope .none (.ref D) doc pm an cdv ct) ⟨us, ks.zip ws⟩) (ps.zip (g us ws))) : KBn K fd ps n ks g gV := by
  obtain ⟨oc, od, dV, kV, doc, pm, an, cdv, ct, osl, rfl, lk, hcd, hD, hK⟩ := F.ex
  rcases hD with ⟨_, rfl⟩ | ⟨e, _⟩
  · rcases hK with e | ⟨D, rfl, hq⟩
    · exact absurd e hk
    · refine ⟨fun s us ws X l1 l2 => BindsTo.of_looks fun M => KwChain.looks X (fun q hqm => ?_) (h D doc pm an cdv ct us ws l1 l2), hrel⟩
      obtain ⟨m, hm, rfl⟩ := List.mem_map.mp hqm
      obtain ⟨u, e1, e2⟩ := hq _ (hms m hm)
      have e3 : u = Value.none := by cases u <;> first | rfl | exact absurd e2 (by intro z; cases z)
      rw [e3] at e1
      exact e1
  · exact absurd rfl e
end
/-! ### zip of two lists -/
def zipLL (xs ys : List D) : List D := (List.range (min xs.length ys.length)).map fun i => D.tup [xs.getD i .non, ys.getD i .non]
theorem zipLL_at {xs ys : List D} {i : Nat} {d : D} (h : (zipLL xs ys)[i]? = some d) : i < min xs.length ys.length ∧ d = D.tup [xs.getD i .non, ys.getD i .non] := by
  have l := (List.getElem?_eq_some_iff.mp h).1
  unfold zipLL at h l
  rw [List.length_map, List.length_range] at l
  rw [List.getElem?_map, List.getElem?_range l] at h
  exact ⟨l, (Option.some.inj h).symm⟩
section
variable {X : Cx} {W : WX} {p : HD} {ρ : Rho} {c c1 : PC} {e e2 : Expr} {pos : Pos}
theorem ri_zLL {ps tpos : Pos} {elts : List Expr} {kk : Nat} {g g2 : LA.G} {xs ys : List D} (hm : X.mg "zip" = none) (h : RA X W p ρ c [e, e2] (.val [.lst g xs, .lst g2 ys] c1)) (hg : Gl X "zip" := by rfl)
    (hs : starEach [e, e2] X.env = (false, eval e X.env) :: starEach [e2] X.env := by rfl) (hpl : (backTo pos (starEach [e2] X.env)).any (·.1) = false := by rfl) :
    RI X W p ρ c (.Tuple elts kk tpos) (.Call (.Name "zip" ps) [e, e2] [] pos) (zipLL xs ys) c1 :=
  pi_imp (pi_zip hg hm h hs hpl) fun σ H R ⟨s, k⟩ => ⟨s, fun vs H1 e1 p1 dvs => by
    match vs, dvs with
    | _, .cons (.lst (a := a) (xs := ws) hb hq r) (.cons (.lst (a := a2) (xs := ws2) hb2 hq2 r2) .nil) =>
      refine ⟨a, a2, ws, ws2, rfl, un_sqL hq, un_sqL hq2, k _ H1 e1 p1 fun q c' H2 qe qs p2 => ?_⟩
      have hq3 : SqL X.K H2 a ws := un_sqL (qs.sqL hq)
      have hq4 : SqL X.K H2 a2 ws2 := un_sqL (qs.sqL hq2)
      have len : (zipLL xs ys).length = min ws.length ws2.length := by
        unfold zipLL
        rw [List.length_map, List.length_range, r.length, r2.length]
      refine ⟨⟨ws, ws2, hq3, hq4, by omega⟩, fun i d hd => ?_⟩
      obtain ⟨li, rfl⟩ := zipLL_at hd
      have lx : i < xs.length := Nat.lt_of_lt_of_le li (Nat.min_le_left _ _)
      have ly : i < ys.length := Nat.lt_of_lt_of_le li (Nat.min_le_right _ _)
      obtain ⟨v, h1, h2⟩ := r.get (List.getElem?_eq_getElem lx)
      obtain ⟨v2, h3, h4⟩ := r2.get (List.getElem?_eq_getElem ly)
      refine ⟨⟨ws, ws2, v, v2, hq3, hq4, h1, h3⟩, fun x H3 y => ?_⟩
      obtain ⟨T, w, w2, rfl, hT, rfl, hw, hw2⟩ := y
      obtain rfl : w = v := Option.some.inj ((hw ws hq3).symm.trans h1)
      obtain rfl : w2 = v2 := Option.some.inj ((hw2 ws2 hq4).symm.trans h3)
      have ex : xs.getD i .non = xs[i] := by
        rw [List.getD_eq_getElem?_getD, List.getElem?_eq_getElem lx]
        rfl
      have ey : ys.getD i .non = ys[i] := by
        rw [List.getD_eq_getElem?_getD, List.getElem?_eq_getElem ly]
        rfl
      rw [ex, ey]
      exact ⟨Ext.new hT, p2.upd hT, .tup (.inl (.inl (hide_upd p2 hT))) (.cons ((h2.sub qs (fun i b zz => by rw [qe]; exact zz)).mono (Ext.new hT)) (.cons ((h4.sub qs (fun i b zz => by rw [qe]; exact zz)).mono (Ext.new hT)) .nil))⟩⟩
end
section
variable {X : Cx} {W : WX} {p : HD} {ρ ρ1 : Rho} {c c1 c2 : PC} {e : Expr} {es : List Expr} {pos xp : Pos} {k : Nat} {x : Str} {ps : List Str} {R : FSpec} {C : Addr} {fs : List (Str × D)} {d : D} {nw : Bool} {st : Stmt} {rest : List Stmt} {o : EO}
theorem body_cons (h1 : RS X W p ρ c st (.nx ρ1 c1)) (h2 : BodyOk X W p ρ1 c1 rest o) (hl : ρ1.length = ρ.length := by rfl) : BodyOk X W p ρ c (st :: rest) o := by
  cases o with
  | val d nw c' =>
    rcases h2 with h2 | ⟨h, ρ', h2⟩
    · exact .inl (rss_cons h1 h2 hl)
    · exact .inr ⟨h, ρ', rss_cons h1 h2 hl⟩
  | ex C fs c' => exact rss_cons h1 h2 hl
theorem re_c0Z (T : Def0 X.prog X.w X.K X.mg X.base k x ps R) (hr : Room k X.A) (ha : RA X W p ρ c (e :: es) (.ex C fs c1))
    (hg : Gl X x := by rfl) (hdb : (x == ("__debug__" : Str)) = false := by decide) (he : starEach (e :: es) X.env = (false, eval e X.env) :: starEach es X.env := by rfl) (hpl : (backTo pos (starEach es X.env)).any (·.1) = false := by rfl) :
    RE X W p ρ c (.Call (.Name x xp) (e :: es) [] pos) (.ex C fs c1) := by
  obtain ⟨f, fd, h1, h2, h3, h4⟩ := T.ex
  exact pe_imp (pe_call h1 hr hg h2 h3 h4 .nil pass0 ha hdb he hpl) fun σ H Q h => h
theorem ra_consZ (ha : RE X W p ρ c e (.val d nw c1)) (hr : RA X W p ρ c1 es (.ex C fs c2)) (hs : starEach (e :: es) X.env = (false, eval e X.env) :: starEach es X.env := by rfl) : RA X W p ρ c (e :: es) (.ex C fs c2) :=
  pa_imp (pa_cons ha hr hs) fun σ H Q ⟨s, k⟩ => ⟨s, fun v H1 e1 p1 dv _ => ⟨s.mono e1 p1, fun dx fv σ' H' e2 s2 hx hf => k dx fv σ' H' (e1.trans e2) s2 hx hf⟩⟩
end
section
variable {X : Cx} {W : WX} {p : HD} {ρ : Rho} {c c1 : PC} {e tg : Expr} {pos : Pos} {nw : Bool}
theorem ri_rangeN {ps : Pos} {m : Nat} (hm : X.mg "range" = none) (h : RE X W p ρ c e (.val (.int ((m : Nat) : Int)) nw c1)) (h1 : m ≤ 100000) (hg : Gl X "range" := by rfl) (hs : starEach [e] X.env = [(false, eval e X.env)] := by rfl) : RI X W p ρ c tg (.Call (.Name "range" ps) [e] [] pos) (intsD m) c1 := by
  have q := ri_range (tg := tg) (ps := ps) (pos := pos) hm h (by omega) (by omega) hg hs
  rw [Int.toNat_natCast] at q
  exact q
end
end LA

namespace K56
open PySem PySem.Spec PyProof.Rows L2 LA
open K36 (ev dep)
theorem set_last {α : Type} (c : List α) (x y : α) : (c ++ [x]).set c.length y = c ++ [y] := by
  induction c with
  | nil => rfl
  | cons a r ih =>
    show a :: (r ++ [x]).set r.length y = a :: (r ++ [y])
    rw [ih]
theorem chr_eq {a n : Nat} : (chr1 a = chr1 n) ↔ a = n := by
  constructor
  · intro h
    have := tx_inj (show tx [a] = tx [n] from h)
    exact (List.cons.inj this).1
  · intro h
    rw [h]
/-! ### going along a tree -/
def stG (w : List Nat) : Nat → Tr → List Int → Tr × List Int
  | 0, t, ps => (t, ps)
  | _ + 1, .leaf a, ps => (.leaf a, ps)
  | i + 1, .node p l r, ps => stG w i (if w.getD p.toNat 0 = 48 then l else r) (ps ++ [p])
def ln (w : List Nat) : Tr → Nat
  | .leaf _ => 0
  | .node p l r => (if w.getD p.toNat 0 = 48 then ln w l else ln w r) + 1
theorem ln_le (w : List Nat) : ∀ t : Tr, ln w t ≤ nodes t
  | .leaf _ => Nat.le_refl _
  | .node p l r => by
    have a := ln_le w l
    have b := ln_le w r
    unfold ln nodes
    split <;> omega
theorem stG_step (w : List Nat) : ∀ (i : Nat) (t : Tr) (ps : List Int), i < ln w t → ∃ p l r, (stG w i t ps).1 = .node p l r ∧ stG w (i + 1) t ps = (if w.getD p.toNat 0 = 48 then l else r, (stG w i t ps).2 ++ [p])
  | _, .leaf _, _, h => absurd h (Nat.not_lt_zero _)
  | 0, .node p l r, ps, _ => ⟨p, l, r, rfl, rfl⟩
  | i + 1, .node p l r, ps, h => by
    have h' : i < ln w (if w.getD p.toNat 0 = 48 then l else r) := by
      unfold ln at h
      split
      · rename_i q
        rw [if_pos q] at h
        omega
      · rename_i q
        rw [if_neg q] at h
        omega
    exact stG_step w i _ (ps ++ [p]) h'
theorem stG_end (w : List Nat) : ∀ (n : Nat) (t : Tr) (ps : List Int), n = ln w t → (stG w n t ps).1 = .leaf (ev w t)
  | n, .leaf a, ps, h => by
    subst h
    rfl
  | 0, .node p l r, ps, h => by
    unfold ln at h
    omega
  | n + 1, .node p l r, ps, h => by
    have h' : n = ln w (if w.getD p.toNat 0 = 48 then l else r) := by
      unfold ln at h
      split
      · rename_i q
        rw [if_pos q] at h
        omega
      · rename_i q
        rw [if_neg q] at h
        omega
    have := stG_end w n _ (ps ++ [p]) h'
    show (stG w n (if w.getD p.toNat 0 = 48 then l else r) (ps ++ [p])).1 = _
    rw [this]
    show _ = Tr.leaf (if w.getD p.toNat 0 = 48 then ev w l else ev w r)
    split <;> rfl
theorem stG_ok {n : Int} (w : List Nat) : ∀ (i : Nat) (t : Tr) (ps : List Int), okT n t = true → okT n (stG w i t ps).1 = true
  | 0, _, _, h => h
  | _ + 1, .leaf _, _, h => h
  | i + 1, .node p l r, ps, h => by
    obtain ⟨_, a, b⟩ := okT_node h
    exact stG_ok w i _ _ (by split <;> assumption)
theorem stG_len (w : List Nat) : ∀ (i : Nat) (t : Tr) (ps : List Int), (stG w i t ps).2.length ≤ ps.length + i
  | 0, _, _ => Nat.le_refl _
  | _ + 1, .leaf _, ps => by show ps.length ≤ _; omega
  | i + 1, .node p l r, ps => by
    have := stG_len w i (if w.getD p.toNat 0 = 48 then l else r) (ps ++ [p])
    rw [List.length_append] at this
    have e : [p].length = 1 := rfl
    show (stG w i (if w.getD p.toNat 0 = 48 then l else r) (ps ++ [p])).2.length ≤ ps.length + (i + 1)
    omega
abbrev iD (ps : List Int) : List D := ps.map D.int
theorem iD_low (n : Nat) : ∀ ps : List Int, lowDs n (iD ps) = true
  | [] => rfl
  | a :: r => iD_low n r
def goneR : FSpec := fun ds c o => ∃ (t : Tr) (w : List Nat), ds = [trD t, .str (tx w)] ∧ okT (w.length : Nat) t = true ∧ nodes t ≤ 60 ∧ w.length ≤ 6 ∧ o = .val (.tup [.lst ⟨false, true⟩ (iD (stG w (ln w t) t []).2), .int (ev w t)]) true c
section
variable {P : Program} {wd : World} {K : PySem.W.Frag} {mg : Str → Option Value} {base : Heap} {BT : Addr}
abbrev nGone : List Str := ["tree", "text", "places", "position", "low", "high"]
theorem scGone : FnScope nGone ["tree", "text"] (defScope (top 23)) := ⟨rfl, rfl, rfl, by decide +kernel, rfl, by decide +kernel, by decide +kernel⟩
abbrev wBd (st : Stmt) : List Stmt := match st with | .While _ b _ _ => b | _ => []
abbrev wTs (st : Stmt) : Expr := match st with | .While t _ _ _ => t | _ => .Name "" ⟨0, 0, 0, 0⟩
abbrev wPs (st : Stmt) : Pos := match st with | .While _ _ _ q => q | _ => ⟨0, 0, 0, 0⟩
theorem ok_gone {f : Addr} {fd : FuncData} (G : Glb mg) (F : Fun K "_gone" "_gone" (top 23) f fd) : FnOk P wd K mg base CX0 1 f fd ["tree", "text"] (spF K goneR) := by
  refine fn_val F scGone (fun ds c o h => ?_) (fun ds c o h => ?_) (fun cdv A outer s H E hr p ds c o h => ?_)
  · obtain ⟨t, w, rfl, _⟩ := h
    rfl
  · obtain ⟨t, w, _, _, _, _, rfl⟩ := h
    exact ⟨_, _, _, rfl⟩
  · obtain ⟨t, w, rfl, ho, hn, hw, rfl⟩ := h
    have zt : (tx w).length ≤ sizeLine := sz_le (by rw [tx_len]; omega)
    have lnl := ln_le w t
    let X := (cxOf CX0 P wd K mg base nGone "_gone" (defScope (top 23)) f cdv A outer s H E).nox
    refine .inl (rso_of (rso_new (g := ⟨true, true⟩) (ds := []) (c1 := c) 2 (rn_set (W := Wf) 2 scGone.nd (re_lst ra_nil (by show 0 ≤ 100000; decide))) rfl fun a => ?_))
    let ρs : Nat → Rho := fun i => [some (trD (stG w i t []).1), some (.str (tx w)), some (.mut c.length), none, none, none]
    let cs : Nat → PC := fun i => c ++ [.lst (iD (stG w i t []).2)]
    have loop := rs_while (X := X) (W := Wf) (p := HD.muts p [a]) (ρ := ρs 0) (c := cs 0) (t := wTs ((defBody (top 23)).getD 1 (.Pass ⟨0, 0, 0, 0⟩))) (body := wBd ((defBody (top 23)).getD 1 (.Pass ⟨0, 0, 0, 0⟩))) (pos := wPs ((defBody (top 23)).getD 1 (.Pass ⟨0, 0, 0, 0⟩))) (ln w t) ρs cs PassesOwn.never rfl rfl
      (fun i hi => by
        obtain ⟨k, l, r, e1, e2⟩ := stG_step w i t [] hi
        show RT X Wf _ [some (trD (stG w i t []).1), some (.str (tx w)), some (.mut c.length), none, none, none] (cs i) _ (.val true (cs i))
        rw [e1]
        exact rt_val (re_callB (d := .bl true) call_isi G.isi PyProof.Rows.boot_isinstance (ra_cons (re_var 0) (ra_cons (re_ty G.tuple PyProof.Rows.boot_tuple) ra_nil)) (cv_isi (t := "tuple") rfl rfl)))
      (by
        have e1 := stG_end w (ln w t) t [] rfl
        show RT X Wf _ [some (trD (stG w (ln w t) t []).1), some (.str (tx w)), some (.mut c.length), none, none, none] (cs (ln w t)) _ (.val false (cs (ln w t)))
        rw [e1]
        exact rt_val (re_callB (d := .bl false) call_isi G.isi PyProof.Rows.boot_isinstance (ra_cons (re_var 0) (ra_cons (re_ty G.tuple PyProof.Rows.boot_tuple) ra_nil)) (cv_isi (t := "int") rfl rfl)))
      (fun i hi => by
        obtain ⟨k, l, r, e1, e2⟩ := stG_step w i t [] hi
        have oi := stG_ok (n := (w.length : Nat)) w i t [] ho
        rw [e1] at oi
        obtain ⟨hk, _, _⟩ := okT_node oi
        have ek : k = ((k.toNat : Nat) : Int) := (Int.toNat_of_nonneg hk.1).symm
        have hkl : k.toNat < w.length := by omega
        have len := stG_len w i t []
        have at_ : (tx w).cps.toList[k.toNat]? = some (w.getD k.toNat 0) := at_get hkl
        have q48 := ov_eqT (K := K) (p := HD.muts p [a]) (c := cs (i + 1)) (i := chr1 (w.getD k.toNat 0)) (j := chr1 48)
        have c48 : decide (chr1 (w.getD k.toNat 0) = chr1 48) = decide (w.getD k.toNat 0 = 48) := decide_eq_decide.mpr chr_eq
        rw [c48] at q48
        have ecs : cs (i + 1) = c ++ [.lst (iD (stG w i t []).2 ++ [.int k])] := by
          show c ++ [.lst (iD (stG w (i + 1) t []).2)] = _
          rw [e2]
          show c ++ [.lst (((stG w i t []).2 ++ [k]).map D.int)] = _
          rw [List.map_append]
          rfl
        have ers : ρs (i + 1) = [some (trD (if w.getD k.toNat 0 = 48 then l else r)), some (.str (tx w)), some (.mut c.length), none, none, none] := by
          show [some (trD (stG w (i + 1) t []).1), _, _, _, _, _] = _
          rw [e2]
        refine rss_less (ρ1 := [some (trD (if w.getD k.toNat 0 = 48 then l else r)), some (.str (tx w)), some (.mut c.length), some (.int k), some (trD l), some (trD r)]) ?_ (by rw [ers]; exact .same (.same (.same (.skip (.skip (.skip .nil))))))
        show RSs X Wf _ [some (trD (stG w i t []).1), some (.str (tx w)), some (.mut c.length), none, none, none] (cs i) _ _
        rw [e1]
        refine rss_cons (c1 := cs i) (ρ1 := [some (trD (.node k l r)), some (.str (tx w)), some (.mut c.length), some (.int k), some (trD l), some (trD r)]) (rs_tg (re_var 0) (pg_tup rfl (pgs_cons (pg_name (i := 3) scGone.nd rfl (Or.inl rfl)) (pgs_cons (pg_name (i := 4) scGone.nd rfl (Or.inl rfl)) (pgs_cons (pg_name (i := 5) scGone.nd rfl (Or.inl rfl)) pgs_nil)))) (tg_three (vs := [3, 4, 5]) (by decide) (by decide) (by decide))) ?_
        have app := rs_app (X := X) (W := Wf) (p := HD.muts p [a]) (ρ := [some (trD (.node k l r)), some (.str (tx w)), some (.mut c.length), some (.int k), some (trD l), some (trD r)]) (c := cs i) (c1 := cs i) (e := match (wBd ((defBody (top 23)).getD 1 (.Pass ⟨0, 0, 0, 0⟩))).getD 1 (.Pass ⟨0, 0, 0, 0⟩) with | .Expr (.Call _ (e :: _) _ _) _ => e | _ => .Name "" ⟨0, 0, 0, 0⟩) (d := .int k) (nw := false) (ds := iD (stG w i t []).2) (x := "places") (pos := match (wBd ((defBody (top 23)).getD 1 (.Pass ⟨0, 0, 0, 0⟩))).getD 1 (.Pass ⟨0, 0, 0, 0⟩) with | .Expr _ q => q | _ => ⟨0, 0, 0, 0⟩) (cpos := match (wBd ((defBody (top 23)).getD 1 (.Pass ⟨0, 0, 0, 0⟩))).getD 1 (.Pass ⟨0, 0, 0, 0⟩) with | .Expr (.Call _ _ _ q) _ => q | _ => ⟨0, 0, 0, 0⟩) (apos := match (wBd ((defBody (top 23)).getD 1 (.Pass ⟨0, 0, 0, 0⟩))).getD 1 (.Pass ⟨0, 0, 0, 0⟩) with | .Expr (.Call (.Attribute _ _ q) _ _ _) _ => q | _ => ⟨0, 0, 0, 0⟩) (xp := match (wBd ((defBody (top 23)).getD 1 (.Pass ⟨0, 0, 0, 0⟩))).getD 1 (.Pass ⟨0, 0, 0, 0⟩) with | .Expr (.Call (.Attribute (.Name _ q) _ _) _ _ _) _ => q | _ => ⟨0, 0, 0, 0⟩) 2 c.length (re_var 3) ⟨iD (stG w i t []).2, by show (c ++ [_])[c.length]? = _; simp⟩ (by show (c ++ [_])[c.length]? = _; simp) (by rw [List.length_map]; simp at len; omega) rfl
        have es : (cs i).set c.length (.lst (iD (stG w i t []).2 ++ [.int k])) = cs (i + 1) := by
          rw [ecs]
          exact set_last _ _ _
        rw [es] at app
        refine rss_cons app ?_
        by_cases h : w.getD k.toNat 0 = 48
        · rw [if_pos h]
          exact rss_cons (rs_set (nw := false) 0 scGone.nd (re_if (k := true) (rt_to (rt_cmp op_eq (re_ix ix_seq (re_var 1) (re_var 3) (ov_ixS zt ek at_)) re_str q48) (decide_eq_true h)) (fun _ => re_var 4) fun z => nomatch z)) rss_nil
        · rw [if_neg h]
          exact rss_cons (rs_set (nw := false) 0 scGone.nd (re_if (k := false) (rt_to (rt_cmp op_eq (re_ix ix_seq (re_var 1) (re_var 3) (ov_ixS zt ek at_)) re_str q48) (decide_eq_false h)) (fun z => nomatch z) fun _ => re_var 5)) rss_nil)
    refine rso_cons loop ?_
    have e1 := stG_end w (ln w t) t [] rfl
    show RSo X Wf p [a] [some (trD (stG w (ln w t) t []).1), some (.str (tx w)), some (.mut c.length), none, none, none] (c ++ [.lst (iD (stG w (ln w t) t []).2)]) _ _
    rw [e1]
    refine rso_frz (ds := iD (stG w (ln w t) t []).2) (c := c) 2 (rso_in ?_) rfl (.one rfl (.one rfl (.non (.non (.non (.non .nil))))))
    exact rss_ret (rs_ret (re_tup (ra_cons (re_var 2) (ra_cons (re_var 0) ra_nil)) (by show 2 ≤ 100000; decide)))
abbrev GoneD (P : Program) (w : World) (K : PySem.W.Frag) (mg : Str → Option Value) (base : Heap) := Def0 P w K mg base 1 "_gone" ["tree", "text"] goneR
end
end K56

namespace K56
open PySem PySem.Spec PyProof.Rows L2 LA
open K36 (ev dep)
/-! ### amounts, ways -/
def itemsOf : D → Option (List D)
  | .lst _ xs => some xs
  | .tup xs => some xs
  | _ => none
def amI : D → Bool
  | .int i => decide (0 ≤ i)
  | _ => false
def amB (n : Int) (d : D) : Bool := match itemsOf d with
  | some xs => decide ((xs.length : Int) = n) && xs.all amI
  | none => false
structure AmFit (d : D) : Prop where
  ty : Ty d
  its : ∀ xs, itemsOf d = some xs → xs.length ≤ 1000 ∧ ∀ x ∈ xs, Ty x
def amR : FSpec := fun ds c o => ∃ d n, ds = [d, .int n] ∧ AmFit d ∧ o = .val (.bl (amB n d)) true c
def pth (w : List Nat) : Tr → List Int
  | .leaf _ => []
  | .node p l r => p :: (if w.getD p.toNat 0 = 48 then pth w l else pth w r)
theorem stG_pth (w : List Nat) : ∀ (n : Nat) (t : Tr) (ps : List Int), n = ln w t → (stG w n t ps).2 = ps ++ pth w t
  | n, .leaf a, ps, h => by
    subst h
    show ps = ps ++ []
    rw [List.append_nil]
  | 0, .node p l r, ps, h => by
    unfold ln at h
    omega
  | n + 1, .node p l r, ps, h => by
    have h' : n = ln w (if w.getD p.toNat 0 = 48 then l else r) := by
      unfold ln at h
      split
      · rename_i q
        rw [if_pos q] at h
        omega
      · rename_i q
        rw [if_neg q] at h
        omega
    have := stG_pth w n _ (ps ++ [p]) h'
    show (stG w n (if w.getD p.toNat 0 = 48 then l else r) (ps ++ [p])).2 = _
    rw [this, List.append_assoc]
    show ps ++ (p :: pth w (if w.getD p.toNat 0 = 48 then l else r)) = ps ++ (p :: (if w.getD p.toNat 0 = 48 then pth w l else pth w r))
    split <;> rfl
theorem pth_len (w : List Nat) : ∀ t : Tr, (pth w t).length = ln w t
  | .leaf _ => rfl
  | .node p l r => by
    have a := pth_len w l
    have b := pth_len w r
    unfold pth ln
    split
    · rw [List.length_cons, a]
    · rw [List.length_cons, b]
theorem pth_in {n : Int} (w : List Nat) : ∀ t : Tr, okT n t = true → ∀ q ∈ pth w t, 0 ≤ q ∧ q < n
  | .leaf _, _, q, hq => nomatch hq
  | .node p l r, h, q, hq => by
    obtain ⟨a, b, c⟩ := okT_node h
    unfold pth at hq
    rcases List.mem_cons.mp hq with rfl | hq
    · exact a
    · split at hq
      · exact pth_in w l b q hq
      · exact pth_in w r c q hq
/-- what a way asks for: three ends -/
def wayR (BI BT : Addr) (v : Tr → List Nat → D) (nw : Bool) : FSpec := fun ds c o => (∃ d1 d2, ds = [d1, d2] ∧ Fit d2 ∧ isW bins d2 = false ∧ o = .ex BI [("given", d2)] c) ∨
  (∃ (d1 : D) (w : List Nat), ds = [d1, .str (tx w)] ∧ Fit (.str (tx w)) ∧ isW bins (.str (tx w)) = true ∧ w.length ≤ 6 ∧ Deep 40 d1 ∧ isT 40 (w.length : Nat) d1 = false ∧ o = .ex BT [("given", d1)] c) ∨
  ∃ (t : Tr) (w : List Nat), ds = [trD t, .str (tx w)] ∧ Fit (.str (tx w)) ∧ isW bins (.str (tx w)) = true ∧ w.length ≤ 6 ∧ okT (w.length : Nat) t = true ∧ nodes t ≤ 40 ∧ o = .val (v t w) nw c
abbrev cwR (BI BT : Addr) : FSpec := wayR BI BT (fun _ _ => .non) true
abbrev lkR (BI BT : Addr) : FSpec := wayR BI BT (fun t w => .lst ⟨false, true⟩ (iD (pth w t))) false
section
variable {P : Program} {wd : World} {K : PySem.W.Frag} {mg : Str → Option Value} {base : Heap} {BI BT Cn BP BC : Addr}
theorem scAm : FnScope ["value", "count", "item"] ["value", "count"] (defScope (top 11)) := ⟨rfl, rfl, rfl, by decide +kernel, rfl, by decide +kernel, by decide +kernel⟩
theorem ok_am {f : Addr} {fd : FuncData} (G : Glb mg) (T : WholeD P wd K mg base) (F : Fun K "are_amounts" "are_amounts" (top 11) f fd) : FnOk P wd K mg base CX0 2 f fd ["value", "count"] (spF K amR) := by
  refine fn_val F scAm (fun ds c o h => ?_) (fun ds c o h => ?_) (fun cdv A outer s H E hr p ds c o h => ?_)
  · obtain ⟨d, n, rfl, _⟩ := h
    rfl
  · obtain ⟨d, n, _, _, rfl⟩ := h
    exact ⟨_, _, _, rfl⟩
  · obtain ⟨d, n, rfl, fd', rfl⟩ := h
    obtain ⟨t, ht⟩ := fd'.ty
    have seq : ∀ xs, itemsOf d = some xs → BodyOk (cxOf CX0 P wd K mg base ["value", "count", "item"] "are_amounts" (defScope (top 11)) f cdv A outer s H E).nox Wf p (startR ["value", "count", "item"] [d, .int n]) c (defBody (top 11)) (.val (.bl (amB n d)) true c) := fun xs hx => by
      obtain ⟨hl, hty⟩ := fd'.its xs hx
      have hs : isSeqOf d xs := by
        cases d with
        | lst g ys => cases hx; exact .inl ⟨g, rfl⟩
        | tup ys => cases hx; exact .inr rfl
        | _ => cases hx
      have hri : ∀ {tg : Expr} {ps : Pos}, RI (cxOf CX0 P wd K mg base ["value", "count", "item"] "are_amounts" (defScope (top 11)) f cdv A outer s H E).nox Wf p (startR ["value", "count", "item"] [d, .int n]) c tg (.Name "value" ps) xs c := fun {tg ps} => by
        rcases hs with ⟨g, rfl⟩ | rfl
        · exact ri_lst (re_var 0)
        · exact ri_tup (re_var 0)
      have hkit : PySem.W.kitAny K (.type t) [.type "list", .type "tuple"] = some true := by
        rcases hs with ⟨g, rfl⟩ | rfl
        · cases ht
          exact kit2 (b1 := true) (b2 := false) (by decide +kernel) (by decide +kernel)
        · cases ht
          exact kit2 (b1 := false) (b2 := true) (by decide +kernel) (by decide +kernel)
      have hlen : CV K p (fun xs H Q => ∃ x n, xs = [x] ∧ LenV K x H n ∧ Q (.int n) H) [d] (.int (xs.length : Nat)) true c := by
        rcases hs with ⟨g, rfl⟩ | rfl
        · exact cv_lenL
        · exact cv_lenTup
      have e : amB n d = (decide ((xs.length : Int) = n) && xs.all amI) := by
        unfold amB
        rw [hx]
      rw [e]
      have t1 : RT (cxOf CX0 P wd K mg base ["value", "count", "item"] "are_amounts" (defScope (top 11)) f cdv A outer s H E).nox Wf p (startR ["value", "count", "item"] [d, .int n]) c (match (defBody (top 11)).getD 0 (.Pass ⟨0, 0, 0, 0⟩) with | .If (.BoolOp _ (q :: _) _) _ _ _ => q | _ => .Name "" ⟨0, 0, 0, 0⟩) (.val false c) :=
        rt_not (k := true) (rt_val (re_isiT G.isi (re_var 0) G.list G.tuple PyProof.Rows.boot_list PyProof.Rows.boot_tuple ht hkit))
      by_cases hn : (xs.length : Int) = n
      · rw [decide_eq_true hn, Bool.true_and]
        refine .inl (rss_cons (c1 := c) (rs_if (kb := false) (RW.rt (rw_or (k1 := false) (k2 := false) t1 fun _ => rw_or1 (rt_to (rt_cmp op_ne (re_callB call_len G.len PySem.boot_len (ra_cons (re_var 0) ra_nil) hlen) (re_var 1) ov_neI) (by rw [decide_eq_true hn]; rfl)))) (fun z => nomatch z) fun _ => rss_nil) (rss_ret (rs_ret ?_)))
        have key : ((List.range xs.length).map fun i => D.bl (amI (xs.getD i .non))) = (xs.map amI).map D.bl := by
          refine List.ext_getElem? fun i => ?_
          by_cases hi : i < xs.length
          · simp [hi, List.getElem?_range]
          · simp [hi]
        have e : xs.all amI = (xs.map amI).all id := by rw [List.all_map]; rfl
        rw [e]
        refine re_callB (ds := [.lst ⟨false, true⟩ ((xs.map amI).map D.bl)]) (cr_all rfl) G.all PyProof.Rows.boot_all (ra_cons (nw := true) ?_ ra_nil) cv_all
        rw [← key]
        refine re_lcA (own := [("item", 2)]) (g := gName 2) _ (fun _ => c) (fun i => [some d, some (.int n), some (xs.getD i .non)]) (fun _ => true) rfl scAm.nd hri (blkOk_by (N := ["value", "count", "item"]) (sc := defScope (top 11)) (by decide +kernel)) (fun _ _ _ _ _ => pg_name (i := 2) scAm.nd rfl (Or.inl rfl)) (fun i x h => ?_) (fun i x h q s H C cl fp => ?_) (by omega)
        · have ex : xs.getD i .non = x := by rw [List.getD_eq_getElem?_getD, h]; rfl
          rw [ex]
          exact tg_name (by decide)
        · have ex : xs.getD i .non = x := by rw [List.getD_eq_getElem?_getD, h]; rfl
          rw [ex]
          have e : amI x = (wholeD x && amI x) := by cases x <;> rfl
          rw [e]
          refine re_and (n1 := true) (re_c0 T hr (ra_cons (re_var 2) ra_nil) ⟨x, rfl, hty x (List.mem_of_getElem? h), rfl⟩) fun hk => re_and1 ?_
          cases x with
          | int i => exact re_cmp op_ge (re_var 2) re_int ov_ib
          | _ => cases hk
      · rw [decide_eq_false hn, Bool.false_and]
        exact .inl (rss_ret (rs_if (kb := true) (RW.rt (rw_or (k1 := false) (k2 := true) t1 fun _ => rw_or1 (rt_to (rt_cmp op_ne (re_callB call_len G.len PySem.boot_len (ra_cons (re_var 0) ra_nil) hlen) (re_var 1) ov_neI) (by rw [decide_eq_false hn]; rfl)))) (fun _ => rss_ret (rs_ret re_bl)) fun z => nomatch z))
    cases hi : itemsOf d with
    | some xs => exact seq xs hi
    | none =>
      have e : amB n d = false := by
        unfold amB
        rw [hi]
      rw [e]
      have hkit : PySem.W.kitAny K (.type t) [.type "list", .type "tuple"] = some false := by
        cases d <;> first | (cases hi; done) | (cases ht; done) | (cases ht; exact kit2 (b1 := false) (b2 := false) (by decide +kernel) (by decide +kernel))
      exact .inl (rss_ret (rs_if (kb := true) (RW.rt (rw_or (k1 := true) (k2 := true) (rt_not (rt_val (re_isiT G.isi (re_var 0) G.list G.tuple PyProof.Rows.boot_list PyProof.Rows.boot_tuple ht hkit))) fun z => nomatch z)) (fun _ => rss_ret (rs_ret re_bl)) fun z => nomatch z))
abbrev AmD (P : Program) (w : World) (K : PySem.W.Frag) (mg : Str → Option Value) (base : Heap) := Def0 P w K mg base 2 "are_amounts" ["value", "count"] amR
theorem ok_cw {f : Addr} {fd : FuncData} (G : Glb mg) (TI : IsInD P wd K mg base) (TC : CkD P wd K mg base BT) (Er : Err1 P wd K mg base "BadInput" "given" BI) (F : Fun K "_check_way" "_check_way" (top 22) f fd) : FnOk P wd K mg base (L2.CX P wd) 45 f fd ["tree", "text"] (spF K (cwR BI BT)) := by
  refine fn_exc F (N := ["tree", "text"]) ⟨rfl, rfl, rfl, by decide +kernel, rfl, by decide +kernel, by decide +kernel⟩ (fun ds c o h => ?_) (fun cdv A outer s H E hr p ds c o h tk => ?_)
  · rcases h with ⟨d1, d2, rfl, _⟩ | ⟨d1, w, rfl, _⟩ | ⟨t, w, rfl, _⟩ <;> rfl
  · rcases h with ⟨d1, d2, rfl, hf, hw, rfl⟩ | ⟨d1, w, rfl, hf, hw, hl, hd, ht, rfl⟩ | ⟨t, w, rfl, hf, hw, hl, ho, hn, rfl⟩
    · exact rss_ex (rs_if (kb := true) (rt_not (rt_val (re_c0 (d := .bl false) TI (hr.mono (by decide)) (ra_cons (re_var 1) ra_nil) ⟨d2, rfl, hf, by rw [show isW (Str.ofString "01").cps.toList d2 = false from hw]⟩))) (fun _ => rss_ex (rs_raiseG rfl tk Er (hr.mono (by decide)) (re_var 1))) fun z => nomatch z)
    · refine rss_cons (c1 := c) (rs_if (kb := false) (rt_not (rt_val (re_c0 (d := .bl true) TI (hr.mono (by decide)) (ra_cons (re_var 1) ra_nil) ⟨_, rfl, hf, by rw [show isW (Str.ofString "01").cps.toList (.str (tx w)) = true from hw]⟩))) (fun z => nomatch z) fun _ => rss_nil) ?_
      exact rss_ex (rs_exprX (re_c1 tk TC hr (ra_cons (re_var 0) (ra_cons (re_callB call_len G.len PySem.boot_len (ra_cons (re_var 1) ra_nil) (cv_lenT (l := w) (by omega))) ra_nil)) ⟨d1, _, rfl, hd, by rw [ht, if_neg Bool.false_ne_true]⟩))
    · refine .inr ⟨rfl, startR ["tree", "text"] [trD t, .str (tx w)], rss_cons (c1 := c) (ρ1 := startR ["tree", "text"] [trD t, .str (tx w)]) (rs_if (kb := false) (rt_not (rt_val (re_c0 (d := .bl true) TI (hr.mono (by decide)) (ra_cons (re_var 1) ra_nil) ⟨_, rfl, hf, by rw [show isW (Str.ofString "01").cps.toList (.str (tx w)) = true from hw]⟩))) (fun z => nomatch z) fun _ => rss_nil) ?_⟩
      exact rss_cons (rs_expr (re_c1 (o := .val .non true c) tk TC hr (ra_cons (re_var 0) (ra_cons (re_callB call_len G.len PySem.boot_len (ra_cons (re_var 1) ra_nil) (cv_lenT (l := w) (by omega))) ra_nil)) ⟨_, _, rfl, deep_tr 40 t hn, by rw [isT_tr 40 t hn, ho, if_pos rfl]⟩)) rss_nil
abbrev CwD (P : Program) (w : World) (K : PySem.W.Frag) (mg : Str → Option Value) (base : Heap) (BI BT : Addr) := Def1 P w K mg base 45 "_check_way" ["tree", "text"] (cwR BI BT)
abbrev nLk : List Str := ["tree", "text", "places", "_"]
theorem scLk : FnScope nLk ["tree", "text"] (defScope (top 19)) := ⟨rfl, rfl, rfl, by decide +kernel, rfl, by decide +kernel, by decide +kernel⟩
theorem ok_lk {f : Addr} {fd : FuncData} (TW : CwD P wd K mg base BI BT) (TG : GoneD P wd K mg base) (F : Fun K "looked" "looked" (top 19) f fd) : FnOk P wd K mg base (L2.CX P wd) 46 f fd ["tree", "text"] (spF K (lkR BI BT)) := by
  refine fn_exc F scLk (fun ds c o h => ?_) (fun cdv A outer s H E hr p ds c o h tk => ?_)
  · rcases h with ⟨d1, d2, rfl, _⟩ | ⟨d1, w, rfl, _⟩ | ⟨t, w, rfl, _⟩ <;> rfl
  · rcases h with ⟨d1, d2, rfl, hf, hw, rfl⟩ | ⟨d1, w, rfl, hf, hw, hl, hd, ht, rfl⟩ | ⟨t, w, rfl, hf, hw, hl, ho, hn, rfl⟩
    · exact rss_ex (rs_exprX (re_c1 tk TW hr (ra_cons (re_var 0) (ra_cons (re_var 1) ra_nil)) (.inl ⟨d1, d2, rfl, hf, hw, rfl⟩)))
    · exact rss_ex (rs_exprX (re_c1 tk TW hr (ra_cons (re_var 0) (ra_cons (re_var 1) ra_nil)) (.inr (.inl ⟨d1, w, rfl, hf, hw, hl, hd, ht, rfl⟩))))
    · refine .inl (rss_cons (c1 := c) (rs_expr (re_c1 (o := .val .non true c) tk TW hr (ra_cons (re_var 0) (ra_cons (re_var 1) ra_nil)) (.inr (.inr ⟨t, w, rfl, hf, hw, hl, ho, hn, rfl⟩)))) ?_)
      have e : (stG w (ln w t) t []).2 = pth w t := stG_pth w _ t [] rfl
      refine rss_cons (c1 := c) (ρ1 := [some (trD t), some (.str (tx w)), some (.lst ⟨false, true⟩ (iD (pth w t))), some (.int (ev w t))]) (rs_tg (d := .tup [.lst ⟨false, true⟩ (iD (pth w t)), .int (ev w t)]) (nw := true) (re_c0 TG (hr.mono (by decide)) (ra_cons (re_var 0) (ra_cons (re_var 1) ra_nil)) ⟨t, w, rfl, ho, by omega, hl, by rw [e]⟩) (pg_tup rfl (pgs_cons (pg_name (i := 2) scLk.nd rfl (Or.inl rfl)) (pgs_cons (pg_name (i := 3) scLk.nd rfl (Or.inl rfl)) pgs_nil))) (tg_two (vs := [2, 3]) (by decide) (by decide))) ?_
      exact rss_ret (rs_ret (re_var 2))
abbrev LkD (P : Program) (w : World) (K : PySem.W.Frag) (mg : Str → Option Value) (base : Heap) (BI BT : Addr) := Def1 P w K mg base 46 "looked" ["tree", "text"] (lkR BI BT)
end
end K56

namespace K56
open PySem PySem.Spec PyProof.Rows L2 LA
open K36 (ev dep)
/-! ### what a tree costs -/
theorem ov_isN {K : PySem.W.Frag} {p : HD} {c : PC} {d : D} {b : Bool} (h : ∀ H v, DV K p H v d → decide (v = V.non) = b) : OV K p (fun x y H Q => y = .non ∧ Q (.bl (decide (x = .non))) H) d .non (.bl b) true c := fun v u H Q dv du hp k => by
  cases du
  refine ⟨rfl, ?_⟩
  rw [h H v dv]
  exact k _ H (Ext.refl p H) hp (.bl b) fun _ => New.sc (by intro a h; cases h)
def isNon : D → Bool
  | .non => true
  | _ => false
theorem isN_any {K : PySem.W.Frag} {p : HD} {d : D} : ∀ H v, DV K p H v d → decide (v = V.non) = isNon d := fun H v h => by
  cases h <;> first | exact decide_eq_true rfl | (refine decide_eq_false ?_; intro z; cases z) | rfl
def intsOf (d : D) : List Int := ((itemsOf d).getD []).map intOf
def prc (n : Nat) (d : D) : Option (List Int) := if isNon d then some (List.replicate n 1) else if amB ((n : Nat) : Int) d then some (intsOf d) else none
def prR (BP : Addr) : FSpec := fun ds c o => ∃ (d : D) (n : Nat), ds = [d, .int ((n : Nat) : Int)] ∧ n ≤ 6 ∧ AmFit d ∧ ((∃ ps, prc n d = some ps ∧ o = .val (.lst ⟨false, true⟩ (iD ps)) true c) ∨ (prc n d = none ∧ o = .ex BP [("given", d)] c))
def wtR (BC : Addr) : FSpec := fun ds c o => ∃ (d : D) (n : Nat), ds = [d, .int ((n : Nat) : Int)] ∧ n ≤ 6 ∧ AmFit d ∧ ((∃ ps, prc (2 ^ n) d = some ps ∧ o = .val (.lst ⟨false, true⟩ (iD ps)) true c) ∨ (prc (2 ^ n) d = none ∧ o = .ex BC [("given", d)] c))
theorem am_ints : ∀ {xs : List D}, xs.all amI = true → xs = (xs.map intOf).map D.int
  | [], _ => rfl
  | a :: r, h => by
    rw [List.all_cons, Bool.and_eq_true_iff] at h
    rw [List.map_cons, List.map_cons, ← am_ints h.2]
    congr 1
    cases a <;> first | rfl | cases h.1
theorem am_seq {n : Int} {d : D} (h : amB n d = true) : isSeqOf d (iD (intsOf d)) ∧ ((intsOf d).length : Int) = n := by
  unfold amB at h
  cases hi : itemsOf d with
  | none =>
    rw [hi] at h
    cases h
  | some xs =>
    rw [hi] at h
    obtain ⟨h1, h2⟩ := Bool.and_eq_true_iff.mp h
    have e : intsOf d = xs.map intOf := by unfold intsOf; rw [hi]; rfl
    rw [e]
    refine ⟨?_, by rw [List.length_map]; exact of_decide_eq_true h1⟩
    show isSeqOf d ((xs.map intOf).map D.int)
    rw [← am_ints h2]
    cases d with
    | lst g ys => cases hi; exact .inl ⟨g, rfl⟩
    | tup ys => cases hi; exact .inr rfl
    | _ => cases hi
theorem cv_listSeq {K : PySem.W.Frag} {p : HD} {c : PC} {d : D} {l : List D} (h : isSeqOf d l) : CV K p (fun vs H Q => ∃ p ys, vs = [.ref p] ∧ (SqL K H p ys ∨ SqT K H p ys) ∧ ∀ l, H l = none → Q (.ref l) (upd H l (.lst ys))) [d] (.lst ⟨false, true⟩ l) true c := by
  rcases h with ⟨g, h⟩ | h
  · subst h
    exact cv_listL
  · subst h
    exact cv_listT
theorem prc_len {n : Nat} {d : D} {ps : List Int} (h : prc n d = some ps) : ps.length = n := by
  unfold prc at h
  split at h
  · cases h
    exact List.length_replicate
  · split at h
    · rename_i q
      cases h
      have := (am_seq q).2
      omega
    · cases h
theorem rep_one : ∀ n : Nat, (List.replicate n [D.int 1]).flatten = iD (List.replicate n 1)
  | 0 => rfl
  | n + 1 => by
    rw [List.replicate_succ, List.replicate_succ, List.flatten_cons, rep_one n]
    rfl
def insT (n : Nat) : List (List Nat) := wordsV [[]] (List.replicate n bins)
theorem wD_len (ws : List (List Nat)) : (wD ws).length = ws.length := by unfold wD; rw [List.length_map]
theorem wD_at {ws : List (List Nat)} {i : Nat} {d : D} (h : (wD ws)[i]? = some d) : d = .str (tx (ws.getD i [])) ∧ i < ws.length ∧ ws.getD i [] ∈ ws := by
  unfold wD at h
  rw [List.getElem?_map] at h
  by_cases hi : i < ws.length
  · rw [List.getElem?_eq_getElem hi] at h
    rw [List.getD_eq_getElem?_getD, List.getElem?_eq_getElem hi]
    exact ⟨(Option.some.inj h).symm, hi, List.getElem_mem _⟩
  · rw [List.getElem?_eq_none (by omega)] at h
    cases h
theorem insT_next (n : Nat) : insT (n + 1) = step (insT n) bins := by
  unfold insT
  rw [List.replicate_succ', wordsV_app]
  rfl
theorem insT_len : ∀ n : Nat, (insT n).length = 2 ^ n
  | 0 => rfl
  | n + 1 => by
    have e : bins.length = 2 := by decide
    rw [insT_next, step_len, e, Nat.pow_succ, insT_len n]
theorem insT_at {n : Nat} {t : List Nat} (h : t ∈ insT n) : t.length = n := by
  have := words_all (List.replicate n bins) (ws := [[]]) (n := 0) (fun w hw => by cases List.mem_singleton.mp hw; rfl) t h
  rw [this, List.length_replicate, Nat.zero_add]
theorem insT_mem : ∀ {n : Nat} {t : List Nat}, t ∈ insT n → ∀ m ∈ t, m ∈ bins
  | 0, t, h, m, hm => by
    rcases List.mem_cons.mp (show t ∈ [[]] from h) with rfl | h
    · cases hm
    · cases h
  | n + 1, t, h, m, hm => by
    rw [insT_next] at h
    unfold step at h
    obtain ⟨a, ha, hb⟩ := List.mem_flatMap.mp h
    obtain ⟨z, hz, rfl⟩ := List.mem_map.mp hb
    rcases List.mem_append.mp hm with hm | hm
    · exact insT_mem ha m hm
    · rw [List.mem_singleton.mp hm]
      exact hz
theorem pow_64 {n : Nat} (h : n ≤ 6) : 2 ^ n ≤ 64 := by
  calc 2 ^ n ≤ 2 ^ 6 := Nat.pow_le_pow_right (by decide) h
    _ = 64 := by decide
theorem insT_W {n : Nat} (hn : n ≤ 6) {w : List Nat} (h : w ∈ insT n) : isW bins (.str (tx w)) = true := by
  have h1 := insT_at h
  have h2 := insT_mem h
  unfold isW
  rw [cds_tx]
  show (true && (decide (w.length ≤ 6) && w.all fun n => decide (n ∈ bins))) = true
  rw [decide_eq_true (show w.length ≤ 6 by omega), List.all_eq_true.mpr fun m hm => decide_eq_true (h2 m hm)]
  rfl
theorem str_fit {l : List Nat} (h : l.length ≤ 1000) : Fit (.str (tx l)) := ⟨⟨_, rfl⟩, fun m e => by
  have := tx_inj (D.str.inj e)
  rw [← this]
  exact h⟩
def cst (ps : List Int) (t : Tr) (w : List Nat) : Int := ((pth w t).map fun q => ps.getD q.toNat 0).sum
def csts (n : Nat) (ps : List Int) (t : Tr) : List Int := (insT n).map (cst ps t)
theorem csts_len (n : Nat) (ps : List Int) (t : Tr) : (csts n ps t).length = 2 ^ n := by unfold csts; rw [List.length_map, insT_len]
def coR : FSpec := fun ds c o => ∃ (t : Tr) (n : Nat) (ps : List Int), ds = [trD t, .int ((n : Nat) : Int), .lst ⟨false, true⟩ (iD ps)] ∧ n ≤ 6 ∧ okT ((n : Nat) : Int) t = true ∧ nodes t ≤ 40 ∧ ps.length = n ∧ o = .val (.lst ⟨false, true⟩ (iD (csts n ps t))) true c
section
variable {P : Program} {wd : World} {K : PySem.W.Frag} {mg : Str → Option Value} {base : Heap} {BI BT Cn BP BC : Addr}
theorem iD_at {ps : List Int} {j : Nat} (h : j < ps.length) : (iD ps)[j]? = some (.int (ps.getD j 0)) := by
  show (ps.map D.int)[j]? = _
  rw [List.getElem?_map, List.getD_eq_getElem?_getD, List.getElem?_eq_getElem h]
  rfl
theorem ok_pr {f : Addr} {fd : FuncData} (G : Glb mg) (T : AmD P wd K mg base) (Er : Err1 P wd K mg base "BadPrices" "given" BP) (F : Fun K "_prices" "_prices" (top 27) f fd) : FnOk P wd K mg base (L2.CX P wd) 4 f fd ["prices", "many"] (spF K (prR BP)) := by
  refine fn_exc F (N := ["prices", "many"]) ⟨rfl, rfl, rfl, by decide +kernel, rfl, by decide +kernel, by decide +kernel⟩ (fun ds c o h => ?_) (fun cdv A outer s H E hr p ds c o h tk => ?_)
  · obtain ⟨d, n, rfl, _⟩ := h
    rfl
  · obtain ⟨d, n, rfl, hn, hf, ho⟩ := h
    have t1 : ∀ k, isNon d = k → RT (cxOf (L2.CX P wd) P wd K mg base ["prices", "many"] "_prices" (defScope (top 27)) f cdv A outer s H E) (fun cls d _ H => E cls d H) p (startR ["prices", "many"] [d, .int ((n : Nat) : Int)]) c (match (defBody (top 27)).getD 0 (.Pass ⟨0, 0, 0, 0⟩) with | .If e _ _ _ => e | _ => .Name "" ⟨0, 0, 0, 0⟩) (.val k c) := fun k hk => rt_cmp op_isN (re_var 0) re_non (ov_isN fun H v h => by rw [isN_any H v h, hk])
    cases hd : isNon d with
    | true =>
      have e : prc n d = some (List.replicate n 1) := by unfold prc; rw [hd, if_pos rfl]
      rcases ho with ⟨ps, h1, rfl⟩ | ⟨h1, _⟩
      · rw [e] at h1
        cases h1
        refine .inl (rss_ret (rs_if (kb := true) (t1 true hd) (fun _ => rss_ret (rs_ret ?_)) fun z => nomatch z))
        have q := ov_rep (K := K) (p := p) (c := c) (g1 := ⟨true, true⟩) (xs := [D.int 1]) (n := ((n : Nat) : Int)) rfl (by omega) (by omega) (by show 1 * _ ≤ _; omega)
        rw [Int.toNat_natCast, rep_one] at q
        exact re_bin op_rep (re_lst (ra_cons re_int ra_nil) (by show 1 ≤ 100000; decide)) (re_var 1) q
      · rw [e] at h1
        cases h1
    | false =>
      have s1 := rs_if (kb := false) (A := match (defBody (top 27)).getD 0 (.Pass ⟨0, 0, 0, 0⟩) with | .If _ a _ _ => a | _ => []) (B := []) (pos := match (defBody (top 27)).getD 0 (.Pass ⟨0, 0, 0, 0⟩) with | .If _ _ _ q => q | _ => ⟨0, 0, 0, 0⟩) (so := .nx (startR ["prices", "many"] [d, .int ((n : Nat) : Int)]) c) (t1 false hd) (fun z => nomatch z) fun _ => rss_nil
      cases ha : amB ((n : Nat) : Int) d with
      | false =>
        have e : prc n d = none := by unfold prc; rw [hd, ha]; rfl
        rcases ho with ⟨ps, h1, rfl⟩ | ⟨_, rfl⟩
        · rw [e] at h1
          cases h1
        · refine rss_cons s1 (rss_ex (rs_if (kb := true) (rt_not (rt_val (re_c0 (d := .bl false) T (hr.mono (by decide)) (ra_cons (re_var 0) (ra_cons (re_var 1) ra_nil)) ⟨d, _, rfl, hf, by rw [ha]⟩))) (fun _ => rss_ex (rs_raiseG rfl tk Er (hr.mono (by decide)) (re_var 0))) fun z => nomatch z))
      | true =>
        have e : prc n d = some (intsOf d) := by unfold prc; rw [hd, ha]; rfl
        obtain ⟨sq, _⟩ := am_seq ha
        rcases ho with ⟨ps, h1, rfl⟩ | ⟨h1, _⟩
        · rw [e] at h1
          cases h1
          refine .inl (rss_cons s1 (rss_cons (c1 := c) (rs_if (kb := false) (rt_not (rt_val (re_c0 (d := .bl true) T (hr.mono (by decide)) (ra_cons (re_var 0) (ra_cons (re_var 1) ra_nil)) ⟨d, _, rfl, hf, by rw [ha]⟩))) (fun z => nomatch z) fun _ => rss_nil) (rss_ret (rs_ret (re_callT call_list_of G.list PyProof.Rows.boot_list (ra_cons (re_var 0) ra_nil) (cv_listSeq sq))))))
        · rw [e] at h1
          cases h1
abbrev PrD (P : Program) (w : World) (K : PySem.W.Frag) (mg : Str → Option Value) (base : Heap) (BP : Addr) := Def1 P w K mg base 4 "_prices" ["prices", "many"] (prR BP)
abbrev nWt : List Str := ["weights", "many", "count"]
theorem scWt : FnScope nWt ["weights", "many"] (defScope (top 28)) := ⟨rfl, rfl, rfl, by decide +kernel, rfl, by decide +kernel, by decide +kernel⟩
theorem ok_wt {f : Addr} {fd : FuncData} (G : Glb mg) (T : AmD P wd K mg base) (TI : AllD P wd K mg base Cn "inputs" bins) (Er : Err1 P wd K mg base "BadChances" "given" BC) (F : Fun K "_weights" "_weights" (top 28) f fd) : FnOk P wd K mg base (L2.CX P wd) 5 f fd ["weights", "many"] (spF K (wtR BC)) := by
  refine fn_exc F scWt (fun ds c o h => ?_) (fun cdv A outer s H E hr p ds c o h tk => ?_)
  · obtain ⟨d, n, rfl, _⟩ := h
    rfl
  · obtain ⟨d, n, rfl, hn, hf, ho⟩ := h
    have p64 := pow_64 hn
    let ρ1 : Rho := [some d, some (.int ((n : Nat) : Int)), some (.int ((2 ^ n : Nat) : Int))]
    have pi : posD (.int ((n : Nat) : Int)) 7 = true := by
      show (decide ((0 : Int) ≤ ((n : Nat) : Int)) && decide (((n : Nat) : Int) < 7)) = true
      rw [decide_eq_true (by omega), decide_eq_true (by omega)]
      rfl
    have s0 : RS (cxOf (L2.CX P wd) P wd K mg base nWt "_weights" (defScope (top 28)) f cdv A outer s H E) (fun cls d _ H => E cls d H) p (startR nWt [d, .int ((n : Nat) : Int)]) c ((defBody (top 28)).getD 0 (.Pass ⟨0, 0, 0, 0⟩)) (.nx ρ1 c) := by
      have q : ∀ z : D, z = .int ((2 ^ n : Nat) : Int) → RS (cxOf (L2.CX P wd) P wd K mg base nWt "_weights" (defScope (top 28)) f cdv A outer s H E) (fun cls d _ H => E cls d H) p (startR nWt [d, .int ((n : Nat) : Int)]) c ((defBody (top 28)).getD 0 (.Pass ⟨0, 0, 0, 0⟩)) (.nx [some d, some (.int ((n : Nat) : Int)), some (.int (((wD (insT n)).length : Nat) : Int))] c) := fun _ _ =>
        rs_set (nw := true) 2 scWt.nd (re_callB call_len G.len PySem.boot_len (ra_cons (re_c1 (o := .val (allV bins n) false c) tk TI (hr.mono (by decide)) (ra_cons (re_var 1) ra_nil) ⟨_, rfl, ⟨_, rfl⟩, by rw [pi, if_pos rfl]; rfl⟩) ra_nil) cv_lenL)
      have q := q _ rfl
      rw [wD_len, insT_len] at q
      exact q
    have t1 : ∀ k, isNon d = k → RT (cxOf (L2.CX P wd) P wd K mg base nWt "_weights" (defScope (top 28)) f cdv A outer s H E) (fun cls d _ H => E cls d H) p ρ1 c (match (defBody (top 28)).getD 1 (.Pass ⟨0, 0, 0, 0⟩) with | .If e _ _ _ => e | _ => .Name "" ⟨0, 0, 0, 0⟩) (.val k c) := fun k hk => rt_cmp op_isN (re_var 0) re_non (ov_isN fun H v h => by rw [isN_any H v h, hk])
    cases hd : isNon d with
    | true =>
      have e : prc (2 ^ n) d = some (List.replicate (2 ^ n) 1) := by unfold prc; rw [hd, if_pos rfl]
      rcases ho with ⟨ps, h1, rfl⟩ | ⟨h1, _⟩
      · rw [e] at h1
        cases h1
        refine .inl (rss_cons s0 (rss_ret (rs_if (kb := true) (t1 true hd) (fun _ => rss_ret (rs_ret ?_)) fun z => nomatch z)))
        have q := ov_rep (K := K) (p := p) (c := c) (g1 := ⟨true, true⟩) (xs := [D.int 1]) (n := ((2 ^ n : Nat) : Int)) rfl (by have := Nat.zero_le (2 ^ n); omega) (by omega) (by rw [Int.toNat_natCast]; show 1 * _ ≤ _; omega)
        rw [Int.toNat_natCast, rep_one] at q
        exact re_bin op_rep (re_lst (ra_cons re_int ra_nil) (by show 1 ≤ 100000; decide)) (re_var 2) q
      · rw [e] at h1
        cases h1
    | false =>
      have s1 := rs_if (kb := false) (A := match (defBody (top 28)).getD 1 (.Pass ⟨0, 0, 0, 0⟩) with | .If _ a _ _ => a | _ => []) (B := []) (pos := match (defBody (top 28)).getD 1 (.Pass ⟨0, 0, 0, 0⟩) with | .If _ _ _ q => q | _ => ⟨0, 0, 0, 0⟩) (so := .nx ρ1 c) (t1 false hd) (fun z => nomatch z) fun _ => rss_nil
      cases ha : amB ((2 ^ n : Nat) : Int) d with
      | false =>
        have e : prc (2 ^ n) d = none := by unfold prc; rw [hd, ha]; rfl
        rcases ho with ⟨ps, h1, rfl⟩ | ⟨_, rfl⟩
        · rw [e] at h1
          cases h1
        · refine rss_cons s0 (rss_cons s1 (rss_ex (rs_if (kb := true) (rt_not (rt_val (re_c0 (d := .bl false) T (hr.mono (by decide)) (ra_cons (re_var 0) (ra_cons (re_var 2) ra_nil)) ⟨d, _, rfl, hf, by rw [ha]⟩))) (fun _ => rss_ex (rs_raiseG rfl tk Er (hr.mono (by decide)) (re_var 0))) fun z => nomatch z)))
      | true =>
        have e : prc (2 ^ n) d = some (intsOf d) := by unfold prc; rw [hd, ha]; rfl
        obtain ⟨sq, _⟩ := am_seq ha
        rcases ho with ⟨ps, h1, rfl⟩ | ⟨h1, _⟩
        · rw [e] at h1
          cases h1
          refine .inl (rss_cons s0 (rss_cons s1 (rss_cons (c1 := c) (rs_if (kb := false) (rt_not (rt_val (re_c0 (d := .bl true) T (hr.mono (by decide)) (ra_cons (re_var 0) (ra_cons (re_var 2) ra_nil)) ⟨d, _, rfl, hf, by rw [ha]⟩))) (fun z => nomatch z) fun _ => rss_nil) (rss_ret (rs_ret (re_callT call_list_of G.list PyProof.Rows.boot_list (ra_cons (re_var 0) ra_nil) (cv_listSeq sq)))))))
        · rw [e] at h1
          cases h1
abbrev WtD (P : Program) (w : World) (K : PySem.W.Frag) (mg : Str → Option Value) (base : Heap) (BC : Addr) := Def1 P w K mg base 5 "_weights" ["weights", "many"] (wtR BC)
end
end K56

namespace K56
open PySem PySem.Spec PyProof.Rows L2 LA
open K36 (ev dep)
/-! ### costs, the worst, the total -/
def dotI (xs ys : List Int) : Int := ((List.range (min xs.length ys.length)).map fun i => xs.getD i 0 * ys.getD i 0).sum
def wsR (Cn BT BP : Addr) : FSpec := fun ds c o => (∃ t d p, ds = [t, d, p] ∧ Ty d ∧ posD d 7 = false ∧ o = .ex Cn [("given", d)] c) ∨
  (∃ (t : D) (n : Nat) (p : D), ds = [t, .int ((n : Nat) : Int), p] ∧ n ≤ 6 ∧ Deep 40 t ∧ isT 40 ((n : Nat) : Int) t = false ∧ o = .ex BT [("given", t)] c) ∨
  ∃ (t : Tr) (n : Nat) (p : D), ds = [trD t, .int ((n : Nat) : Int), p] ∧ n ≤ 6 ∧ okT ((n : Nat) : Int) t = true ∧ nodes t ≤ 40 ∧ AmFit p ∧ ((prc n p = none ∧ o = .ex BP [("given", p)] c) ∨ ∃ ps, prc n p = some ps ∧ o = .val (.int (mxL (csts n ps t))) true c)
def toR (Cn BT BP BC : Addr) : FSpec := fun ds c o => (∃ t d p w, ds = [t, d, p, w] ∧ Ty d ∧ posD d 7 = false ∧ o = .ex Cn [("given", d)] c) ∨
  (∃ (t : D) (n : Nat) (p w : D), ds = [t, .int ((n : Nat) : Int), p, w] ∧ n ≤ 6 ∧ Deep 40 t ∧ isT 40 ((n : Nat) : Int) t = false ∧ o = .ex BT [("given", t)] c) ∨
  ∃ (t : Tr) (n : Nat) (p w : D), ds = [trD t, .int ((n : Nat) : Int), p, w] ∧ n ≤ 6 ∧ okT ((n : Nat) : Int) t = true ∧ nodes t ≤ 40 ∧ AmFit p ∧ ((prc n p = none ∧ o = .ex BP [("given", p)] c) ∨ ∃ ps, prc n p = some ps ∧ AmFit w ∧
    ((prc (2 ^ n) w = none ∧ o = .ex BC [("given", w)] c) ∨ ∃ ws, prc (2 ^ n) w = some ws ∧ (∀ x ∈ ws, -(2 ^ 64) < x ∧ x < 2 ^ 64) ∧ o = .val (.int (dotI (csts n ps t) ws)) true c))
theorem pos_int {n : Nat} (h : n ≤ 6) : posD (.int ((n : Nat) : Int)) 7 = true := by
  show (decide ((0 : Int) ≤ ((n : Nat) : Int)) && decide (((n : Nat) : Int) < 7)) = true
  rw [decide_eq_true (by omega), decide_eq_true (by omega)]
  rfl
theorem map_D {l : List Int} {α : Type} (f : Int → Int) : ((List.range (iD l).length).map fun j => D.int (f (l.getD j 0))) = iD (l.map f) := by
  refine List.ext_getElem? fun i => ?_
  by_cases hi : i < l.length
  · simp [hi, List.getElem?_range]
  · simp [hi]
theorem map_W {l : List (List Nat)} (f : List Nat → Int) : ((List.range (wD l).length).map fun j => D.int (f (l.getD j []))) = iD (l.map f) := by
  rw [wD_len]
  refine List.ext_getElem? fun i => ?_
  by_cases hi : i < l.length
  · simp [hi, List.getElem?_range]
  · simp [hi]
section
variable {P : Program} {wd : World} {K : PySem.W.Frag} {mg : Str → Option Value} {base : Heap} {BI BT Cn BP BC : Addr}
abbrev nCo : List Str := ["tree", "many", "prices", "text", "position"]
theorem scCo : FnScope nCo ["tree", "many", "prices"] (defScope (top 29)) := ⟨rfl, rfl, rfl, by decide +kernel, rfl, by decide +kernel, by decide +kernel⟩
abbrev scOut : Scope := { (match (defBody (top 29)).getD 0 (.Pass ⟨0, 0, 0, 0⟩) with | .Return (some (.ListComp _ _ t _)) _ => t | _ => defScope (top 29)) with names := [(".0", .local), ("text", .local), ("sum", .globalImplicit), ("looked", .globalImplicit), ("prices", .cell), ("tree", .cell)] }
theorem ok_co {f : Addr} {fd : FuncData} (G : Glb mg) (TL : LkD P wd K mg base BI BT) (TI : AllD P wd K mg base Cn "inputs" bins) (F : Fun K "_costs" "_costs" (top 29) f fd) : FnOk P wd K mg base CX0 47 f fd ["tree", "many", "prices"] (spF K coR) := by
  refine fn_val F scCo (fun ds c o h => ?_) (fun ds c o h => ?_) (fun cdv A outer s H E hr p ds c o h => ?_)
  · obtain ⟨t, n, ps, rfl, _⟩ := h
    rfl
  · obtain ⟨t, n, ps, _, _, _, _, _, rfl⟩ := h
    exact ⟨_, _, _, rfl⟩
  · obtain ⟨t, n, ps, rfl, hn, ho, hm, hp, rfl⟩ := h
    have p64 := pow_64 hn
    refine .inl (rss_ret (rs_ret (re_to (d := .lst ⟨false, true⟩ ((List.range (wD (insT n)).length).map fun j => D.int (cst ps t ((insT n).getD j [])))) ?_ (by rw [map_W (cst ps t)]; rfl))))
    refine re_lcA (own := [("text", 3)]) (g := gName 3) (xs := wD (insT n)) (fun j => D.int (cst ps t ((insT n).getD j []))) (fun _ => c) (fun i => [some (trD t), some (.int ((n : Nat) : Int)), some (.lst ⟨false, true⟩ (iD ps)), some (.str (tx ((insT n).getD i []))), none]) (fun _ => true) rfl scCo.nd (ri_lst (re_c1 (o := .val (allV bins n) false c) takes0 TI (hr.mono (by decide)) (ra_cons (re_var 1) ra_nil) ⟨_, rfl, ⟨_, rfl⟩, by rw [pos_int hn, if_pos rfl]; rfl⟩)) (blkOk_by (N := nCo) (sc := defScope (top 29)) (by decide +kernel)) (fun _ _ _ _ _ => pg_name (i := 3) scCo.nd rfl (Or.inl rfl)) (fun i d h => ?_) (fun i d h q s1 H1 C cl fp => ?_) (by rw [wD_len, insT_len]; omega)
    · obtain ⟨rfl, _, _⟩ := wD_at h
      exact tg_name (j := 3) (vs := [3]) (by decide)
    · obtain ⟨rfl, _, mem⟩ := wD_at h
      have hl := insT_at mem
      generalize (insT n).getD i [] = w at *
      have pin := pth_in (n := ((n : Nat) : Int)) w t ho
      have pl := pth_len w t
      have lnl := ln_le w t
      refine re_callB (ds := [.lst ⟨false, true⟩ (((pth w t).map fun q => ps.getD q.toNat 0).map D.int)]) (cr_sum rfl) G.sum PyProof.Rows.boot_sum (ra_cons (nw := true) ?_ ra_nil) cv_sum
      refine re_to (d := .lst ⟨false, true⟩ ((List.range (iD (pth w t)).length).map fun j => D.int (ps.getD ((pth w t).getD j 0).toNat 0))) ?_ (by rw [map_D (α := Int) (fun q => ps.getD q.toNat 0)])
      refine re_lcA (own := [("position", 4)]) (g := gName 4) (xs := iD (pth w t)) (fun j => D.int (ps.getD ((pth w t).getD j 0).toNat 0)) (fun _ => c) (fun j => [some (trD t), some (.int ((n : Nat) : Int)), some (.lst ⟨false, true⟩ (iD ps)), some (.str (tx w)), some (.int ((pth w t).getD j 0))]) (fun _ => false) rfl scCo.nd (ri_lst (re_c1 (o := .val (.lst ⟨false, true⟩ (iD (pth w t))) false c) takes0 TL (hr.mono (by decide)) (ra_cons (re_var 0) (ra_cons (re_var 3) ra_nil)) (.inr (.inr ⟨t, w, rfl, str_fit (by omega), insT_W hn mem, by omega, by rw [hl]; exact ho, hm, rfl⟩)))) (blkOk_by (N := nCo) (sc := scOut) (by decide +kernel)) (fun _ _ _ _ _ => pg_name (i := 4) scCo.nd rfl (Or.inl rfl)) (fun j d h => ?_) (fun j d h q2 s2 H2 C2 cl2 fp2 => ?_) (by rw [List.length_map]; omega)
      · have hj : j < (pth w t).length := by
          have := (List.getElem?_eq_some_iff.mp h).1
          rwa [List.length_map] at this
        rw [iD_at hj] at h
        cases h
        exact tg_name (j := 4) (vs := [4]) (by decide)
      · have hj : j < (pth w t).length := by
          have := (List.getElem?_eq_some_iff.mp h).1
          rwa [List.length_map] at this
        have hq := pin ((pth w t).getD j 0) (by rw [List.getD_eq_getElem?_getD, List.getElem?_eq_getElem hj]; exact List.getElem_mem _)
        generalize (pth w t).getD j 0 = z at hq
        exact re_ix ix_seq (re_var 2) (re_var 4) (ov_ixL (j := z.toNat) (Int.toNat_of_nonneg hq.1).symm (iD_at (by omega)))
abbrev CoD (P : Program) (w : World) (K : PySem.W.Frag) (mg : Str → Option Value) (base : Heap) := Def0 P w K mg base 47 "_costs" ["tree", "many", "prices"] coR
theorem scWs : FnScope ["tree", "many", "prices"] ["tree", "many", "prices"] (defScope (top 25)) := ⟨rfl, rfl, rfl, by decide +kernel, rfl, by decide +kernel, by decide +kernel⟩
theorem ok_ws {f : Addr} {fd : FuncData} {kws : List (Str × V)} (G : Glb mg) (TN : CntD P wd K mg base Cn) (TC : CkD P wd K mg base BT) (TP : PrD P wd K mg base BP) (TO : CoD P wd K mg base) (F : FunD K "tree_worst" "tree_worst" (defArgs (top 25)) (defBody (top 25)) (defScope (top 25)) [] kws f fd) : FnOk P wd K mg base (L2.CX P wd) 48 f fd ["tree", "many", "prices"] (spF K (wsR Cn BT BP)) := by
  refine fn_excD F scWs (fun ds c o h => ?_) (fun cdv A outer s H E hr p ds c o h tk => ?_)
  · rcases h with ⟨t, d, p, rfl, _⟩ | ⟨t, n, p, rfl, _⟩ | ⟨t, n, p, rfl, _⟩ <;> rfl
  · rcases h with ⟨t, d, pr, rfl, td, h1, rfl⟩ | ⟨t, n, pr, rfl, hn, hd, ht, rfl⟩ | ⟨t, n, pr, rfl, hn, ho, hm, fp, hx⟩
    · exact rss_ex (rs_exprX (re_c1D (es' := [.int 6]) tk TN (hr.mono (by decide)) (ra_cons (re_var 1) ra_nil) (fun q H => sixes) ⟨d, rfl, td, by rw [h1, if_neg Bool.false_ne_true]⟩))
    · refine rss_cons (c1 := c) (ρ1 := startR ["tree", "many", "prices"] [t, .int ((n : Nat) : Int), pr]) (rs_expr (re_c1D (es' := [.int 6]) (o := .val .non true c) tk TN (hr.mono (by decide)) (ra_cons (re_var 1) ra_nil) (fun q H => sixes) ⟨_, rfl, ⟨_, rfl⟩, by rw [pos_int hn, if_pos rfl]⟩)) ?_
      exact rss_ex (rs_exprX (re_c1 tk TC (hr.mono (by decide)) (ra_cons (re_var 0) (ra_cons (re_var 1) ra_nil)) ⟨t, _, rfl, hd, by rw [ht, if_neg Bool.false_ne_true]⟩))
    · refine body_cons (c1 := c) (ρ1 := startR ["tree", "many", "prices"] [trD t, .int ((n : Nat) : Int), pr]) (rs_expr (re_c1D (es' := [.int 6]) (o := .val .non true c) tk TN (hr.mono (by decide)) (ra_cons (re_var 1) ra_nil) (fun q H => sixes) ⟨_, rfl, ⟨_, rfl⟩, by rw [pos_int hn, if_pos rfl]⟩)) ?_
      refine body_cons (c1 := c) (ρ1 := startR ["tree", "many", "prices"] [trD t, .int ((n : Nat) : Int), pr]) (rs_expr (re_c1 (o := .val .non true c) tk TC (hr.mono (by decide)) (ra_cons (re_var 0) (ra_cons (re_var 1) ra_nil)) ⟨_, _, rfl, deep_tr 40 t hm, by rw [isT_tr 40 t hm, ho, if_pos rfl]⟩)) ?_
      rcases hx with ⟨e, rfl⟩ | ⟨ps, e, rfl⟩
      · exact rss_ex (rs_retX (re_callBX (cr_max rfl) G.max PyProof.Rows.boot_max (ra_consX (re_c0Z TO (hr.mono (by decide)) (ra_consZ (re_var 0) (ra_consZ (re_var 1) (ra_consX (re_c1 tk TP (hr.mono (by decide)) (ra_cons (re_var 2) (ra_cons (re_var 1) ra_nil)) ⟨pr, n, rfl, hn, fp, .inr ⟨e, rfl⟩⟩))))))))
      · exact .inl (rss_ret (rs_ret (re_callB (cr_max rfl) G.max PyProof.Rows.boot_max (ra_cons (re_c0 TO (hr.mono (by decide)) (ra_cons (re_var 0) (ra_cons (re_var 1) (ra_cons (re_c1 (o := .val (.lst ⟨false, true⟩ (iD ps)) true c) tk TP (hr.mono (by decide)) (ra_cons (re_var 2) (ra_cons (re_var 1) ra_nil)) ⟨pr, n, rfl, hn, fp, .inl ⟨ps, e, rfl⟩⟩) ra_nil))) ⟨t, n, ps, rfl, hn, ho, hm, prc_len e, rfl⟩) ra_nil) (cv_maxL (by rw [csts_len]; exact Nat.two_pow_pos n)))))
end
end K56

namespace K56
open PySem PySem.Spec PyProof.Rows L2 LA
open K36 (ev dep)
section
variable {P : Program} {wd : World} {K : PySem.W.Frag} {mg : Str → Option Value} {base : Heap} {BI BT Cn BP BC Lk : Addr}
/-! ### the total -/
abbrev nTo : List Str := ["tree", "many", "prices", "weights", "costs", "cost", "weight"]
theorem scTo : FnScope nTo ["tree", "many", "prices", "weights"] (defScope (top 26)) := ⟨rfl, rfl, rfl, by decide +kernel, rfl, by decide +kernel, by decide +kernel⟩
theorem ok_to {f : Addr} {fd : FuncData} {kws : List (Str × V)} (G : Glb mg) (TN : CntD P wd K mg base Cn) (TC : CkD P wd K mg base BT) (TP : PrD P wd K mg base BP) (TW : WtD P wd K mg base BC) (TO : CoD P wd K mg base) (F : FunD K "tree_total" "tree_total" (defArgs (top 26)) (defBody (top 26)) (defScope (top 26)) [] kws f fd) : FnOk P wd K mg base (L2.CX P wd) 48 f fd ["tree", "many", "prices", "weights"] (spF K (toR Cn BT BP BC)) := by
  refine fn_excD F scTo (fun ds c o h => ?_) (fun cdv A outer s H E hr p ds c o h tk => ?_)
  · rcases h with ⟨t, d, p, w, rfl, _⟩ | ⟨t, n, p, w, rfl, _⟩ | ⟨t, n, p, w, rfl, _⟩ <;> rfl
  · rcases h with ⟨t, d, pr, w, rfl, td, h1, rfl⟩ | ⟨t, n, pr, w, rfl, hn, hd, ht, rfl⟩ | ⟨t, n, pr, w, rfl, hn, ho, hm, fp, hx⟩
    · exact rss_ex (rs_exprX (re_c1D (es' := [.int 6]) tk TN (hr.mono (by decide)) (ra_cons (re_var 1) ra_nil) (fun q H => sixes) ⟨d, rfl, td, by rw [h1, if_neg Bool.false_ne_true]⟩))
    · refine rss_cons (c1 := c) (ρ1 := startR nTo [t, .int ((n : Nat) : Int), pr, w]) (rs_expr (re_c1D (es' := [.int 6]) (o := .val .non true c) tk TN (hr.mono (by decide)) (ra_cons (re_var 1) ra_nil) (fun q H => sixes) ⟨_, rfl, ⟨_, rfl⟩, by rw [pos_int hn, if_pos rfl]⟩)) ?_
      exact rss_ex (rs_exprX (re_c1 tk TC (hr.mono (by decide)) (ra_cons (re_var 0) (ra_cons (re_var 1) ra_nil)) ⟨t, _, rfl, hd, by rw [ht, if_neg Bool.false_ne_true]⟩))
    · refine body_cons (c1 := c) (ρ1 := startR nTo [trD t, .int ((n : Nat) : Int), pr, w]) (rs_expr (re_c1D (es' := [.int 6]) (o := .val .non true c) tk TN (hr.mono (by decide)) (ra_cons (re_var 1) ra_nil) (fun q H => sixes) ⟨_, rfl, ⟨_, rfl⟩, by rw [pos_int hn, if_pos rfl]⟩)) ?_
      refine body_cons (c1 := c) (ρ1 := startR nTo [trD t, .int ((n : Nat) : Int), pr, w]) (rs_expr (re_c1 (o := .val .non true c) tk TC (hr.mono (by decide)) (ra_cons (re_var 0) (ra_cons (re_var 1) ra_nil)) ⟨_, _, rfl, deep_tr 40 t hm, by rw [isT_tr 40 t hm, ho, if_pos rfl]⟩)) ?_
      rcases hx with ⟨e, rfl⟩ | ⟨ps, e, fw, hx⟩
      · exact rss_ex (rs_setX (i := 4) scTo.nd (re_c0Z TO (hr.mono (by decide)) (ra_consZ (re_var 0) (ra_consZ (re_var 1) (ra_consX (re_c1 tk TP (hr.mono (by decide)) (ra_cons (re_var 2) (ra_cons (re_var 1) ra_nil)) ⟨pr, n, rfl, hn, fp, .inr ⟨e, rfl⟩⟩))))))
      · refine body_cons (c1 := c) (ρ1 := [some (trD t), some (.int ((n : Nat) : Int)), some pr, some w, some (.lst ⟨false, true⟩ (iD (csts n ps t))), none, none]) (rs_set (nw := true) 4 scTo.nd (re_c0 TO (hr.mono (by decide)) (ra_cons (re_var 0) (ra_cons (re_var 1) (ra_cons (re_c1 (o := .val (.lst ⟨false, true⟩ (iD ps)) true c) tk TP (hr.mono (by decide)) (ra_cons (re_var 2) (ra_cons (re_var 1) ra_nil)) ⟨pr, n, rfl, hn, fp, .inl ⟨ps, e, rfl⟩⟩) ra_nil))) ⟨t, n, ps, rfl, hn, ho, hm, prc_len e, rfl⟩)) ?_
        rcases hx with ⟨e2, rfl⟩ | ⟨ws, e2, hb, rfl⟩
        · have nz : CallR (cxOf (L2.CX P wd) P wd K mg base nTo "tree_total" (defScope (top 26)) f cdv A outer s H E) (.type "zip") (fun _ _ _ => False) := fun _ _ _ _ _ _ _ _ _ h => h.elim
          exact rss_ex (rs_retX (re_callBX (cr_sum rfl) G.sum PyProof.Rows.boot_sum (ra_consX (re_lcX (g := gTup K 2 (gCons (gName 5) (gCons (gName 6) gNil))) (own := [("cost", 5), ("weight", 6)]) rfl scTo.nd (re_callTX nz G.zip PyProof.Rows.boot_zip (ra_consZ (re_var 4) (ra_consX (re_c1 tk TW (hr.mono (by decide)) (ra_cons (re_var 3) (ra_cons (re_var 1) ra_nil)) ⟨w, n, rfl, hn, fw, .inr ⟨e2, rfl⟩⟩)))) (blkOk_by (N := nTo) (sc := defScope (top 26)) (by decide +kernel)) (fun _ _ _ _ _ => pg_tup rfl (pgs_cons (pg_name (i := 5) scTo.nd rfl (Or.inl rfl)) (pgs_cons (pg_name (i := 6) scTo.nd rfl (Or.inl rfl)) pgs_nil)))))))
        · have l1 := csts_len n ps t
          have l2 := prc_len e2
          have p64 := pow_64 hn
          have zl : (zipLL (iD (csts n ps t)) (iD ws)).length = min (csts n ps t).length ws.length := by
            unfold zipLL
            rw [List.length_map, List.length_range, List.length_map, List.length_map]
          refine .inl (rss_ret (rs_ret (re_callB (ds := [.lst ⟨false, true⟩ (((List.range (min (csts n ps t).length ws.length)).map fun i => (csts n ps t).getD i 0 * ws.getD i 0).map D.int)]) (cr_sum rfl) G.sum PyProof.Rows.boot_sum (ra_cons (nw := true) (re_to (d := .lst ⟨false, true⟩ ((List.range (zipLL (iD (csts n ps t)) (iD ws)).length).map fun i => D.int ((csts n ps t).getD i 0 * ws.getD i 0))) ?_ ?_) ra_nil) cv_sum)))
          · refine re_lcA (own := [("cost", 5), ("weight", 6)]) (g := gTup K 2 (gCons (gName 5) (gCons (gName 6) gNil))) (xs := zipLL (iD (csts n ps t)) (iD ws)) _ (fun _ => c) (fun i => [some (trD t), some (.int ((n : Nat) : Int)), some pr, some w, some (.lst ⟨false, true⟩ (iD (csts n ps t))), some (.int ((csts n ps t).getD i 0)), some (.int (ws.getD i 0))]) (fun _ => true) rfl scTo.nd (ri_zLL G.zip (ra_cons (re_var 4) (ra_cons (re_c1 (o := .val (.lst ⟨false, true⟩ (iD ws)) true c) tk TW (hr.mono (by decide)) (ra_cons (re_var 3) (ra_cons (re_var 1) ra_nil)) ⟨w, n, rfl, hn, fw, .inl ⟨ws, e2, rfl⟩⟩) ra_nil))) (blkOk_by (N := nTo) (sc := defScope (top 26)) (by decide +kernel)) (fun _ _ _ _ _ => pg_tup rfl (pgs_cons (pg_name (i := 5) scTo.nd rfl (Or.inl rfl)) (pgs_cons (pg_name (i := 6) scTo.nd rfl (Or.inl rfl)) pgs_nil))) (fun i d h => ?_) (fun i d h q s1 H1 C cl fp => ?_) (by rw [zl]; omega)
            · obtain ⟨li, rfl⟩ := zipLL_at h
              rw [List.length_map, List.length_map] at li
              have a1 : (iD (csts n ps t)).getD i .non = .int ((csts n ps t).getD i 0) := by rw [List.getD_eq_getElem?_getD, iD_at (by omega)]; rfl
              have a2 : (iD ws).getD i .non = .int (ws.getD i 0) := by rw [List.getD_eq_getElem?_getD, iD_at (by omega)]; rfl
              rw [a1, a2]
              exact tg_two (by decide) (by decide)
            · obtain ⟨li, rfl⟩ := zipLL_at h
              rw [List.length_map, List.length_map] at li
              have := hb (ws.getD i 0) (by rw [List.getD_eq_getElem?_getD, List.getElem?_eq_getElem (show i < ws.length by omega)]; exact List.getElem_mem _)
              exact re_bin op_mul (re_var 5) (re_var 6) (ov_cii (.inr this))
          · rw [zl, List.map_map]
            rfl
theorem rss_oldR {X : Cx} {W : WX} {p : HD} {ρ : Rho} {c c1 : PC} {sts : List Stmt} {d : D} (h : RSs X W p ρ c sts (.rt d true c1)) : RSs X W p ρ c sts (.rt d false c1) :=
  pss_imp h fun De σ H q => ⟨q.1, fun v H1 e1 p1 dv _ => q.2 v H1 e1 p1 dv fun z => nomatch z⟩
/-! ### what is told -/
def two2 (s : Str) (d : D) : D := .lst ⟨true, true⟩ [.str s, d]
inductive TOut | cnt (d : D) | tree (d : D) | prc (d : D) | chn (d : D) | ok (i : Int)
def eoT (Cn BT BP BC : Addr) (u : TOut) (c : PC) : EO := match u with
  | .cnt d => .ex Cn [("given", d)] c
  | .tree d => .ex BT [("given", d)] c
  | .prc d => .ex BP [("given", d)] c
  | .chn d => .ex BC [("given", d)] c
  | .ok i => .val (.int i) true c
def tdT : TOut → D
  | .cnt d => two2 "count" d
  | .tree d => two2 "tree" d
  | .prc d => two2 "prices" d
  | .chn d => two2 "chances" d
  | .ok i => .int i
def tdR (Cn BT BP BC : Addr) : FSpec := fun ds c o => ∃ (t m r a : D) (u : TOut) (k : Int), ds = [t, m, r, a, .int k] ∧ ((k = 0 ∧ wsR Cn BT BP [t, m, r] c (eoT Cn BT BP BC u c)) ∨ (k = 1 ∧ toR Cn BT BP BC [t, m, r, a] c (eoT Cn BT BP BC u c))) ∧ o = .val (tdT u) false c
structure ExF (K : PySem.W.Frag) (Cn BT BP BC : Addr) : Prop where
  e00 : PySem.W.exmOne K (.ref Cn) (.ref Cn) = some true
  e10 : PySem.W.exmOne K (.ref BT) (.ref Cn) = some false
  e11 : PySem.W.exmOne K (.ref BT) (.ref BT) = some true
  e20 : PySem.W.exmOne K (.ref BP) (.ref Cn) = some false
  e21 : PySem.W.exmOne K (.ref BP) (.ref BT) = some false
  e22 : PySem.W.exmOne K (.ref BP) (.ref BP) = some true
  e30 : PySem.W.exmOne K (.ref BC) (.ref Cn) = some false
  e31 : PySem.W.exmOne K (.ref BC) (.ref BT) = some false
  e32 : PySem.W.exmOne K (.ref BC) (.ref BP) = some false
  e33 : PySem.W.exmOne K (.ref BC) (.ref BC) = some true
abbrev app2 : List Value → List Value → List Value := fun a b => a ++ b
abbrev app2V : List V → List V → List V := fun a b => a ++ b
abbrev appR : List Value → List Value → List Value := fun a b => a ++ b.reverse
abbrev appRV : List V → List V → List V := fun a b => a ++ b.reverse
abbrev WsK (P : Program) (w : World) (K : PySem.W.Frag) (mg : Str → Option Value) (base : Heap) (Cn BT BP : Addr) := Def1K P w K mg base 48 "tree_worst" ["tree", "many", "prices"] (wsR Cn BT BP) 2 ["prices"] app2 app2V
abbrev ToK (P : Program) (w : World) (K : PySem.W.Frag) (mg : Str → Option Value) (base : Heap) (Cn BT BP BC : Addr) := Def1K P w K mg base 48 "tree_total" ["tree", "many", "prices", "weights"] (toR Cn BT BP BC) 2 ["weights", "prices"] appR appRV
abbrev nTold : List Str := ["_law_tree", "_law_many", "_law_row_here", "_law_amounts", "_law_which", "e"]
theorem scTold : FnScope nTold ["_law_tree", "_law_many", "_law_row_here", "_law_amounts", "_law_which"] (defScope (top 40)) := ⟨rfl, rfl, rfl, by decide +kernel, rfl, by decide +kernel, by decide +kernel⟩
theorem ok_told {f : Addr} {fd : FuncData} (EN : Err1 P wd K mg base "BadCount" "given" Cn) (ET : Err1 P wd K mg base "BadTree" "given" BT) (EP : Err1 P wd K mg base "BadPrices" "given" BP) (EC : Err1 P wd K mg base "BadChances" "given" BC) (XF : ExF K Cn BT BP BC)
    (mL : mg "LooksError" = some (.ref Lk)) (TW : WsK P wd K mg base Cn BT BP) (TT : ToK P wd K mg base Cn BT BP BC) (F : Fun K "_law_told" "_law_told" (top 40) f fd) : FnOk P wd K mg base CX0 50 f fd ["_law_tree", "_law_many", "_law_row_here", "_law_amounts", "_law_which"] (spF K (tdR Cn BT BP BC)) := by
  obtain ⟨fa, fda, a1, a2, a3, a4⟩ := TW.ex
  obtain ⟨fb, fdb, b1, b2, b3, b4⟩ := TT.ex
  refine fn_val F scTold (fun ds c o h => ?_) (fun ds c o h => ?_) (fun cdv A outer s H E hr p ds c o h => ?_)
  · obtain ⟨t, m, r, a, u, k, rfl, _⟩ := h
    rfl
  · obtain ⟨t, m, r, a, u, k, _, _, rfl⟩ := h
    exact ⟨_, _, _, rfl⟩
  · obtain ⟨t, m, r, a, u, k, rfl, hb, rfl⟩ := h
    have body : ∀ (W' : WX) (pn : List (Addr × Obj)) (xe : Value → Shared → Prop), Takes ((cxOf CX0 P wd K mg base nTold "_law_told" (defScope (top 40)) f cdv A outer s H E).nox.tr pn xe) W' →
        RSs ((cxOf CX0 P wd K mg base nTold "_law_told" (defScope (top 40)) f cdv A outer s H E).nox.tr pn xe) W' p (startR nTold [t, m, r, a, .int k]) c (match defBody (top 40) with | .Try b _ _ _ _ :: _ => b | _ => []) (asSt (eoT Cn BT BP BC u c)) := fun W' pn xe tk => by
      rcases hb with ⟨rfl, hb⟩ | ⟨rfl, hb⟩
      · exact rss_ifO (rt_to (rt_cmp op_eq (re_var 4) re_int ov_eqI) rfl) (rss_retO (re_callX1K (es' := [r]) (gD := [t, m, r]) tk a1 (hr.mono (by decide)) a2 a3 a4 (ra_cons (re_var 0) (ra_cons (re_var 1) ra_nil)) (rk_cons (re_var 2) rk_nil) rfl rfl (fun h1 h2 => DVs.app h1 h2) hb))
      · refine rss_cons (c1 := c) (rs_if (kb := false) (rt_to (rt_cmp op_eq (re_var 4) re_int ov_eqI) rfl) (fun z => nomatch z) fun _ => rss_nil) ?_
        exact rss_retO (re_callX1K (es' := [a, r]) (gD := [t, m, r, a]) tk b1 (hr.mono (by decide)) b2 b3 b4 (ra_cons (re_var 0) (ra_cons (re_var 1) ra_nil)) (rk_cons (re_var 3) (rk_cons (re_var 2) rk_nil)) rfl rfl (fun h1 h2 => by
          cases h2 with
          | cons x1 h2 =>
            cases h2 with
            | cons x2 h2 =>
              cases h2
              exact DVs.app h1 (.cons x2 (.cons x1 .nil))) hb)
    cases u with
    | ok i =>
      refine .inl (rss_ret (rs_try rfl rfl scTold.nd takes0 (fun W' pn xe tk _ => ?_) (cl_no (i := 5) ⟨rfl, by decide, .inl EN.mg⟩ rfl rfl (cl_no (i := 5) ⟨rfl, by decide, .inl ET.mg⟩ rfl rfl (cl_no (i := 5) ⟨rfl, by decide, .inl EP.mg⟩ rfl rfl (cl_no (i := 5) ⟨rfl, by decide, .inl EC.mg⟩ rfl rfl (cl_no0 ⟨rfl, by decide, .inl mL⟩ .nil)))))))
      exact rss_oldR (body W' pn xe tk)
    | cnt d =>
      refine .inl (rss_ret ?_)
      exact rs_tryX (i := 5) (C := Cn) (fs := [("given", d)]) (c1 := c) rfl rfl scTold.nd takes0 (fun W' pn xe tk _ => body W' pn xe tk) (cl_yes (i := 5) ⟨rfl, by decide, .inl EN.mg⟩ rfl rfl (fun a dx oe pn z fz => rss_ret (rs_ret (re_old (re_lst (ra_cons re_str (ra_cons (re_xf (d := d) EN.xf EN.no z fz rfl (re_var 5) rfl) ra_nil)) (by show 2 ≤ 100000; decide))))) (cl_no (i := 5) ⟨rfl, by decide, .inl ET.mg⟩ rfl rfl (cl_no (i := 5) ⟨rfl, by decide, .inl EP.mg⟩ rfl rfl (cl_no (i := 5) ⟨rfl, by decide, .inl EC.mg⟩ rfl rfl (cl_no0 ⟨rfl, by decide, .inl mL⟩ .nil))))) (.here XF.e00)
    | tree d =>
      refine .inl (rss_ret ?_)
      exact rs_tryX (i := 5) (C := BT) (fs := [("given", d)]) (c1 := c) rfl rfl scTold.nd takes0 (fun W' pn xe tk _ => body W' pn xe tk) (cl_no (i := 5) ⟨rfl, by decide, .inl EN.mg⟩ rfl rfl (cl_yes (i := 5) ⟨rfl, by decide, .inl ET.mg⟩ rfl rfl (fun a dx oe pn z fz => rss_ret (rs_ret (re_old (re_lst (ra_cons re_str (ra_cons (re_xf (d := d) ET.xf ET.no z fz rfl (re_var 5) rfl) ra_nil)) (by show 2 ≤ 100000; decide))))) (cl_no (i := 5) ⟨rfl, by decide, .inl EP.mg⟩ rfl rfl (cl_no (i := 5) ⟨rfl, by decide, .inl EC.mg⟩ rfl rfl (cl_no0 ⟨rfl, by decide, .inl mL⟩ .nil))))) (.there XF.e10 (.here XF.e11))
    | prc d =>
      refine .inl (rss_ret ?_)
      exact rs_tryX (i := 5) (C := BP) (fs := [("given", d)]) (c1 := c) rfl rfl scTold.nd takes0 (fun W' pn xe tk _ => body W' pn xe tk) (cl_no (i := 5) ⟨rfl, by decide, .inl EN.mg⟩ rfl rfl (cl_no (i := 5) ⟨rfl, by decide, .inl ET.mg⟩ rfl rfl (cl_yes (i := 5) ⟨rfl, by decide, .inl EP.mg⟩ rfl rfl (fun a dx oe pn z fz => rss_ret (rs_ret (re_old (re_lst (ra_cons re_str (ra_cons (re_xf (d := d) EP.xf EP.no z fz rfl (re_var 5) rfl) ra_nil)) (by show 2 ≤ 100000; decide))))) (cl_no (i := 5) ⟨rfl, by decide, .inl EC.mg⟩ rfl rfl (cl_no0 ⟨rfl, by decide, .inl mL⟩ .nil))))) (.there XF.e20 (.there XF.e21 (.here XF.e22)))
    | chn d =>
      refine .inl (rss_ret ?_)
      exact rs_tryX (i := 5) (C := BC) (fs := [("given", d)]) (c1 := c) rfl rfl scTold.nd takes0 (fun W' pn xe tk _ => body W' pn xe tk) (cl_no (i := 5) ⟨rfl, by decide, .inl EN.mg⟩ rfl rfl (cl_no (i := 5) ⟨rfl, by decide, .inl ET.mg⟩ rfl rfl (cl_no (i := 5) ⟨rfl, by decide, .inl EP.mg⟩ rfl rfl (cl_yes (i := 5) ⟨rfl, by decide, .inl EC.mg⟩ rfl rfl (fun a dx oe pn z fz => rss_ret (rs_ret (re_old (re_lst (ra_cons re_str (ra_cons (re_xf (d := d) EC.xf EC.no z fz rfl (re_var 5) rfl) ra_nil)) (by show 2 ≤ 100000; decide))))) (cl_no0 ⟨rfl, by decide, .inl mL⟩ .nil))))) (.there XF.e30 (.there XF.e31 (.there XF.e32 (.here XF.e33))))
abbrev ToldD (P : Program) (w : World) (K : PySem.W.Frag) (mg : Str → Option Value) (base : Heap) (Cn BT BP BC : Addr) := Def0 P w K mg base 50 "_law_told" ["_law_tree", "_law_many", "_law_row_here", "_law_amounts", "_law_which"] (tdR Cn BT BP BC)
end
end K56

namespace K56
open PySem PySem.Spec PyProof.Rows L2 LA
open K36 (ev dep)
/-! ### the law's own ways -/
section
variable {X : Cx} {W : WX} {p : HD} {ρ : Rho} {c c1 c2 : PC} {a b e : Expr} {pos ps : Pos} {n1 nw : Bool}
theorem re_orF {k2 : Bool} (ha : RE X W p ρ c a (.val (.bl false) n1 c1)) (hb : RE X W p ρ c1 (.BoolOp .Or [b] pos) (.val (.bl k2) true c2)) : RE X W p ρ c (.BoolOp .Or (a :: [b]) pos) (.val (.bl k2) true c2) :=
  pe_imp (pe_or ha hb) fun σ H Q ⟨s, k⟩ => ⟨s, fun v H1 e1 p1 dv _ => by
    cases dv
    refine ⟨false, rfl, ?_⟩
    refine iteF ?_
    exact ⟨s.mono e1 p1, fun u H2 e2 p2 du hn => k u H2 (e1.trans e2) p2 du fun q => (hn q).back e1⟩⟩
theorem re_orT (ha : RE X W p ρ c a (.val (.bl true) n1 c1)) : RE X W p ρ c (.BoolOp .Or (a :: [b]) pos) (.val (.bl true) true c1) := by
  have hN : PE X (.BoolOp .Or [b] pos) (fun _ _ _ => False) := ⟨fun _ _ _ _ _ _ z => z.elim⟩
  exact pe_imp (pe_or ha hN) fun σ H Q ⟨s, k⟩ => ⟨s, fun v H1 e1 p1 dv _ => by
    cases dv
    exact ⟨true, rfl, k _ H1 e1 p1 (.bl true) fun _ => New.sc (by intro a h; cases h)⟩⟩
theorem cv_intB {K : PySem.W.Frag} {p : HD} {c : PC} {b : Bool} : CV K p (fun xs H Q => (∃ i, xs = [.int i] ∧ Q (.int i) H) ∨ ∃ k, xs = [.bl k] ∧ Q (.int (if k then 1 else 0)) H) [.bl b] (.int (if b then 1 else 0)) true c := fun vs H Q dvs hp k => by
  cases dvs with
  | cons h r =>
    cases r
    cases h
    exact .inr ⟨b, rfl, k _ H (Ext.refl p H) hp (.int _) fun _ => New.sc (by intro a h; cases h)⟩
theorem re_intC {n : Nat} (hm : X.mg "int" = none) (h : RE X W p ρ c e (.val (.str (chr1 n)) nw c1)) (hi : n = 48 ∨ n = 49) (hg : Gl X "int" := by rfl)
    (he : starEach [e] X.env = (false, eval e X.env) :: starEach [] X.env := by rfl) : RE X W p ρ c (.Call (.Name "int" ps) [e] [] pos) (.val (.int ((n : Int) - 48)) true c1) := by
  refine re_callT call_int_str hm PyProof.Rows.boot_int (ra_cons h ra_nil he) (cv_intS ?_ (by show 1 ≤ 640; decide)) hg (by decide) (by decide) he
  rcases hi with rfl | rfl <;> decide +kernel
end
theorem rw_orS {X : Cx} {W : WX} {p : HD} {ρ : Rho} {c c1 c2 : PC} {a b : Expr} {pos : Pos} {rest : List Expr} {k2 : Bool} (ha : RT X W p ρ c a (.val false c1)) (hb : RW X W p ρ c1 (.BoolOp .Or (b :: rest) pos) (.val k2 c2)) : RW X W p ρ c (.BoolOp .Or (a :: b :: rest) pos) (.val k2 c2) := by
  refine pw_imp (pw_or ha hb) fun σ H Q ⟨s, kk⟩ => ⟨s, fun H1 e1 p1 => ?_⟩
  refine iteF ?_
  exact ⟨s.mono e1 p1, fun H2 e2 p2 => kk H2 (e1.trans e2) p2⟩
theorem bins_is : bins = [48, 49] := by decide
abbrev sgD : List D := [.str (chr1 48), .str (chr1 49)]
def strR : FSpec := fun ds c o => ∃ (g : G) (n : Nat), ds = [.int ((n : Nat) : Int), .lst g sgD] ∧ n ≤ 6 ∧ o = .val (.lst ⟨false, true⟩ (wD (insT n))) false c
def inR : FSpec := fun ds c o => ∃ (n : Nat), ds = [.int ((n : Nat) : Int)] ∧ n ≤ 6 ∧ o = .val (.lst ⟨false, true⟩ (wD (insT n))) false c
def paR : FSpec := fun ds c o => ∃ (t : Tr) (w : List Nat), ds = [trD t, .str (tx w)] ∧ okT (w.length : Nat) t = true ∧ nodes t ≤ 39 ∧ w.length ≤ 6 ∧ (∀ m ∈ w, m ∈ bins) ∧ o = .val (.tup [.lst ⟨false, true⟩ (iD (pth w t)), .int (ev w t)]) false c
def pcR : FSpec := fun ds c o => ∃ (t : Tr) (w : List Nat) (g : G) (ps : List Int), ds = [trD t, .lst g (iD ps), .str (tx w)] ∧ okT (w.length : Nat) t = true ∧ nodes t ≤ 39 ∧ w.length ≤ 6 ∧ ps.length = w.length ∧ (∀ m ∈ w, m ∈ bins) ∧ o = .val (.int (cst ps t w)) true c
def piR : FSpec := fun ds c o => ∃ (b : Bg) (g : G) (xs : List D), ds = [.mut 0, .lst g xs] ∧ c = [b.c] ∧ 0 < xs.length ∧ xs.length ≤ 100 ∧ o = .val (xs.getD (bagV b (xs.length : Nat)).toNat .non) false [(bagC b (xs.length : Nat)).c]
/-- a row of amounts -/
def grt (b : Bg) : Int := ([2, 4, 12, 10 ^ (9 : Int).toNat, 10 ^ (18 : Int).toNat] : List Int).getD (bagV b 5).toNat 2
def amV (w : Int) (great : Int) (b : Bg) : Int := bagV b great * (if (w ≠ 2 ∨ bagV (bagC b great) 3 > 0) then 1 else 0)
def amC (w : Int) (great : Int) (b : Bg) : Bg := if w ≠ 2 then bagC b great else bagC (bagC b great) 3
def amI2 (w great : Int) (b : Bg) : Nat → Bg
  | 0 => b
  | n + 1 => amC w great (amI2 w great b n)
def rowL (b : Bg) (m : Nat) : List Int := if bagV b 5 = 0 then List.replicate m (bagV (bagC b 5) 3) else (List.range m).map fun i => amV (bagV b 5) (grt b) (amI2 (bagV b 5) (grt b) (bagC b 5) i)
def rowC (b : Bg) (m : Nat) : Bg := if bagV b 5 = 0 then bagC (bagC b 5) 3 else amI2 (bagV b 5) (grt b) (bagC b 5) m
def roR : FSpec := fun ds c o => ∃ (b : Bg) (m : Nat), ds = [.mut 0, .int ((m : Nat) : Int)] ∧ c = [b.c] ∧ m ≤ 64 ∧ o = .val (.lst ⟨false, true⟩ (iD (rowL b m))) true [(rowC b m).c]
theorem rowL_len (b : Bg) (m : Nat) : (rowL b m).length = m := by
  unfold rowL
  split
  · exact List.length_replicate
  · rw [List.length_map, List.length_range]
theorem grt_in (b : Bg) : 0 < grt b ∧ grt b ≤ 10 ^ 18 ∧ (grt b).natAbs.log2 < 9000 := by
  have h := bagV_in (b := b) (show (0 : Int) < 5 by decide)
  have hj : (bagV b 5).toNat < 5 := by omega
  unfold grt
  generalize (bagV b 5).toNat = j at hj
  match j, hj with
  | 0, _ => exact ⟨by decide, by decide, log_lt (n := 9000) (by decide) (by decide)⟩
  | 1, _ => exact ⟨by decide, by decide, log_lt (n := 9000) (by decide) (by decide)⟩
  | 2, _ => exact ⟨by decide, by decide, log_lt (n := 9000) (by decide) (by decide)⟩
  | 3, _ => exact ⟨by decide, by decide, log_lt (n := 9000) (by decide) (by decide)⟩
  | 4, _ => exact ⟨by decide, by decide, log_lt (n := 9000) (by decide) (by decide)⟩
theorem amV_in (w : Int) {great : Int} (b : Bg) (h : 0 < great) : 0 ≤ amV w great b ∧ amV w great b < great := by
  have := bagV_in (b := b) h
  unfold amV
  split
  · rw [Int.mul_one]
    exact this
  · rw [Int.mul_zero]
    omega
theorem rowL_in (b : Bg) (m : Nat) : ∀ x ∈ rowL b m, 0 ≤ x ∧ x < 10 ^ 18 := fun x hx => by
  unfold rowL at hx
  have e : (10 : Int) ^ 18 = 1000000000000000000 := by decide
  split at hx
  · rw [List.eq_of_mem_replicate hx]
    have := bagV_in (b := bagC b 5) (show (0 : Int) < 3 by decide)
    omega
  · obtain ⟨i, _, rfl⟩ := List.mem_map.mp hx
    have g := grt_in b
    have := amV_in (bagV b 5) (amI2 (bagV b 5) (grt b) (bagC b 5) i) g.1
    omega
/-- drawn trees -/
def trB (n : Nat) : Nat → Bg → Tr × Bg
  | 0, x => (.leaf (bagV x 2), bagC x 2)
  | r + 1, x => if n = 0 then (.leaf (bagV x 2), bagC x 2) else if bagV x 5 = 0 then (.leaf (bagV (bagC x 5) 2), bagC (bagC x 5) 2) else
    (.node (bagV (bagC x 5) ((n : Nat) : Int)) (trB n r (bagC (bagC x 5) ((n : Nat) : Int))).1 (trB n r (trB n r (bagC (bagC x 5) ((n : Nat) : Int))).2).1, (trB n r (trB n r (bagC (bagC x 5) ((n : Nat) : Int))).2).2)
theorem leafB_ok (n : Int) (x : Bg) : okT n (.leaf (bagV x 2)) = true := by
  have h := bagV_in (b := x) (show (0 : Int) < 2 by decide)
  show (decide (0 ≤ bagV x 2) && decide (bagV x 2 < 2)) = true
  rw [decide_eq_true h.1, decide_eq_true h.2]
  rfl
theorem trB_ok (n : Nat) : ∀ (r : Nat) (x : Bg), okT ((n : Nat) : Int) (trB n r x).1 = true ∧ nodes (trB n r x).1 + 1 ≤ 2 ^ r
  | 0, x => ⟨leafB_ok _ _, Nat.le_refl _⟩
  | r + 1, x => by
    unfold trB
    split
    · exact ⟨leafB_ok _ _, Nat.one_le_two_pow⟩
    · rename_i hn
      split
      · exact ⟨leafB_ok _ _, Nat.one_le_two_pow⟩
      · have h := bagV_in (b := bagC x 5) (show (0 : Int) < ((n : Nat) : Int) by omega)
        obtain ⟨a1, a2⟩ := trB_ok n r (bagC (bagC x 5) ((n : Nat) : Int))
        obtain ⟨b1, b2⟩ := trB_ok n r (trB n r (bagC (bagC x 5) ((n : Nat) : Int))).2
        refine ⟨?_, ?_⟩
        · show (decide (0 ≤ bagV (bagC x 5) ((n : Nat) : Int)) && decide (bagV (bagC x 5) ((n : Nat) : Int) < ((n : Nat) : Int)) && (okT _ _ && okT _ _)) = true
          rw [decide_eq_true h.1, decide_eq_true h.2, a1, b1]
          rfl
        · show nodes _ + nodes _ + 1 + 1 ≤ 2 ^ (r + 1)
          rw [Nat.pow_succ]
          omega
def anR (r : Nat) : FSpec := fun ds c o => ∃ (n : Nat) (x : Bg), ds = [.mut 0, .int ((n : Nat) : Int), .int (r : Nat)] ∧ n ≤ 6 ∧ c = [x.c] ∧ o = .val (trD (trB n r x).1) false [(trB n r x).2.c]
section
variable {P : Program} {wd : World} {K : PySem.W.Frag} {mg : Str → Option Value} {base : Heap}
abbrev nStr : List Str := ["_law_many", "_law_signs", "_law_found", "_law_k", "_law_longer", "_law_text", "_law_sign"]
theorem scStr : FnScope nStr ["_law_many", "_law_signs"] (defScope (top 34)) := ⟨rfl, rfl, rfl, by decide +kernel, rfl, by decide +kernel, by decide +kernel⟩
theorem ok_str {f : Addr} {fd : FuncData} (G : Glb mg) (F : Fun K "_law_strings" "_law_strings" (top 34) f fd) : FnOk P wd K mg base CX0 1 f fd ["_law_many", "_law_signs"] (spF K strR) := by
  refine fn_val F scStr (fun ds c o h => ?_) (fun ds c o h => ?_) (fun cdv A outer s H E hr p ds c o h => ?_)
  · obtain ⟨g, n, rfl, _⟩ := h
    rfl
  · obtain ⟨g, n, _, _, rfl⟩ := h
    exact ⟨_, _, _, rfl⟩
  · obtain ⟨g, n, rfl, h6, rfl⟩ := h
    refine .inl ?_
    refine rss_cons (c1 := c) (ρ1 := [some (.int (n : Nat)), some (.lst g sgD), some (.lst ⟨false, true⟩ (wD (insT 0))), none, none, none, none]) (rs_set (nw := true) 2 scStr.nd (re_dull (g := ⟨true, true⟩) (re_lst (ra_cons re_str ra_nil) (by show 1 ≤ 100000; decide)))) ?_
    have hn : (intsD ((n : Nat) : Int).toNat).length = n := by rw [intsD_len, Int.toNat_natCast]
    refine rss_cons (c1 := c) (ρ1 := [some (.int (n : Nat)), some (.lst g sgD), some (.lst ⟨false, true⟩ (wD (insT n))), none, none, none, none]) ?_ (rss_ret (rs_ret (re_var 2)))
    have main := rs_for_all (X := (cxOf CX0 P wd K mg base nStr "_law_strings" (defScope (top 34)) f cdv A outer s H E).nox) (W := Wf) (p := p) (c := c) (ρ := [some (.int (n : Nat)), some (.lst g sgD), some (.lst ⟨false, true⟩ (wD (insT 0))), none, none, none, none]) (xs := intsD ((n : Nat) : Int).toNat) (vs := [3]) (g := gName 3)
      (tg := match (defBody (top 34)) with | [_, .For t _ _ _ _, _] => t | _ => .Constant .none 0 ⟨0, 0, 0, 0⟩) (it := match (defBody (top 34)) with | [_, .For _ t _ _ _, _] => t | _ => .Constant .none 0 ⟨0, 0, 0, 0⟩) (body := match (defBody (top 34)) with | [_, .For _ _ b _ _, _] => b | _ => []) (pos := match (defBody (top 34)) with | [_, .For _ _ _ _ q, _] => q | _ => ⟨0, 0, 0, 0⟩)
      (fun j => [some (.int (n : Nat)), some (.lst g sgD), some (.lst ⟨false, true⟩ (wD (insT j))), none, none, none, none]) (fun j => [some (.int (n : Nat)), some (.lst g sgD), some (.lst ⟨false, true⟩ (wD (insT j))), some (.int (j : Nat)), none, none, none]) (fun _ => c) PassesOwn.never rfl rfl
      (ri_range G.range (re_var 0) (by omega) (by omega)) (pg_name (i := 3) scStr.nd rfl (Or.inl rfl)) (fun i d h => by
        obtain ⟨rfl, _⟩ := intsD_at h
        exact tg_name (by decide)) (fun j d h => ?_)
    · rw [hn] at main
      exact main
    · obtain ⟨_, hj⟩ := intsD_at h
      rw [Int.toNat_natCast] at hj
      have wl : ∀ w ∈ insT j, w.length = j := fun w hw => insT_at hw
      have wz : (insT j).length ≤ 64 := by rw [insT_len]; exact pow_64 (by omega)
      rw [insT_next]
      generalize insT j = ws at *
      refine rss_less (ρ1 := [some (.int (n : Nat)), some (.lst g sgD), some (.lst ⟨false, true⟩ (wD (step ws bins))), some (.int (j : Nat)), some (.lst ⟨false, true⟩ (wD (step ws bins))), none, none]) ?_ (by repeat (first | exact Less.nil | apply Less.same | apply Less.skip))
      refine rss_cons (c1 := c) (ρ1 := [some (.int (n : Nat)), some (.lst g sgD), some (.lst ⟨false, true⟩ (wD ws)), some (.int (j : Nat)), some (.lst ⟨false, true⟩ (wD (step (ws.take 0) bins))), none, none]) (rs_set (nw := true) 4 scStr.nd (re_dull (g := ⟨true, true⟩) (re_lst ra_nil (by show 0 ≤ 100000; decide)))) ?_
      refine rss_cons (c1 := c) (ρ1 := [some (.int (n : Nat)), some (.lst g sgD), some (.lst ⟨false, true⟩ (wD ws)), some (.int (j : Nat)), some (.lst ⟨false, true⟩ (wD (step ws bins))), none, none]) ?_ (rss_cons (rs_set 2 scStr.nd (re_var 4)) rss_nil)
      have inner := rs_for_all (X := (cxOf CX0 P wd K mg base nStr "_law_strings" (defScope (top 34)) f cdv A outer s H E).nox) (W := Wf) (p := p) (c := c) (ρ := [some (.int (n : Nat)), some (.lst g sgD), some (.lst ⟨false, true⟩ (wD ws)), some (.int (j : Nat)), some (.lst ⟨false, true⟩ (wD (step (ws.take 0) bins))), none, none]) (xs := wD ws) (vs := [5]) (g := gName 5)
        (tg := match (defBody (top 34)) with | [_, .For _ _ [_, .For t _ _ _ _, _] _ _, _] => t | _ => .Constant .none 0 ⟨0, 0, 0, 0⟩) (it := match (defBody (top 34)) with | [_, .For _ _ [_, .For _ t _ _ _, _] _ _, _] => t | _ => .Constant .none 0 ⟨0, 0, 0, 0⟩) (body := match (defBody (top 34)) with | [_, .For _ _ [_, .For _ _ b _ _, _] _ _, _] => b | _ => []) (pos := match (defBody (top 34)) with | [_, .For _ _ [_, .For _ _ _ _ q, _] _ _, _] => q | _ => ⟨0, 0, 0, 0⟩)
        (fun i => [some (.int (n : Nat)), some (.lst g sgD), some (.lst ⟨false, true⟩ (wD ws)), some (.int (j : Nat)), some (.lst ⟨false, true⟩ (wD (step (ws.take i) bins))), none, none]) (fun i => [some (.int (n : Nat)), some (.lst g sgD), some (.lst ⟨false, true⟩ (wD ws)), some (.int (j : Nat)), some (.lst ⟨false, true⟩ (wD (step (ws.take i) bins))), some (.str (tx (ws.getD i []))), none]) (fun _ => c) PassesOwn.never rfl rfl
        (ri_lst (re_var 2)) (pg_name (i := 5) scStr.nd rfl (Or.inr rfl)) (fun i d h => by
          obtain ⟨rfl, _⟩ := wD_at h
          exact tg_name (by decide)) (fun i d h => ?_)
      · rw [wD_len, List.take_length] at inner
        exact inner
      · obtain ⟨_, hi, hm⟩ := wD_at h
        have e : wD (step (ws.take (i + 1)) bins) = wD (step (ws.take i) bins) ++ wD (bins.map fun x => ws.getD i [] ++ [x]) := by
          rw [List.take_add_one, show ws[i]?.toList = [ws.getD i []] by rw [List.getD_eq_getElem?_getD, List.getElem?_eq_getElem hi]; rfl]
          unfold step wD
          rw [List.flatMap_append, List.map_append, List.flatMap_cons, List.flatMap_nil, List.append_nil]
        have key : (List.range sgD.length).map (fun m => D.str (tx (ws.getD i []) ++ chr1 (([48, 49] : List Nat).getD m 0))) = wD (bins.map fun x => ws.getD i [] ++ [x]) := by
          rw [bins_is]
          show [D.str (tx (ws.getD i []) ++ tx [48]), D.str (tx (ws.getD i []) ++ tx [49])] = [D.str (tx (ws.getD i [] ++ [48])), D.str (tx (ws.getD i [] ++ [49]))]
          rw [tx_app, tx_app]
        refine rss_less (ρ1 := [some (.int (n : Nat)), some (.lst g sgD), some (.lst ⟨false, true⟩ (wD ws)), some (.int (j : Nat)), some (.lst ⟨false, true⟩ (wD (step (ws.take (i + 1)) bins))), some (.str (tx (ws.getD i []))), none]) (rss_cons (rs_set (nw := true) 4 scStr.nd ?_) rss_nil) (by repeat (first | exact Less.nil | apply Less.same | apply Less.skip))
        rw [e, ← key]
        refine re_bin (n2 := true) op_cat (re_var 4) (re_lcA (own := [("_law_sign", 6)]) (g := gName 6) (xs := sgD) (fun m => D.str (tx (ws.getD i []) ++ chr1 (([48, 49] : List Nat).getD m 0))) (fun _ => c) (fun m => [some (.int (n : Nat)), some (.lst g sgD), some (.lst ⟨false, true⟩ (wD ws)), some (.int (j : Nat)), some (.lst ⟨false, true⟩ (wD (step (ws.take i) bins))), some (.str (tx (ws.getD i []))), some (.str (chr1 (([48, 49] : List Nat).getD m 0)))]) (fun _ => true) rfl scStr.nd (ri_lst (re_var 1)) (blkOk_by (N := nStr) (sc := defScope (top 34)) (by decide +kernel)) (fun _ _ _ _ _ => pg_name (i := 6) scStr.nd rfl (Or.inl rfl)) (fun m d h => ?_) (fun m d h q s H C cl fp => ?_) (by decide)) (ov_cat rfl rfl ?_)
        · have : d = .str (chr1 (([48, 49] : List Nat).getD m 0)) := by
            match m, h with
            | 0, h => exact (Option.some.inj h).symm
            | 1, h => exact (Option.some.inj h).symm
            | m + 2, h => cases h
          rw [this]
          exact tg_name (by decide)
        · exact re_bin op_add_str (re_var 5) (re_var 6) (ov_addS (sz_le (by rw [tx_len, wl _ hm]; show _ + 1 ≤ _; omega)))
        · rw [wD_len, step_len, List.length_take, List.length_map, List.length_range]
          have e2 : bins.length = 2 := by decide
          rw [e2]
          show min i ws.length * 2 + 2 ≤ _
          omega
abbrev StrD (P : Program) (w : World) (K : PySem.W.Frag) (mg : Str → Option Value) (base : Heap) := Def0 P w K mg base 1 "_law_strings" ["_law_many", "_law_signs"] strR
theorem ok_in {f : Addr} {fd : FuncData} (T : StrD P wd K mg base) (F : Fun K "_law_inputs" "_law_inputs" (top 35) f fd) : FnOk P wd K mg base CX0 2 f fd ["_law_many"] (spF K inR) := by
  refine fn_val F (N := ["_law_many"]) ⟨rfl, rfl, rfl, by decide +kernel, rfl, by decide +kernel, by decide +kernel⟩ (fun ds c o h => ?_) (fun ds c o h => ?_) (fun cdv A outer s H E hr p ds c o h => ?_)
  · obtain ⟨n, rfl, _⟩ := h
    rfl
  · obtain ⟨n, _, _, rfl⟩ := h
    exact ⟨_, _, _, rfl⟩
  · obtain ⟨n, rfl, h6, rfl⟩ := h
    exact .inl (rss_ret (rs_ret (re_c0 T hr (ra_cons (re_var 0) (ra_cons (re_lst (ds := sgD) (ra_cons re_str (ra_cons re_str ra_nil)) (by show 2 ≤ 100000; decide)) ra_nil)) ⟨_, n, rfl, h6, rfl⟩)))
abbrev InD (P : Program) (w : World) (K : PySem.W.Frag) (mg : Str → Option Value) (base : Heap) := Def0 P w K mg base 2 "_law_inputs" ["_law_many"] inR
theorem ok_pick {f : Addr} {fd : FuncData} (G : Glb mg) (T : BdrawD P wd K mg base) (F : Fun K "_law_pick" "_law_pick" (top 33) f fd) : FnOk P wd K mg base CX0 2 f fd ["_law_bag_here", "_law_items"] (spF K piR) := by
  refine fn_val F (N := ["_law_bag_here", "_law_items"]) ⟨rfl, rfl, rfl, by decide +kernel, rfl, by decide +kernel, by decide +kernel⟩ (fun ds c o h => ?_) (fun ds c o h => ?_) (fun cdv A outer s H E hr p ds c o h => ?_)
  · obtain ⟨b, g, xs, rfl, _⟩ := h
    rfl
  · obtain ⟨b, g, xs, _, _, _, _, rfl⟩ := h
    exact ⟨_, _, _, rfl⟩
  · obtain ⟨b, g, xs, rfl, rfl, h0, h1, rfl⟩ := h
    have hv := bagV_in (b := b) (show (0 : Int) < ((xs.length : Nat) : Int) by omega)
    refine .inl (rss_ret (rs_ret (re_ix ix_seq (re_var 1) (re_c0 T hr (ra_cons (re_var 0) (ra_cons (re_callB call_len G.len PySem.boot_len (ra_cons (re_var 1) ra_nil) cv_lenL) ra_nil)) ⟨_, b, rfl, rfl, by omega, log_lt (n := 9000) (Nat.lt_of_lt_of_le (show ((xs.length : Nat) : Int).natAbs < 2 ^ 7 by omega) (Nat.pow_le_pow_right (by decide) (by decide))) (by decide), rfl⟩) (ov_ixL (j := (bagV b (xs.length : Nat)).toNat) (Int.toNat_of_nonneg hv.1).symm ?_))))
    rw [List.getD_eq_getElem?_getD, List.getElem?_eq_getElem (show (bagV b (xs.length : Nat)).toNat < xs.length by omega)]
    rfl
abbrev PickD (P : Program) (w : World) (K : PySem.W.Frag) (mg : Str → Option Value) (base : Heap) := Def0 P w K mg base 2 "_law_pick" ["_law_bag_here", "_law_items"] piR
abbrev nAn : List Str := ["_law_bag_here", "_law_many", "_law_room", "_law_at", "_law_low"]
theorem scAn : FnScope nAn ["_law_bag_here", "_law_many", "_law_room"] (defScope (top 39)) := ⟨rfl, rfl, rfl, by decide +kernel, rfl, by decide +kernel, by decide +kernel⟩
theorem ok_any {f : Addr} {fd : FuncData} (T : BdrawD P wd K mg base) (F : Fun K "_law_any_tree" "_law_any_tree" (top 39) f fd) (hm : mg "_law_any_tree" = some (.ref f)) (hb : Binds K fd ["_law_bag_here", "_law_many", "_law_room"] []) : ∀ r : Nat, FnOk P wd K mg base CX0 (r + 2) f fd ["_law_bag_here", "_law_many", "_law_room"] (spF K (anR r)) := by
  have l2 : (2 : Int).natAbs.log2 < 9000 := by decide
  have l5 : (5 : Int).natAbs.log2 < 9000 := by decide
  intro r
  induction r with
  | zero =>
    refine fn_val F scAn (fun ds c o h => ?_) (fun ds c o h => ?_) (fun cdv A outer s H E hr p ds c o h => ?_)
    · obtain ⟨n, x, rfl, _⟩ := h
      rfl
    · obtain ⟨n, x, _, _, _, rfl⟩ := h
      exact ⟨_, _, _, rfl⟩
    · obtain ⟨n, x, rfl, hn6, rfl, rfl⟩ := h
      exact .inl (rss_ret (rs_if (kb := true) (RW.rt (rw_or (k1 := true) (k2 := true) (rt_cmp op_eq (re_var 2) re_int ov_eqI) fun z => nomatch z)) (fun _ => rss_ret (rs_ret (re_c0 T hr (ra_cons (re_var 0) (ra_cons re_int ra_nil)) ⟨2, x, rfl, rfl, by decide, l2, rfl⟩))) fun z => nomatch z))
  | succ r ih =>
    have TI : Def0 P wd K mg base (r + 2) "_law_any_tree" ["_law_bag_here", "_law_many", "_law_room"] (anR r) := ⟨⟨f, fd, ih, hm, F.kp, hb⟩⟩
    refine fn_val F scAn (fun ds c o h => ?_) (fun ds c o h => ?_) (fun cdv A outer s H E hr p ds c o h => ?_)
    · obtain ⟨n, x, rfl, _⟩ := h
      rfl
    · obtain ⟨n, x, _, _, _, rfl⟩ := h
      exact ⟨_, _, _, rfl⟩
    · obtain ⟨n, x, rfl, hn6, rfl, rfl⟩ := h
      have hr1 := hr.mono (show 1 ≤ r + 2 by omega)
      have ln : ((n : Nat) : Int).natAbs.log2 < 9000 := log_lt (n := 9000) (Nat.lt_of_lt_of_le (show ((n : Nat) : Int).natAbs < 2 ^ 3 by omega) (Nat.pow_le_pow_right (by decide) (by decide))) (by decide)
      by_cases hn0 : n = 0
      · subst hn0
        exact .inl (rss_ret (rs_if (kb := true) (RW.rt (rw_orS (rt_to (rt_cmp op_eq (re_var 2) re_int ov_eqI) (decide_eq_false (by omega))) <| rw_or (k1 := true) (k2 := true) (rt_cmp op_eq (re_var 1) re_int ov_eqI) fun z => nomatch z)) (fun _ => rss_ret (rs_ret (re_c0 T hr1 (ra_cons (re_var 0) (ra_cons re_int ra_nil)) ⟨2, x, rfl, rfl, by decide, l2, rfl⟩))) fun z => nomatch z))
      have g5 : ∀ k, k = decide (bagV x 5 = 0) → RT (cxOf CX0 P wd K mg base nAn "_law_any_tree" (defScope (top 39)) f cdv A outer s H E).nox Wf p (startR nAn [.mut 0, .int ((n : Nat) : Int), .int ((r + 1 : Nat) : Int)]) [x.c] (match (defBody (top 39)).getD 0 (.Pass ⟨0, 0, 0, 0⟩) with | .If t _ _ _ => t | _ => .Name "" ⟨0, 0, 0, 0⟩) (.val k [(bagC x 5).c]) := fun k hk =>
        RW.rt (rw_orS (rt_to (rt_cmp op_eq (re_var 2) re_int ov_eqI) (decide_eq_false (by omega))) <| rw_orS (rt_to (rt_cmp op_eq (re_var 1) re_int ov_eqI) (decide_eq_false (by omega))) <| rw_or1 (rt_to (rt_cmp op_eq (re_c0 T hr1 (ra_cons (re_var 0) (ra_cons re_int ra_nil)) ⟨5, x, rfl, rfl, by decide, l5, rfl⟩) re_int ov_eqI) hk.symm))
      by_cases h4 : bagV x 5 = 0
      · have e : trB n (r + 1) x = (.leaf (bagV (bagC x 5) 2), bagC (bagC x 5) 2) := by unfold trB; rw [if_neg hn0, if_pos h4]
        rw [e]
        exact .inl (rss_ret (rs_if (kb := true) (g5 true (decide_eq_true h4).symm) (fun _ => rss_ret (rs_ret (re_c0 T hr1 (ra_cons (re_var 0) (ra_cons re_int ra_nil)) ⟨2, _, rfl, rfl, by decide, l2, rfl⟩))) fun z => nomatch z))
      · have e : trB n (r + 1) x = (.node (bagV (bagC x 5) ((n : Nat) : Int)) (trB n r (bagC (bagC x 5) ((n : Nat) : Int))).1 (trB n r (trB n r (bagC (bagC x 5) ((n : Nat) : Int))).2).1, (trB n r (trB n r (bagC (bagC x 5) ((n : Nat) : Int))).2).2) := by unfold trB; rw [if_neg hn0, if_neg h4]; cases r <;> rfl
        rw [e]
        dsimp only
        refine .inl (rss_cons (rs_if (kb := false) (g5 false (decide_eq_false h4).symm) (fun z => nomatch z) fun _ => rss_nil) ?_)
        refine rss_cons (rs_set 3 scAn.nd (re_c0 T hr1 (ra_cons (re_var 0) (ra_cons (re_var 1) ra_nil)) ⟨((n : Nat) : Int), _, rfl, rfl, by omega, ln, rfl⟩)) ?_
        have es : (((r + 1 : Nat) : Int) - 1) = ((r : Nat) : Int) := by omega
        refine rss_cons (rs_set 4 scAn.nd (re_c0 TI hr (ra_cons (re_var 0) (ra_cons (re_var 1) (ra_cons (re_to (re_bin op_sub (re_var 2) re_int ov_ii) (congrArg D.int es)) ra_nil))) ⟨n, _, rfl, hn6, rfl, rfl⟩)) ?_
        exact rss_ret (rs_ret (re_old (re_tup (ra_cons (re_var 3) (ra_cons (re_var 4) (ra_cons (re_c0 TI hr (ra_cons (re_var 0) (ra_cons (re_var 1) (ra_cons (re_to (re_bin op_sub (re_var 2) re_int ov_ii) (congrArg D.int es)) ra_nil))) ⟨n, _, rfl, hn6, rfl, rfl⟩) ra_nil))) (by show 3 ≤ 100000; decide))))
end
end K56

namespace K56
open PySem PySem.Spec PyProof.Rows L2 LA
open K36 (ev dep)
/-! ### going along in the law; rows of amounts -/
section
variable {P : Program} {wd : World} {K : PySem.W.Frag} {mg : Str → Option Value} {base : Heap}
abbrev nPa : List Str := ["_law_tree", "_law_text", "_law_found", "_law_k"]
theorem scPa : FnScope nPa ["_law_tree", "_law_text"] (defScope (top 36)) := ⟨rfl, rfl, rfl, by decide +kernel, rfl, by decide +kernel, by decide +kernel⟩
abbrev fTg (st : Stmt) : Expr := match st with | .For t _ _ _ _ => t | _ => .Constant .none 0 ⟨0, 0, 0, 0⟩
abbrev fIt (st : Stmt) : Expr := match st with | .For _ t _ _ _ => t | _ => .Constant .none 0 ⟨0, 0, 0, 0⟩
abbrev fBd (st : Stmt) : List Stmt := match st with | .For _ _ b _ _ => b | _ => []
abbrev fPs (st : Stmt) : Pos := match st with | .For _ _ _ _ q => q | _ => ⟨0, 0, 0, 0⟩
abbrev paF : Stmt := (defBody (top 36)).getD 1 (.Pass ⟨0, 0, 0, 0⟩)
theorem ok_pa {f : Addr} {fd : FuncData} (G : Glb mg) (F : Fun K "_law_path" "_law_path" (top 36) f fd) : FnOk P wd K mg base CX0 1 f fd ["_law_tree", "_law_text"] (spF K paR) := by
  refine fn_val F scPa (fun ds c o h => ?_) (fun ds c o h => ?_) (fun cdv A outer s H E hr p ds c o h => ?_)
  · obtain ⟨t, w, rfl, _⟩ := h
    rfl
  · obtain ⟨t, w, _, _, _, _, _, rfl⟩ := h
    exact ⟨_, _, _, rfl⟩
  · obtain ⟨t, w, rfl, ho, hn, hw, hbt, rfl⟩ := h
    have zt : (tx w).length ≤ sizeLine := sz_le (by rw [tx_len]; omega)
    have lnl := ln_le w t
    let X := (cxOf CX0 P wd K mg base nPa "_law_path" (defScope (top 36)) f cdv A outer s H E).nox
    refine .inl (rso_of (rso_new (g := ⟨true, true⟩) (ds := []) (c1 := c) 2 (rn_set (W := Wf) 2 scPa.nd (re_lst ra_nil (by show 0 ≤ 100000; decide))) rfl fun a => ?_))
    let ρs : Nat → Rho := fun i => [some (trD (stG w i t []).1), some (.str (tx w)), some (.mut c.length), none]
    let ρt : Nat → Rho := fun i => [some (trD (stG w i t []).1), some (.str (tx w)), some (.mut c.length), some (.int ((i : Nat) : Int))]
    let cs : Nat → PC := fun i => c ++ [.lst (iD (stG w i t []).2)]
    have e1 := stG_end w (ln w t) t [] rfl
    have e2 := stG_pth w (ln w t) t [] rfl
    refine rso_pair (c := c) (ds := iD (pth w t)) (b := .int (ev w t)) (nw := true) (rss_ret ?_) rfl
    refine rs_for (X := X) (W := Wf) (p := p.mut a) (c := cs 0) (ρ := ρs 0) (xs := intsD 40) (vs := [3]) (g := gName 3) (body := fBd paF) (tg := fTg paF) (it := fIt paF) (pos := fPs paF)
      (ln w t) ρs ρt cs _ PassesOwn.never rfl rfl (ri_range (n := 40) G.range re_int (by decide) (by decide)) (pg_name (i := 3) scPa.nd rfl (Or.inl rfl)) (fun i d h _ => by
        obtain ⟨rfl, _⟩ := intsD_at h
        exact tg_name (by decide)) (fun i d h hi => ?_) (.inr ⟨.int ((ln w t : Nat) : Int), .tup [.mut c.length, .int (ev w t)], true, c ++ [.lst (iD (pth w t))], ?_, rfl, ?_⟩)
    · obtain ⟨k, l, r, q1, q2⟩ := stG_step w i t [] hi
      have oi := stG_ok (n := (w.length : Nat)) w i t [] ho
      rw [q1] at oi
      obtain ⟨hk, _, _⟩ := okT_node oi
      have ek : k = ((k.toNat : Nat) : Int) := (Int.toNat_of_nonneg hk.1).symm
      have hkl : k.toNat < w.length := by omega
      have len := stG_len w i t []
      have at_ : (tx w).cps.toList[k.toNat]? = some (w.getD k.toNat 0) := at_get hkl
      have bit : w.getD k.toNat 0 = 48 ∨ w.getD k.toNat 0 = 49 := by
        have m := hbt (w.getD k.toNat 0) (by rw [List.getD_eq_getElem?_getD, List.getElem?_eq_getElem hkl]; exact List.getElem_mem _)
        rw [bins_is] at m
        simpa using m
      have ecs : cs (i + 1) = c ++ [.lst (iD (stG w i t []).2 ++ [.int k])] := by
        show c ++ [.lst (iD (stG w (i + 1) t []).2)] = _
        rw [q2]
        show c ++ [.lst (((stG w i t []).2 ++ [k]).map D.int)] = _
        rw [List.map_append]
        rfl
      have ers : ρs (i + 1) = [some (trD (if w.getD k.toNat 0 = 48 then l else r)), some (.str (tx w)), some (.mut c.length), none] := by
        show [some (trD (stG w (i + 1) t []).1), _, _, _] = _
        rw [q2]
      refine rss_less (ρ1 := [some (trD (if w.getD k.toNat 0 = 48 then l else r)), some (.str (tx w)), some (.mut c.length), some (.int ((i : Nat) : Int))]) ?_ (by rw [ers]; exact .same (.same (.same (.skip .nil))))
      show RSs X Wf _ [some (trD (stG w i t []).1), some (.str (tx w)), some (.mut c.length), some (.int ((i : Nat) : Int))] (cs i) _ _
      rw [q1]
      refine rss_cons (c1 := cs i) (rs_if (kb := false) (rt_not (rt_val (re_callB (d := .bl true) call_isi G.isi PyProof.Rows.boot_isinstance (ra_cons (re_var 0) (ra_cons (re_ty G.tuple PyProof.Rows.boot_tuple) ra_nil)) (cv_isi (t := "tuple") rfl rfl)))) (fun z => nomatch z) fun _ => rss_nil) ?_
      have app := rs_app (X := X) (W := Wf) (p := p.mut a) (ρ := [some (trD (.node k l r)), some (.str (tx w)), some (.mut c.length), some (.int ((i : Nat) : Int))]) (c := cs i) (c1 := cs i) (e := match (fBd paF).getD 1 (.Pass ⟨0, 0, 0, 0⟩) with | .Expr (.Call _ (e :: _) _ _) _ => e | _ => .Name "" ⟨0, 0, 0, 0⟩) (d := .int k) (nw := false) (ds := iD (stG w i t []).2) (x := "_law_found") (pos := match (fBd paF).getD 1 (.Pass ⟨0, 0, 0, 0⟩) with | .Expr _ q => q | _ => ⟨0, 0, 0, 0⟩) (cpos := match (fBd paF).getD 1 (.Pass ⟨0, 0, 0, 0⟩) with | .Expr (.Call _ _ _ q) _ => q | _ => ⟨0, 0, 0, 0⟩) (apos := match (fBd paF).getD 1 (.Pass ⟨0, 0, 0, 0⟩) with | .Expr (.Call (.Attribute _ _ q) _ _ _) _ => q | _ => ⟨0, 0, 0, 0⟩) (xp := match (fBd paF).getD 1 (.Pass ⟨0, 0, 0, 0⟩) with | .Expr (.Call (.Attribute (.Name _ q) _ _) _ _ _) _ => q | _ => ⟨0, 0, 0, 0⟩) 2 c.length (re_ix ix_seq (re_var 0) re_int (ov_ixT (j := 0) rfl rfl)) ⟨iD (stG w i t []).2, by show (c ++ [_])[c.length]? = _; simp⟩ (by show (c ++ [_])[c.length]? = _; simp) (by rw [List.length_map]; simp at len; omega) rfl
      have es : (cs i).set c.length (.lst (iD (stG w i t []).2 ++ [.int k])) = cs (i + 1) := by
        rw [ecs]
        exact set_last _ _ _
      rw [es] at app
      refine rss_cons app ?_
      rcases bit with h | h
      · rw [if_pos h]
        exact rss_cons (rs_set (nw := false) 0 scPa.nd (re_ix ix_seq (re_var 0) (re_bin op_add re_int (re_intC G.int (re_ix ix_seq (re_var 1) (re_ix ix_seq (re_var 0) re_int (ov_ixT (j := 0) rfl rfl)) (ov_ixS zt ek at_)) (.inl h)) ov_ii) (ov_ixT (j := 1) (by rw [h]; rfl) rfl))) rss_nil
      · rw [if_neg (by omega)]
        exact rss_cons (rs_set (nw := false) 0 scPa.nd (re_ix ix_seq (re_var 0) (re_bin op_add re_int (re_intC G.int (re_ix ix_seq (re_var 1) (re_ix ix_seq (re_var 0) re_int (ov_ixT (j := 0) rfl rfl)) (ov_ixS zt ek at_)) (.inr h)) ov_ii) (ov_ixT (j := 2) (by rw [h]; rfl) rfl))) rss_nil
    · unfold intsD
      rw [List.getElem?_map, List.getElem?_range (by omega)]
      rfl
    · show RSs X Wf _ [some (trD (stG w (ln w t) t []).1), some (.str (tx w)), some (.mut c.length), some (.int ((ln w t : Nat) : Int))] (c ++ [.lst (iD (stG w (ln w t) t []).2)]) _ _
      rw [e1, e2]
      exact rss_ret (rs_if (kb := true) (rt_not (rt_val (re_callB (d := .bl false) call_isi G.isi PyProof.Rows.boot_isinstance (ra_cons (re_var 0) (ra_cons (re_ty G.tuple PyProof.Rows.boot_tuple) ra_nil)) (cv_isi (t := "int") rfl rfl)))) (fun _ => rss_ret (rs_ret (re_tup (ra_cons (re_var 2) (ra_cons (re_var 0) ra_nil)) (by show 2 ≤ 100000; decide)))) fun z => nomatch z)
abbrev PaD (P : Program) (w : World) (K : PySem.W.Frag) (mg : Str → Option Value) (base : Heap) := Def0 P w K mg base 1 "_law_path" ["_law_tree", "_law_text"] paR
abbrev nPc : List Str := ["_law_tree", "_law_row_here", "_law_text", "_law_at"]
theorem scPc : FnScope nPc ["_law_tree", "_law_row_here", "_law_text"] (defScope (top 38)) := ⟨rfl, rfl, rfl, by decide +kernel, rfl, by decide +kernel, by decide +kernel⟩
theorem ok_pc {f : Addr} {fd : FuncData} (G : Glb mg) (T : PaD P wd K mg base) (F : Fun K "_law_path_cost" "_law_path_cost" (top 38) f fd) : FnOk P wd K mg base CX0 2 f fd ["_law_tree", "_law_row_here", "_law_text"] (spF K pcR) := by
  refine fn_val F scPc (fun ds c o h => ?_) (fun ds c o h => ?_) (fun cdv A outer s H E hr p ds c o h => ?_)
  · obtain ⟨t, w, g, ps, rfl, _⟩ := h
    rfl
  · obtain ⟨t, w, g, ps, _, _, _, _, _, _, rfl⟩ := h
    exact ⟨_, _, _, rfl⟩
  · obtain ⟨t, w, g, ps, rfl, ho, hn, hw, hl, hb, rfl⟩ := h
    have pin := pth_in (n := ((w.length : Nat) : Int)) w t ho
    have pl := pth_len w t
    have lnl := ln_le w t
    refine .inl (rss_ret (rs_ret (re_callB (ds := [.lst ⟨false, true⟩ (((pth w t).map fun q => ps.getD q.toNat 0).map D.int)]) (cr_sum rfl) G.sum PyProof.Rows.boot_sum (ra_cons (nw := true) ?_ ra_nil) cv_sum)))
    refine re_to (d := .lst ⟨false, true⟩ ((List.range (iD (pth w t)).length).map fun j => D.int (ps.getD ((pth w t).getD j 0).toNat 0))) ?_ (by rw [map_D (α := Int) (fun q => ps.getD q.toNat 0)])
    refine re_lcA (own := [("_law_at", 3)]) (g := gName 3) (xs := iD (pth w t)) (fun j => D.int (ps.getD ((pth w t).getD j 0).toNat 0)) (fun _ => c) (fun j => [some (trD t), some (.lst g (iD ps)), some (.str (tx w)), some (.int ((pth w t).getD j 0))]) (fun _ => false) rfl scPc.nd (ri_lst (g := ⟨false, true⟩) (re_ix ix_seq (re_c0 T hr (ra_cons (re_var 0) (ra_cons (re_var 2) ra_nil)) ⟨t, w, rfl, ho, hn, hw, hb, rfl⟩) re_int (ov_ixT (j := 0) rfl rfl))) (blkOk_by (N := nPc) (sc := defScope (top 38)) (by decide +kernel)) (fun _ _ _ _ _ => pg_name (i := 3) scPc.nd rfl (Or.inl rfl)) (fun j d h => ?_) (fun j d h q2 s2 H2 C2 cl2 fp2 => ?_) (by rw [List.length_map]; omega)
    · have hj : j < (pth w t).length := by
        have := (List.getElem?_eq_some_iff.mp h).1
        rwa [List.length_map] at this
      rw [iD_at hj] at h
      cases h
      exact tg_name (j := 3) (vs := [3]) (by decide)
    · have hj : j < (pth w t).length := by
        have := (List.getElem?_eq_some_iff.mp h).1
        rwa [List.length_map] at this
      have hq := pin ((pth w t).getD j 0) (by rw [List.getD_eq_getElem?_getD, List.getElem?_eq_getElem hj]; exact List.getElem_mem _)
      generalize (pth w t).getD j 0 = z at hq
      exact re_ix ix_seq (re_var 1) (re_var 3) (ov_ixL (j := z.toNat) (Int.toNat_of_nonneg hq.1).symm (iD_at (by omega)))
abbrev PcD (P : Program) (w : World) (K : PySem.W.Frag) (mg : Str → Option Value) (base : Heap) := Def0 P w K mg base 2 "_law_path_cost" ["_law_tree", "_law_row_here", "_law_text"] pcR
theorem ov_neIt {p : HD} {c : PC} {i j : Int} (h : i ≠ j) : OV K p rNe (.int i) (.int j) (.bl true) true c := by
  have q := ov_neI (K := K) (p := p) (c := c) (i := i) (j := j)
  rw [decide_eq_false h] at q
  exact q
theorem ov_neIf {p : HD} {c : PC} {i j : Int} (h : i = j) : OV K p rNe (.int i) (.int j) (.bl false) true c := by
  have q := ov_neI (K := K) (p := p) (c := c) (i := i) (j := j)
  rw [decide_eq_true h] at q
  exact q
abbrev nRo : List Str := ["_law_bag_here", "_law_count", "_law_way", "_law_great", "_law_alike", "_law_k"]
theorem scRo : FnScope nRo ["_law_bag_here", "_law_count"] (defScope (top 37)) := ⟨rfl, rfl, rfl, by decide +kernel, rfl, by decide +kernel, by decide +kernel⟩
theorem coll_rep (v : Int) (m : Nat) : ((List.range (intsD m).length).map fun _ => D.int v) = iD (List.replicate m v) := by
  rw [intsD_len]
  refine List.ext_getElem? fun i => ?_
  by_cases hi : i < m
  · simp [hi, List.getElem?_range]
  · simp [hi]
theorem ok_row {f : Addr} {fd : FuncData} (G : Glb mg) (T : BdrawD P wd K mg base) (F : Fun K "_law_row" "_law_row" (top 37) f fd) : FnOk P wd K mg base CX0 2 f fd ["_law_bag_here", "_law_count"] (spF K roR) := by
  have l3 : (3 : Int).natAbs.log2 < 9000 := by decide
  have l5 : (5 : Int).natAbs.log2 < 9000 := by decide
  refine fn_val F scRo (fun ds c o h => ?_) (fun ds c o h => ?_) (fun cdv A outer s H E hr p ds c o h => ?_)
  · obtain ⟨b, m, rfl, _⟩ := h
    rfl
  · obtain ⟨b, m, _, _, _, rfl⟩ := h
    exact ⟨_, _, _, rfl⟩
  · obtain ⟨b, m, rfl, rfl, hm, rfl⟩ := h
    have d5 := bagV_in (b := b) (show (0 : Int) < 5 by decide)
    have hj : (bagV b 5).toNat < 5 := by omega
    have gi := grt_in b
    have zl : (intsD m).length = m := intsD_len m
    refine .inl (rss_cons (c1 := [(bagC b 5).c]) (ρ1 := [some (.mut 0), some (.int ((m : Nat) : Int)), some (.int (bagV b 5)), none, none, none]) (rs_set (nw := false) 2 scRo.nd (re_c0 T hr (ra_cons (re_var 0) (ra_cons re_int ra_nil)) ⟨5, b, rfl, rfl, by decide, l5, rfl⟩)) ?_)
    refine rss_cons (c1 := [(bagC b 5).c]) (ρ1 := [some (.mut 0), some (.int ((m : Nat) : Int)), some (.int (bagV b 5)), some (.int (grt b)), none, none]) (rs_set (nw := false) 3 scRo.nd (re_ix ix_seq (re_lst (ds := ([2, 4, 12, 10 ^ (9 : Int).toNat, 10 ^ (18 : Int).toNat] : List Int).map D.int) (ra_cons re_int (ra_cons re_int (ra_cons re_int (ra_cons (re_bin op_pow re_int re_int (ov_cii ⟨by decide, by decide, by decide⟩)) (ra_cons (re_bin op_pow re_int re_int (ov_cii ⟨by decide, by decide, by decide⟩)) ra_nil))))) (by show 5 ≤ 100000; decide)) (re_var 2) (ov_ixL (j := (bagV b 5).toNat) (Int.toNat_of_nonneg d5.1).symm ?_))) ?_
    · unfold grt
      generalize (bagV b 5).toNat = j at hj
      match j, hj with
      | 0, _ => rfl
      | 1, _ => rfl
      | 2, _ => rfl
      | 3, _ => rfl
      | 4, _ => rfl
    unfold rowL rowC
    by_cases h0 : bagV b 5 = 0
    · rw [if_pos h0, if_pos h0]
      refine rss_ret (rs_if (kb := true) (rt_to (rt_cmp op_eq (re_var 2) re_int ov_eqI) (decide_eq_true h0)) (fun _ => ?_) fun z => nomatch z)
      refine rss_cons (c1 := [(bagC (bagC b 5) 3).c]) (ρ1 := [some (.mut 0), some (.int ((m : Nat) : Int)), some (.int (bagV b 5)), some (.int (grt b)), some (.int (bagV (bagC b 5) 3)), none]) (rs_set (nw := false) 4 scRo.nd (re_c0 T hr (ra_cons (re_var 0) (ra_cons re_int ra_nil)) ⟨3, bagC b 5, rfl, rfl, by decide, l3, rfl⟩)) ?_
      refine rss_ret (rs_ret (re_to (d := .lst ⟨false, true⟩ ((List.range (intsD m).length).map fun _ => D.int (bagV (bagC b 5) 3))) ?_ (congrArg _ (coll_rep _ m))))
      exact re_lcA (own := [("_law_k", 5)]) (g := gName 5) (xs := intsD m) (fun _ => D.int (bagV (bagC b 5) 3)) (fun _ => [(bagC (bagC b 5) 3).c]) (fun i => [some (.mut 0), some (.int ((m : Nat) : Int)), some (.int (bagV b 5)), some (.int (grt b)), some (.int (bagV (bagC b 5) 3)), some (.int ((i : Nat) : Int))]) (fun _ => false) rfl scRo.nd (ri_rangeN G.range (re_var 1) (by omega)) (blkOk_by (N := nRo) (sc := defScope (top 37)) (by decide +kernel)) (fun _ _ _ _ _ => pg_name (i := 5) scRo.nd rfl (Or.inl rfl)) (fun i d h => by
        obtain ⟨rfl, _⟩ := intsD_at h
        exact tg_name (by decide)) (fun i d h q s H C cl fp => re_var 4) (by rw [zl]; omega)
    · rw [if_neg h0, if_neg h0]
      refine rss_cons (c1 := [(bagC b 5).c]) (rs_if (kb := false) (rt_to (rt_cmp op_eq (re_var 2) re_int ov_eqI) (decide_eq_false h0)) (fun z => nomatch z) fun _ => rss_nil) ?_
      have ez : (List.range (intsD m).length).map (fun i => D.int (amV (bagV b 5) (grt b) (amI2 (bagV b 5) (grt b) (bagC b 5) i))) = iD ((List.range m).map fun i => amV (bagV b 5) (grt b) (amI2 (bagV b 5) (grt b) (bagC b 5) i)) := by
        rw [zl]
        show _ = List.map D.int _
        rw [List.map_map]
        rfl
      refine rss_ret (rs_ret (re_to (d := .lst ⟨false, true⟩ ((List.range (intsD m).length).map fun i => D.int (amV (bagV b 5) (grt b) (amI2 (bagV b 5) (grt b) (bagC b 5) i)))) ?_ (congrArg _ ez)))
      have lc := re_lcA (X := (cxOf CX0 P wd K mg base nRo "_law_row" (defScope (top 37)) f cdv A outer s H E).nox) (W := Wf) (p := p) (ρ := [some (.mut 0), some (.int ((m : Nat) : Int)), some (.int (bagV b 5)), some (.int (grt b)), none, none]) (c := [(bagC b 5).c]) (own := [("_law_k", 5)]) (g := gName 5) (xs := intsD m)
        (tg := match (defBody (top 37)).getD 3 (.Pass ⟨0, 0, 0, 0⟩) with | .Return (some (.ListComp _ [⟨t, _, _, _⟩] _ _)) _ => t | _ => .Name "" ⟨0, 0, 0, 0⟩) (iter := match (defBody (top 37)).getD 3 (.Pass ⟨0, 0, 0, 0⟩) with | .Return (some (.ListComp _ [⟨_, t, _, _⟩] _ _)) _ => t | _ => .Name "" ⟨0, 0, 0, 0⟩) (elt := match (defBody (top 37)).getD 3 (.Pass ⟨0, 0, 0, 0⟩) with | .Return (some (.ListComp t _ _ _)) _ => t | _ => .Name "" ⟨0, 0, 0, 0⟩) (scope := match (defBody (top 37)).getD 3 (.Pass ⟨0, 0, 0, 0⟩) with | .Return (some (.ListComp _ _ t _)) _ => t | _ => defScope (top 37)) (pos := match (defBody (top 37)).getD 3 (.Pass ⟨0, 0, 0, 0⟩) with | .Return (some (.ListComp _ _ _ t)) _ => t | _ => ⟨0, 0, 0, 0⟩)
        (fun i => D.int (amV (bagV b 5) (grt b) (amI2 (bagV b 5) (grt b) (bagC b 5) i))) (fun i => [(amI2 (bagV b 5) (grt b) (bagC b 5) i).c]) (fun i => [some (.mut 0), some (.int ((m : Nat) : Int)), some (.int (bagV b 5)), some (.int (grt b)), none, some (.int ((i : Nat) : Int))]) (fun _ => true) rfl scRo.nd (ri_rangeN G.range (re_var 1) (by omega)) (blkOk_by (N := nRo) (sc := defScope (top 37)) (by decide +kernel)) (fun _ _ _ _ _ => pg_name (i := 5) scRo.nd rfl (Or.inl rfl)) (fun i d h => by
        obtain ⟨rfl, _⟩ := intsD_at h
        exact tg_name (by decide)) (fun i d h q s H C cl fp => ?_) (by rw [zl]; omega)
      · rw [zl] at lc
        rw [zl]
        exact lc
      · show RE _ _ _ _ [(amI2 (bagV b 5) (grt b) (bagC b 5) i).c] _ (.val (.int (amV (bagV b 5) (grt b) (amI2 (bagV b 5) (grt b) (bagC b 5) i))) _ [(amC (bagV b 5) (grt b) (amI2 (bagV b 5) (grt b) (bagC b 5) i)).c])
        generalize amI2 (bagV b 5) (grt b) (bagC b 5) i = y
        have yv := bagV_in (b := y) gi.1
        have sm : ∀ j : Int, -(2 ^ 64) < bagV y (grt b) ∧ bagV y (grt b) < 2 ^ 64 := fun _ => by
          have e1 : (-(2 ^ 64) : Int) = -18446744073709551616 := by decide
          have e2 : (2 ^ 64 : Int) = 18446744073709551616 := by decide
          have e3 : (10 : Int) ^ 18 = 1000000000000000000 := by decide
          omega
        unfold amV amC
        by_cases h2 : bagV b 5 = 2
        · rw [if_neg (show ¬ bagV b 5 ≠ 2 from fun z => z h2)]
          have e : (if (bagV b 5 ≠ 2 ∨ bagV (bagC y (grt b)) 3 > 0) then (1 : Int) else 0) = if decide (bagV (bagC y (grt b)) 3 > 0) = true then 1 else 0 := by
            by_cases h3 : bagV (bagC y (grt b)) 3 > 0
            · rw [if_pos (.inr h3), decide_eq_true h3, if_pos rfl]
            · rw [if_neg (fun z => z.elim (fun z => z h2) h3), decide_eq_false h3, if_neg Bool.false_ne_true]
          rw [e]
          exact re_bin op_mul (re_c0 T hr (ra_cons (re_var 0) (ra_cons (re_var 3) ra_nil)) ⟨grt b, y, rfl, rfl, gi.1, gi.2.2, rfl⟩) (re_callT call_int1 G.int PyProof.Rows.boot_int (ra_cons (re_orF (re_cmp op_ne (re_var 2) re_int (ov_neIf h2)) (re_and1 (re_cmp op_gt (re_c0 T hr (ra_cons (re_var 0) (ra_cons re_int ra_nil)) ⟨3, bagC y (grt b), rfl, rfl, by decide, l3, rfl⟩) re_int ov_ib))) ra_nil) cv_intB) (ov_cii (.inl (sm 0)))
        · rw [if_pos h2]
          have e : (if (bagV b 5 ≠ 2 ∨ bagV (bagC y (grt b)) 3 > 0) then (1 : Int) else 0) = if true = true then 1 else 0 := by
            rw [if_pos (.inl h2), if_pos rfl]
          rw [e]
          exact re_bin op_mul (re_c0 T hr (ra_cons (re_var 0) (ra_cons (re_var 3) ra_nil)) ⟨grt b, y, rfl, rfl, gi.1, gi.2.2, rfl⟩) (re_callT call_int1 G.int PyProof.Rows.boot_int (ra_cons (re_orT (re_cmp op_ne (re_var 2) re_int (ov_neIt h2))) ra_nil) cv_intB) (ov_cii (.inl (sm 0)))
abbrev RowD (P : Program) (w : World) (K : PySem.W.Frag) (mg : Str → Option Value) (base : Heap) := Def0 P w K mg base 2 "_law_row" ["_law_bag_here", "_law_count"] roR
end
end K56

/-! what repr asks where ints are larger -/
namespace LA
open PySem PySem.Spec PyProof.Rows L2
structure Wd (w k : Nat) (d : D) : Prop where
  ok : okD false d = true
  sh : (toPy d).showable = true
  lay : (toPy d).canLay0 = true
  ish : PyData.intsShort 302 (toPy d) = true
  wt : (toPy d).weight ≤ w
  dp : (toPy d).depth ≤ k
  nd : (toPy d).hasDict = false
theorem Wd.up {w k w' k' : Nat} {d : D} (h : Wd w k d) (h1 : w ≤ w') (h2 : k ≤ k') : Wd w' k' d := ⟨h.ok, h.sh, h.lay, h.ish, Nat.le_trans h.wt h1, Nat.le_trans h.dp h2, h.nd⟩
theorem wd_non : Wd 300 0 .non := ⟨rfl, by unfold toPy; decide +kernel, by unfold toPy; decide +kernel, by unfold toPy; decide +kernel, by unfold toPy; decide +kernel, by unfold toPy; decide +kernel, by unfold toPy; decide +kernel⟩
theorem wd_bl (b : Bool) : Wd 300 0 (.bl b) := by
  cases b <;> exact ⟨rfl, by unfold toPy; decide +kernel, by unfold toPy; decide +kernel, by unfold toPy; decide +kernel, by unfold toPy; decide +kernel, by unfold toPy; decide +kernel, by unfold toPy; decide +kernel⟩
theorem wd_int {i : Int} (h : i.natAbs.log2 < 299) : Wd 300 0 (.int i) := by
  refine ⟨rfl, ?_, ?_, ?_, ?_, ?_, ?_⟩
  · unfold toPy PyData.showable
    exact decide_eq_true (by omega)
  · unfold toPy PyData.canLay0
    rfl
  · unfold toPy PyData.intsShort PyData.shown
    refine decide_eq_true ?_
    have := PySem.int_text_length_le (a := i) (k := 299) (by decide) h
    have e : (Str.ofString (toString i)).length = (toString i).length := PySem.ofString_length _
    omega
  · unfold toPy PyData.weight
    split <;> omega
  · unfold toPy PyData.depth
    exact Nat.le_refl _
  · unfold toPy PyData.hasDict
    rfl
theorem wd_str {s : Str} (h : PyData.strOk s = true) (hl : s.length ≤ 300) : Wd 300 0 (.str s) :=
  ⟨rfl, by unfold toPy PyData.showable; rfl, by unfold toPy PyData.canLay0; exact h, by unfold toPy PyData.intsShort; rfl, by unfold toPy PyData.weight; exact hl, by unfold toPy PyData.depth; exact Nat.le_refl _, by unfold toPy PyData.hasDict; rfl⟩
theorem wd_all {w k : Nat} : ∀ {ds : List D}, (∀ d ∈ ds, Wd w k d) → okDs false ds = true ∧ PyData.showableAll (toPys ds) = true ∧ PyData.canLayAll0 (toPys ds) = true ∧ PyData.intsShortAll 302 (toPys ds) = true ∧ PyData.weightAll (toPys ds) ≤ (w + 1) * ds.length ∧ PyData.depthAll (toPys ds) ≤ k ∧ PyData.hasDictAll (toPys ds) = false
  | [], _ => ⟨rfl, by unfold toPys; decide +kernel, by unfold toPys; decide +kernel, by unfold toPys; decide +kernel, by unfold toPys PyData.weightAll; omega, by unfold toPys PyData.depthAll; omega, by unfold toPys; decide +kernel⟩
  | d :: r, h => by
    obtain ⟨a1, a2, a3, a4, a5, a6, a7⟩ := h d List.mem_cons_self
    obtain ⟨b1, b2, b3, b4, b5, b6, b7⟩ := wd_all (ds := r) fun x m => h x (List.mem_cons_of_mem _ m)
    unfold okDs toPys PyData.showableAll PyData.canLayAll0 PyData.intsShortAll PyData.weightAll PyData.depthAll PyData.hasDictAll
    rw [a1, a2, a3, a4, a7, b1, b2, b3, b4, b7, List.length_cons]
    refine ⟨rfl, rfl, rfl, rfl, ?_, ?_, rfl⟩
    · rw [Nat.mul_add, Nat.mul_one]
      omega
    · omega
theorem Wd.lst {w k n : Nat} {g : G} {ds : List D} (h : ∀ d ∈ ds, Wd w k d) (hl : ds.length ≤ n) : Wd ((w + 1) * n + 10) (k + 1) (.lst g ds) := by
  obtain ⟨b1, b2, b3, b4, b5, b6, b7⟩ := wd_all h
  have hm : (w + 1) * ds.length ≤ (w + 1) * n := Nat.mul_le_mul_left _ hl
  refine ⟨?_, ?_, ?_, ?_, ?_, ?_, ?_⟩
  · unfold okD
    rw [b1]
    simp
  · unfold toPy PyData.showable
    exact b2
  · unfold toPy PyData.canLay0
    exact b3
  · unfold toPy PyData.intsShort
    exact b4
  · unfold toPy PyData.weight
    omega
  · unfold toPy PyData.depth
    omega
  · unfold toPy PyData.hasDict
    exact b7
theorem Wd.tup {w k n : Nat} {ds : List D} (h : ∀ d ∈ ds, Wd w k d) (hl : ds.length ≤ n) : Wd ((w + 1) * n + 10) (k + 1) (.tup ds) := by
  obtain ⟨b1, b2, b3, b4, b5, b6, b7⟩ := wd_all h
  have hm : (w + 1) * ds.length ≤ (w + 1) * n := Nat.mul_le_mul_left _ hl
  refine ⟨?_, ?_, ?_, ?_, ?_, ?_, ?_⟩
  · unfold okD
    exact b1
  · unfold toPy PyData.showable
    exact b2
  · unfold toPy PyData.canLay0
    exact b3
  · unfold toPy PyData.intsShort
    exact b4
  · unfold toPy PyData.weight
    omega
  · unfold toPy PyData.depth
    omega
  · unfold toPy PyData.hasDict
    exact b7
theorem Wd.shows {w k : Nat} {d : D} (h : Wd w k d) (hw : w ≤ 50000) (hk : k ≤ 60) : Shows d := by
  have h1 := h.wt
  have h2 := h.dp
  refine ⟨by rw [h.nd]; exact h.ok, h.sh, by omega, ?_⟩
  have h := PyData.shown_le 302 (by decide) (toPy d) (PyData.leavesShort_of_canLay0 302 (toPy d) h.lay h.ish)
  have e : sizeLine = 16777216 := by decide
  omega
theorem Wd.one {w k : Nat} {d : D} (h : Wd w k d) {s : Str} (hs : PyData.strOk s = true) (hs2 : s.length ≤ 300) (hw : 300 ≤ w) (hw2 : w ≤ 20000) (hk : k ≤ 50) : Shows (.lst ⟨true, true⟩ [.str s, d]) := by
  refine (Wd.lst (w := w) (k := k) (n := 2) (ds := [.str s, d]) (fun x m => ?_) (Nat.le_refl 2)).shows (by omega) (by omega)
  rcases List.mem_cons.mp m with rfl | m
  · exact (wd_str hs hs2).up hw (Nat.zero_le _)
  · rw [List.mem_singleton.mp m]
    exact h
/-- sums of what lies within bounds -/
theorem sum_in {M : Int} : ∀ {l : List Int}, (∀ x ∈ l, 0 ≤ x ∧ x ≤ M) → 0 ≤ l.sum ∧ l.sum ≤ (l.length : Int) * M
  | [], _ => ⟨Int.le_refl _, by simp⟩
  | a :: r, h => by
    obtain ⟨h1, h2⟩ := h a List.mem_cons_self
    obtain ⟨h3, h4⟩ := sum_in (l := r) fun x m => h x (List.mem_cons_of_mem _ m)
    rw [List.sum_cons, List.length_cons]
    refine ⟨by omega, ?_⟩
    have e : ((r.length + 1 : Nat) : Int) * M = (r.length : Int) * M + M := by
      rw [Int.natCast_add, Int.add_mul]
      simp
    omega
theorem log_of {i : Int} {n : Nat} (h0 : 0 ≤ i) (h : i < 2 ^ n) (hn : 0 < n) : i.natAbs.log2 < n := by
  refine log_lt (n := n) ?_ hn
  have : (i.natAbs : Int) = i := Int.natAbs_of_nonneg h0
  have e : ((2 ^ n : Nat) : Int) = 2 ^ n := by simp
  omega
end LA

namespace K56
open PySem PySem.Spec PyProof.Rows L2 LA
open K36 (ev dep)
/-! ### what is refused -/
def shB (d : D) : Bool := okD (toPy d).hasDict d && ((toPy d).showable && (decide ((toPy d).depth ≤ 60) && decide ((toPy d).shown.length ≤ sizeLine)))
theorem shB_of {d : D} (h : shB d = true) : Shows d := by
  unfold shB at h
  rw [Bool.and_eq_true_iff, Bool.and_eq_true_iff, Bool.and_eq_true_iff] at h
  exact ⟨h.1, h.2.1, of_decide_eq_true h.2.2.1, of_decide_eq_true h.2.2.2⟩
def cK : Nat → D
  | 0 => .int (-1)
  | 1 => .int 7
  | 2 => .non
  | 3 => .str "3"
  | 4 => .bl true
  | _ => .lst ⟨true, true⟩ [.int 2]
def wK (n : Nat) : Nat → D
  | 0 => .tup [.int ((n : Nat) : Int), .int 0, .int 1]
  | 1 => .int 2
  | 2 => .bl true
  | 3 => .non
  | 4 => .lst ⟨true, true⟩ [.int 0, .int 0, .int 1]
  | 5 => .tup [.int 0, .int 0]
  | 6 => .tup [.int 0, .int 0, .int 1, .int 1]
  | 7 => .tup [.str "0", .int 0, .int 1]
  | 8 => .tup [.int (-1), .int 0, .int 1]
  | _ => .tup [.int ((n : Nat) : Int), .int 1, .int 1]
def fiveL (n : Nat) : List Nat := [49, 49, 49, 49, 49].take n ++ [49]
def bK (n : Nat) (ps : List Int) : Nat → D
  | 0 => .lst ⟨false, true⟩ (iD ps ++ [.int 1])
  | 1 => .lst ⟨false, true⟩ (List.replicate (n + 1) [D.int (-1)]).flatten
  | 2 => .int 7
  | 3 => .str (tx (fiveL n))
  | 4 => .dct []
  | 5 => .lst ⟨false, true⟩ (List.replicate (n + 1) [D.non]).flatten
  | _ => .lst ⟨false, true⟩ ([.bl true] ++ iD ps)
def oK (x : Int) (r : List Int) : Nat → D
  | 0 => .lst ⟨false, true⟩ (iD r)
  | 1 => .lst ⟨false, true⟩ (iD (x :: r) ++ [.int 0])
  | 2 => .lst ⟨false, true⟩ ([.int (-1)] ++ iD r)
  | 3 => .int 5
  | 4 => .dct []
  | 5 => .lst ⟨false, true⟩ ([.bl true] ++ iD r)
  | _ => .lst ⟨false, true⟩ ([.str "1"] ++ iD r)
theorem cK_ok : ∀ j, j < 6 → Ty (cK j) ∧ posD (cK j) 7 = false ∧ Shows (two2 "count" (cK j)) := by
  intro j hj
  match j, hj with
  | 0, _ => exact ⟨⟨_, rfl⟩, rfl, shB_of (by decide +kernel)⟩
  | 1, _ => exact ⟨⟨_, rfl⟩, rfl, shB_of (by decide +kernel)⟩
  | 2, _ => exact ⟨⟨_, rfl⟩, rfl, shB_of (by decide +kernel)⟩
  | 3, _ => exact ⟨⟨_, rfl⟩, rfl, shB_of (by decide +kernel)⟩
  | 4, _ => exact ⟨⟨_, rfl⟩, rfl, shB_of (by decide +kernel)⟩
  | 5, _ => exact ⟨⟨_, rfl⟩, rfl, shB_of (by decide +kernel)⟩
theorem wK_sh : ∀ n, n < 5 → ∀ j, j < 10 → shB (two2 "tree" (wK n j)) = true := by
  have key : ∀ (n : Fin 5) (j : Fin 10), shB (two2 "tree" (wK n.val j.val)) = true := by decide +kernel
  exact fun n hn j hj => key ⟨n, hn⟩ ⟨j, hj⟩
theorem wK_ok {n : Nat} (hn : n < 5) : ∀ j, j < 10 → Deep 40 (wK n j) ∧ isT 40 ((n : Nat) : Int) (wK n j) = false ∧ Shows (two2 "tree" (wK n j)) := by
  intro j hj
  refine ⟨?_, ?_, shB_of (wK_sh n hn j hj)⟩
  · match j, hj with
    | 0, _ =>
      intro x hx
      simp only [List.mem_cons, List.not_mem_nil, or_false] at hx
      rcases hx with rfl | rfl | rfl <;> exact ⟨_, rfl⟩
    | 1, _ => exact ⟨_, rfl⟩
    | 2, _ => exact ⟨_, rfl⟩
    | 3, _ => exact ⟨_, rfl⟩
    | 4, _ => exact ⟨_, rfl⟩
    | 5, _ =>
      intro x hx
      simp only [List.mem_cons, List.not_mem_nil, or_false] at hx
      rcases hx with rfl | rfl <;> exact ⟨_, rfl⟩
    | 6, _ =>
      intro x hx
      simp only [List.mem_cons, List.not_mem_nil, or_false] at hx
      rcases hx with rfl | rfl | rfl | rfl <;> exact ⟨_, rfl⟩
    | 7, _ =>
      intro x hx
      simp only [List.mem_cons, List.not_mem_nil, or_false] at hx
      rcases hx with rfl | rfl | rfl <;> exact ⟨_, rfl⟩
    | 8, _ =>
      intro x hx
      simp only [List.mem_cons, List.not_mem_nil, or_false] at hx
      rcases hx with rfl | rfl | rfl <;> exact ⟨_, rfl⟩
    | 9, _ =>
      intro x hx
      simp only [List.mem_cons, List.not_mem_nil, or_false] at hx
      rcases hx with rfl | rfl | rfl <;> exact ⟨_, rfl⟩
  · have key : ∀ (n : Fin 5) (j : Fin 10), isT 40 ((n.val : Nat) : Int) (wK n.val j.val) = false := by decide +kernel
    exact key ⟨n, hn⟩ ⟨j, hj⟩
theorem am_none {n : Int} {d : D} (h : itemsOf d = none) : amB n d = false := by
  unfold amB
  rw [h]
theorem am_len {n : Int} {g : G} {xs : List D} (h : (xs.length : Int) ≠ n) : amB n (.lst g xs) = false := by
  unfold amB
  show (decide ((xs.length : Int) = n) && xs.all amI) = false
  rw [decide_eq_false h, Bool.false_and]
theorem am_bad {n : Int} {g : G} {a : D} {xs : List D} (h : amI a = false) : amB n (.lst g ([a] ++ xs)) = false := by
  unfold amB
  show (decide ((([a] ++ xs).length : Int) = n) && ([a] ++ xs).all amI) = false
  rw [List.all_append, List.all_cons, h, Bool.false_and, Bool.false_and, Bool.and_false]
theorem prc_no {n : Nat} {d : D} (h1 : isNon d = false) (h2 : amB ((n : Nat) : Int) d = false) : prc n d = none := by
  unfold prc
  rw [h1, h2]
  rfl
theorem ty_iD : ∀ {ps : List Int} {x : D}, x ∈ iD ps → Ty x := fun {ps x} h => by
  obtain ⟨i, _, rfl⟩ := List.mem_map.mp h
  exact ⟨_, rfl⟩
theorem fit_lst {g : G} {xs : List D} (hl : xs.length ≤ 1000) (ht : ∀ x ∈ xs, Ty x) : AmFit (.lst g xs) := ⟨⟨_, rfl⟩, fun ys h => by
  cases h
  exact ⟨hl, ht⟩⟩
theorem fit_no {d : D} (h : Ty d) (hi : itemsOf d = none) : AmFit d := ⟨h, fun xs e => by rw [hi] at e; cases e⟩
theorem rep_len {d : D} (n : Nat) : (List.replicate n [d]).flatten.length = n := by simp
theorem rep_mem {d x : D} {n : Nat} (h : x ∈ (List.replicate n [d]).flatten) : x = d := by
  obtain ⟨l, hl, hx⟩ := List.mem_flatten.mp h
  rw [List.eq_of_mem_replicate hl] at hx
  exact List.mem_singleton.mp hx
theorem wd_ints {ps : List Int} (h : ∀ x ∈ ps, 0 ≤ x ∧ x < 10 ^ 18) : ∀ d ∈ iD ps, Wd 300 0 d := fun d hd => by
  obtain ⟨i, hi, rfl⟩ := List.mem_map.mp hd
  have := h i hi
  exact wd_int (Nat.lt_of_lt_of_le (log_of (n := 64) this.1 (by
    have e1 : (10 : Int) ^ 18 = 1000000000000000000 := by decide
    have e2 : (2 : Int) ^ 64 = 18446744073709551616 := by decide
    omega) (by decide)) (by decide))
theorem bK_ok {n : Nat} {ps : List Int} (hn : n < 5) (hl : ps.length = n) (hp : ∀ x ∈ ps, 0 ≤ x ∧ x < 10 ^ 18) : ∀ j, j < 7 → AmFit (bK n ps j) ∧ prc n (bK n ps j) = none ∧ Shows (two2 "prices" (bK n ps j)) := by
  have il : (iD ps).length = n := by rw [List.length_map, hl]
  have sP : PyData.strOk (Str.ofString "prices") = true := by decide +kernel
  have s1 : ∀ (g : G) (xs : List D), (∀ d ∈ xs, Wd 300 0 d) → xs.length ≤ 6 → Shows (two2 "prices" (.lst g xs)) := fun g xs h hx => Wd.one (Wd.lst (n := 6) h hx) sP (by decide) (by decide) (by decide) (by decide)
  intro j hj
  match j, hj with
  | 0, _ =>
    have hlen : (iD ps ++ [D.int 1]).length = n + 1 := by rw [List.length_append, il]; rfl
    refine ⟨fit_lst (by omega) fun x hx => ?_, prc_no rfl (am_len (by rw [hlen]; omega)), s1 _ _ (fun d hd => ?_) (by omega)⟩
    · rcases List.mem_append.mp hx with hx | hx
      · exact ty_iD hx
      · rw [List.mem_singleton.mp hx]
        exact ⟨_, rfl⟩
    · rcases List.mem_append.mp hd with hd | hd
      · exact wd_ints hp d hd
      · rw [List.mem_singleton.mp hd]
        exact wd_int (by decide)
  | 1, _ =>
    have hlen := rep_len (d := D.int (-1)) (n + 1)
    refine ⟨fit_lst (by omega) fun x hx => ?_, prc_no rfl (am_len (by rw [hlen]; omega)), s1 _ _ (fun d hd => ?_) (by omega)⟩
    · rw [rep_mem hx]
      exact ⟨_, rfl⟩
    · rw [rep_mem hd]
      exact wd_int (by decide)
  | 2, _ => exact ⟨fit_no ⟨_, rfl⟩ rfl, prc_no rfl (am_none rfl), shB_of (by show shB (two2 "prices" (.int 7)) = true; decide +kernel)⟩
  | 3, _ =>
    refine ⟨fit_no ⟨_, rfl⟩ rfl, prc_no rfl (am_none rfl), shB_of ?_⟩
    have key : ∀ n : Fin 5, shB (two2 "prices" (.str (tx (fiveL n.val)))) = true := by decide +kernel
    exact key ⟨n, hn⟩
  | 4, _ => exact ⟨fit_no ⟨_, rfl⟩ rfl, prc_no rfl (am_none rfl), shB_of (by show shB (two2 "prices" (.dct [])) = true; decide +kernel)⟩
  | 5, _ =>
    have hlen := rep_len (d := D.non) (n + 1)
    refine ⟨fit_lst (by omega) fun x hx => ?_, prc_no rfl (am_len (by rw [hlen]; omega)), s1 _ _ (fun d hd => ?_) (by omega)⟩
    · rw [rep_mem hx]
      exact ⟨_, rfl⟩
    · rw [rep_mem hd]
      exact wd_non
  | 6, _ =>
    have hlen : ([D.bl true] ++ iD ps).length = n + 1 := by rw [List.length_append, il]; exact Nat.add_comm 1 n
    refine ⟨fit_lst (by omega) fun x hx => ?_, prc_no rfl (am_bad rfl), s1 _ _ (fun d hd => ?_) (by omega)⟩
    · rcases List.mem_append.mp hx with hx | hx
      · rw [List.mem_singleton.mp hx]
        exact ⟨_, rfl⟩
      · exact ty_iD hx
    · rcases List.mem_append.mp hd with hd | hd
      · rw [List.mem_singleton.mp hd]
        exact wd_bl true
      · exact wd_ints hp d hd
theorem oK_ok {m : Nat} {x : Int} {r : List Int} (hm : m ≤ 16) (hl : (x :: r).length = m) (hp : ∀ y ∈ x :: r, 0 ≤ y ∧ y < 10 ^ 18) : ∀ j, j < 7 → AmFit (oK x r j) ∧ prc m (oK x r j) = none ∧ Shows (two2 "chances" (oK x r j)) := by
  have il : (iD r).length = m - 1 := by rw [List.length_map]; rw [List.length_cons] at hl; omega
  have il2 : (iD (x :: r)).length = m := by rw [List.length_map, hl]
  have m0 : 0 < m := by rw [List.length_cons] at hl; omega
  have hr : ∀ y ∈ r, 0 ≤ y ∧ y < 10 ^ 18 := fun y hy => hp y (List.mem_cons_of_mem _ hy)
  have sP : PyData.strOk (Str.ofString "chances") = true := by decide +kernel
  have s1 : ∀ (g : G) (xs : List D), (∀ d ∈ xs, Wd 300 0 d) → xs.length ≤ 17 → Shows (two2 "chances" (.lst g xs)) := fun g xs h hx => Wd.one (Wd.lst (n := 17) h hx) sP (by decide) (by decide) (by decide) (by decide)
  have pre : ∀ (a : D), Ty a → Wd 300 0 a → amI a = false → AmFit (.lst ⟨false, true⟩ ([a] ++ iD r)) ∧ prc m (.lst ⟨false, true⟩ ([a] ++ iD r)) = none ∧ Shows (two2 "chances" (.lst ⟨false, true⟩ ([a] ++ iD r))) := fun a ta wa ha => by
    have hlen : ([a] ++ iD r).length = m := by rw [List.length_append, il]; show 1 + (m - 1) = m; omega
    refine ⟨fit_lst (by omega) fun x hx => ?_, prc_no rfl (am_bad ha), s1 _ _ (fun d hd => ?_) (by omega)⟩
    · rcases List.mem_append.mp hx with hx | hx
      · rw [List.mem_singleton.mp hx]
        exact ta
      · exact ty_iD hx
    · rcases List.mem_append.mp hd with hd | hd
      · rw [List.mem_singleton.mp hd]
        exact wa
      · exact wd_ints hr d hd
  intro j hj
  match j, hj with
  | 0, _ => exact ⟨fit_lst (by omega) fun x hx => ty_iD hx, prc_no rfl (am_len (by rw [il]; omega)), s1 _ _ (wd_ints hr) (by omega)⟩
  | 1, _ =>
    have hlen : (iD (x :: r) ++ [D.int 0]).length = m + 1 := by rw [List.length_append, il2]; rfl
    refine ⟨fit_lst (by omega) fun x hx => ?_, prc_no rfl (am_len (by rw [hlen]; omega)), s1 _ _ (fun d hd => ?_) (by omega)⟩
    · rcases List.mem_append.mp hx with hx | hx
      · exact ty_iD hx
      · rw [List.mem_singleton.mp hx]
        exact ⟨_, rfl⟩
    · rcases List.mem_append.mp hd with hd | hd
      · exact wd_ints hp d hd
      · rw [List.mem_singleton.mp hd]
        exact wd_int (by decide)
  | 2, _ => exact pre _ ⟨_, rfl⟩ (wd_int (by decide)) rfl
  | 3, _ => exact ⟨fit_no ⟨_, rfl⟩ rfl, prc_no rfl (am_none rfl), shB_of (by show shB (two2 "chances" (.int 5)) = true; decide +kernel)⟩
  | 4, _ => exact ⟨fit_no ⟨_, rfl⟩ rfl, prc_no rfl (am_none rfl), shB_of (by show shB (two2 "chances" (.dct [])) = true; decide +kernel)⟩
  | 5, _ => exact pre _ ⟨_, rfl⟩ (wd_bl true) rfl
  | 6, _ => exact pre _ ⟨_, rfl⟩ (wd_str (by decide +kernel) (by decide)) rfl
end K56

namespace K56
open PySem PySem.Spec PyProof.Rows L2 LA
open K36 (ev dep)
section
variable {P : Program} {wd : World} {K : PySem.W.Frag} {mg : Str → Option Value} {base : Heap} {BI BT Cn BP BC : Addr} {c : PC}
theorem td_cnt {t d r a : D} {k : Int} (hk : k = 0 ∨ k = 1) (td : Ty d) (hp : posD d 7 = false) : tdR Cn BT BP BC [t, d, r, a, .int k] c (.val (two2 "count" d) false c) := by
  refine ⟨t, d, r, a, .cnt d, k, rfl, ?_, rfl⟩
  rcases hk with rfl | rfl
  · exact .inl ⟨rfl, .inl ⟨t, d, r, rfl, td, hp, rfl⟩⟩
  · exact .inr ⟨rfl, .inl ⟨t, d, r, a, rfl, td, hp, rfl⟩⟩
theorem td_tree {t r a : D} {n : Nat} {k : Int} (hk : k = 0 ∨ k = 1) (hn : n ≤ 6) (hd : Deep 40 t) (ht : isT 40 ((n : Nat) : Int) t = false) : tdR Cn BT BP BC [t, .int ((n : Nat) : Int), r, a, .int k] c (.val (two2 "tree" t) false c) := by
  refine ⟨t, _, r, a, .tree t, k, rfl, ?_, rfl⟩
  rcases hk with rfl | rfl
  · exact .inl ⟨rfl, .inr (.inl ⟨t, n, r, rfl, hn, hd, ht, rfl⟩)⟩
  · exact .inr ⟨rfl, .inr (.inl ⟨t, n, r, a, rfl, hn, hd, ht, rfl⟩)⟩
theorem td_prc {t : Tr} {r a : D} {n : Nat} {k : Int} (hk : k = 0 ∨ k = 1) (hn : n ≤ 6) (ho : okT ((n : Nat) : Int) t = true) (hm : nodes t ≤ 40) (fr : AmFit r) (e : prc n r = none) : tdR Cn BT BP BC [trD t, .int ((n : Nat) : Int), r, a, .int k] c (.val (two2 "prices" r) false c) := by
  refine ⟨_, _, r, a, .prc r, k, rfl, ?_, rfl⟩
  rcases hk with rfl | rfl
  · exact .inl ⟨rfl, .inr (.inr ⟨t, n, r, rfl, hn, ho, hm, fr, .inl ⟨e, rfl⟩⟩)⟩
  · exact .inr ⟨rfl, .inr (.inr ⟨t, n, r, a, rfl, hn, ho, hm, fr, .inl ⟨e, rfl⟩⟩)⟩
theorem td_chn {t : Tr} {r a : D} {n : Nat} {ps : List Int} (hn : n ≤ 6) (ho : okT ((n : Nat) : Int) t = true) (hm : nodes t ≤ 40) (fr : AmFit r) (e : prc n r = some ps) (fa : AmFit a) (e2 : prc (2 ^ n) a = none) : tdR Cn BT BP BC [trD t, .int ((n : Nat) : Int), r, a, .int 1] c (.val (two2 "chances" a) false c) :=
  ⟨_, _, r, a, .chn a, 1, rfl, .inr ⟨rfl, .inr (.inr ⟨t, n, r, a, rfl, hn, ho, hm, fr, .inr ⟨ps, e, fa, .inl ⟨e2, rfl⟩⟩⟩)⟩, rfl⟩
theorem td_ok0 {t : Tr} {r a : D} {n : Nat} {ps : List Int} (hn : n ≤ 6) (ho : okT ((n : Nat) : Int) t = true) (hm : nodes t ≤ 40) (fr : AmFit r) (e : prc n r = some ps) : tdR Cn BT BP BC [trD t, .int ((n : Nat) : Int), r, a, .int 0] c (.val (.int (mxL (csts n ps t))) false c) :=
  ⟨_, _, r, a, .ok _, 0, rfl, .inl ⟨rfl, .inr (.inr ⟨t, n, r, rfl, hn, ho, hm, fr, .inr ⟨ps, e, rfl⟩⟩)⟩, rfl⟩
theorem td_ok1 {t : Tr} {r a : D} {n : Nat} {ps ws : List Int} (hn : n ≤ 6) (ho : okT ((n : Nat) : Int) t = true) (hm : nodes t ≤ 40) (fr : AmFit r) (e : prc n r = some ps) (fa : AmFit a) (e2 : prc (2 ^ n) a = some ws) (hb : ∀ x ∈ ws, -(2 ^ 64) < x ∧ x < 2 ^ 64) : tdR Cn BT BP BC [trD t, .int ((n : Nat) : Int), r, a, .int 1] c (.val (.int (dotI (csts n ps t) ws)) false c) :=
  ⟨_, _, r, a, .ok _, 1, rfl, .inr ⟨rfl, .inr (.inr ⟨t, n, r, a, rfl, hn, ho, hm, fr, .inr ⟨ps, e, fa, .inr ⟨ws, e2, hb, rfl⟩⟩⟩)⟩, rfl⟩
theorem am_ok {g : G} {ps : List Int} (h : ∀ x ∈ ps, 0 ≤ x) : amB (ps.length : Nat) (.lst g (iD ps)) = true ∧ amB (ps.length : Nat) (.tup (iD ps)) = true := by
  have al : (iD ps).all amI = true := List.all_eq_true.mpr fun d hd => by
    obtain ⟨i, hi, rfl⟩ := List.mem_map.mp hd
    exact decide_eq_true (h i hi)
  have hl : ((iD ps).length : Int) = (ps.length : Nat) := by rw [List.length_map]
  constructor
  · show (decide (((iD ps).length : Int) = (ps.length : Nat)) && (iD ps).all amI) = true
    rw [decide_eq_true hl, al]
    rfl
  · show (decide (((iD ps).length : Int) = (ps.length : Nat)) && (iD ps).all amI) = true
    rw [decide_eq_true hl, al]
    rfl
theorem ints_iD (ps : List Int) : (iD ps).map intOf = ps := by
  show (ps.map D.int).map intOf = ps
  rw [List.map_map]
  exact List.map_id ps
theorem prc_lst {g : G} {n : Nat} {ps : List Int} (hl : ps.length = n) (h : ∀ x ∈ ps, 0 ≤ x) : prc n (.lst g (iD ps)) = some ps := by
  subst hl
  unfold prc
  rw [(am_ok (g := g) h).1]
  show some ((iD ps).map intOf) = _
  rw [ints_iD]
theorem prc_tup {n : Nat} {ps : List Int} (hl : ps.length = n) (h : ∀ x ∈ ps, 0 ≤ x) : prc n (.tup (iD ps)) = some ps := by
  subst hl
  unfold prc
  rw [(am_ok (g := ⟨false, true⟩) h).2]
  show some ((iD ps).map intOf) = _
  rw [ints_iD]
theorem fit_iD {g : G} {ps : List Int} (hl : ps.length ≤ 1000) : AmFit (.lst g (iD ps)) := fit_lst (by rw [List.length_map]; exact hl) fun x hx => ty_iD hx
theorem fit_tD {ps : List Int} (hl : ps.length ≤ 1000) : AmFit (.tup (iD ps)) := ⟨⟨_, rfl⟩, fun ys h => by
  cases h
  exact ⟨by rw [List.length_map]; exact hl, fun x hx => ty_iD hx⟩⟩
theorem fit_non : AmFit .non := fit_no ⟨_, rfl⟩ rfl
/-! ### the law's look at what is refused -/
def refB (b : Bg) : Bg := bagC (bagC (bagC (bagC b 6) 10) 7) 7
def rfR : FSpec := fun ds c o => ∃ (b : Bg) (t : Tr) (n : Nat) (ps : List Int) (x : Int) (r : List Int), ds = [.mut 0, trD t, .int ((n : Nat) : Int), .lst ⟨false, true⟩ (iD ps), .lst ⟨false, true⟩ (iD (x :: r))] ∧ c = [b.c] ∧ n < 5 ∧ okT ((n : Nat) : Int) t = true ∧ nodes t ≤ 40 ∧ ps.length = n ∧ (∀ y ∈ ps, 0 ≤ y ∧ y < 10 ^ 18) ∧ (x :: r).length = 2 ^ n ∧ (∀ y ∈ x :: r, 0 ≤ y ∧ y < 10 ^ 18) ∧ o = .val (.bl true) true [(refB b).c]
abbrev nRf : List Str := ["_law_bag_here", "_law_tree", "_law_many", "_law_row_here", "_law_amounts", "_law_count", "_law_menu", "_law_wrong", "_law_bad", "_law_odd", "_law_which"]
theorem scRf : FnScope nRf ["_law_bag_here", "_law_tree", "_law_many", "_law_row_here", "_law_amounts"] (defScope (top 41)) := ⟨rfl, rfl, rfl, by decide +kernel, rfl, by decide +kernel, by decide +kernel⟩
abbrev rth (i : Nat) : Stmt := (defBody (top 41)).getD i (.Pass ⟨0, 0, 0, 0⟩)
abbrev cxRf (P : Program) (w : World) (K : PySem.W.Frag) (mg : Str → Option Value) (base : Heap) (f : Addr) (cdv : Value) (A : Around) (outer : List Env) (s : Shared) (H : Hp) : Cx := (cxOf CX0 P w K mg base nRf "_law_refused" (defScope (top 41)) f cdv A outer s H E0).nox
theorem ok_rf {f : Addr} {fd : FuncData} (G : Glb mg) (TP : PickD P wd K mg base) (TD : ToldD P wd K mg base Cn BT BP BC) (F : Fun K "_law_refused" "_law_refused" (top 41) f fd) : FnG P wd K mg base 51 f fd ["_law_bag_here", "_law_tree", "_law_many", "_law_row_here", "_law_amounts"] (spF K rfR) := by
  refine fn_g F scRf (fun ds c o h => ?_) (fun ds c o h => ?_) (fun cdv A outer s H gu hr p ds c o h => ?_)
  · obtain ⟨b, t, n, ps, x, r, rfl, _⟩ := h
    rfl
  · obtain ⟨b, t, n, ps, x, r, _, _, _, _, _, _, _, _, _, rfl⟩ := h
    exact ⟨_, _, _, rfl⟩
  · obtain ⟨b, t, n, ps, x, r, rfl, rfl, hn, ho, hm, hl, hp, hwl, hw, rfl⟩ := h
    have hu : (A.deeper (envOfC "_law_refused" (defScope (top 41)) s.heap.objs.size f cdv)).units + 70 < cLine := by have := hr.un; omega
    have gu2 : (cxRf P wd K mg base f cdv A outer s H).A.guards = some [] := gu
    have nn : ∀ z : Str, (!decide (z = z)) = false := fun z => by rw [decide_eq_true rfl]; rfl
    have n6 : n ≤ 6 := by omega
    have m16 : 2 ^ n ≤ 16 := by
      calc 2 ^ n ≤ 2 ^ 4 := Nat.pow_le_pow_right (by decide) (by omega)
        _ = 16 := by decide
    let b1 := bagC b 6
    let b2 := bagC b1 10
    let b3 := bagC b2 7
    have j0 : (bagV b 6).toNat < 6 := by have := bagV_in (b := b) (show (0 : Int) < 6 by decide); omega
    have j1 : (bagV b1 10).toNat < 10 := by have := bagV_in (b := b1) (show (0 : Int) < 10 by decide); omega
    have j2 : (bagV b2 7).toNat < 7 := by have := bagV_in (b := b2) (show (0 : Int) < 7 by decide); omega
    have j3 : (bagV b3 7).toNat < 7 := by have := bagV_in (b := b3) (show (0 : Int) < 7 by decide); omega
    obtain ⟨c1, c2, c3⟩ := cK_ok _ j0
    obtain ⟨w1, w2, w3⟩ := wK_ok hn _ j1
    obtain ⟨p1, p2, p3⟩ := bK_ok hn hl hp _ j2
    obtain ⟨o1, o2, o3⟩ := oK_ok m16 hwl hw _ j3
    let cD := cK (bagV b 6).toNat
    let wD' := wK n (bagV b1 10).toNat
    let bD := bK n ps (bagV b2 7).toNat
    let oD := oK x r (bagV b3 7).toNat
    let fr : Option D → Option D → Option D → Option D → Option D → Option D → Rho := fun ct me wr bd od wh => [some (.mut 0), some (trD t), some (.int ((n : Nat) : Int)), some (.lst ⟨false, true⟩ (iD ps)), some (.lst ⟨false, true⟩ (iD (x :: r))), ct, me, wr, bd, od, wh]
    refine .inl (rss_cons (c1 := [b1.c]) (ρ1 := fr (some cD) none none none none none) (rs_set (nw := false) 5 scRf.nd (re_to (re_c0 TP (hr.mono (by decide)) (ra_cons (re_var 0) (ra_cons (re_lst (ds := [cK 0, cK 1, cK 2, cK 3, cK 4, cK 5]) (ra_cons (re_neg re_int) (ra_cons re_int (ra_cons re_non (ra_cons re_str (ra_cons re_bl (ra_cons (re_lst (ra_cons re_int ra_nil) (by show 1 ≤ 100000; decide)) ra_nil)))))) (by show 6 ≤ 100000; decide)) ra_nil)) ⟨b, _, _, rfl, rfl, by show 0 < 6; decide, by show 6 ≤ 100; decide, rfl⟩) ?_)) ?_)
    · show ([cK 0, cK 1, cK 2, cK 3, cK 4, cK 5] : List D).getD (bagV b 6).toNat .non = cK (bagV b 6).toNat
      generalize (bagV b 6).toNat = j at j0
      match j, j0 with
      | 0, _ => rfl
      | 1, _ => rfl
      | 2, _ => rfl
      | 3, _ => rfl
      | 4, _ => rfl
      | 5, _ => rfl
    refine rss_cons (c1 := [b1.c]) (ρ1 := fr (some cD) (some (.lst ⟨true, true⟩ [wK n 0, wK n 1, wK n 2, wK n 3, wK n 4])) none none none none) (rs_set (nw := true) 6 scRf.nd (re_lst (ra_cons (re_tup (ra_cons (re_var 2) (ra_cons re_int (ra_cons re_int ra_nil))) (by show 3 ≤ 100000; decide)) (ra_cons re_int (ra_cons re_bl (ra_cons re_non (ra_cons (re_lst (ra_cons re_int (ra_cons re_int (ra_cons re_int ra_nil))) (by show 3 ≤ 100000; decide)) ra_nil))))) (by show 5 ≤ 100000; decide))) ?_
    refine rss_cons (c1 := [b2.c]) (ρ1 := fr (some cD) (some (.lst ⟨true, true⟩ [wK n 0, wK n 1, wK n 2, wK n 3, wK n 4])) (some wD') none none none) (rs_set (nw := false) 7 scRf.nd (re_to (re_c0 TP (hr.mono (by decide)) (ra_cons (re_var 0) (ra_cons (nw := true) (d := .lst ⟨false, true⟩ ([wK n 0, wK n 1, wK n 2, wK n 3, wK n 4] ++ [wK n 5, wK n 6, wK n 7, wK n 8, wK n 9])) (re_bin (n2 := true) op_cat (re_var 6) (re_lst (ds := [wK n 5, wK n 6, wK n 7, wK n 8, wK n 9]) (ra_cons (re_tup (ra_cons re_int (ra_cons re_int ra_nil)) (by show 2 ≤ 100000; decide)) (ra_cons (re_tup (ra_cons re_int (ra_cons re_int (ra_cons re_int (ra_cons re_int ra_nil)))) (by show 4 ≤ 100000; decide)) (ra_cons (re_tup (ra_cons re_str (ra_cons re_int (ra_cons re_int ra_nil))) (by show 3 ≤ 100000; decide)) (ra_cons (re_tup (ra_cons (re_neg re_int) (ra_cons re_int (ra_cons re_int ra_nil))) (by show 3 ≤ 100000; decide)) (ra_cons (re_tup (ra_cons (re_var 2) (ra_cons re_int (ra_cons re_int ra_nil))) (by show 3 ≤ 100000; decide)) ra_nil))))) (by show 5 ≤ 100000; decide)) (ov_cat rfl rfl (by show 5 + 5 ≤ 100000; decide))) ra_nil)) ⟨b1, _, _, rfl, rfl, by show 0 < 10; decide, by show 10 ≤ 100; decide, rfl⟩) ?_)) ?_
    · show ([wK n 0, wK n 1, wK n 2, wK n 3, wK n 4, wK n 5, wK n 6, wK n 7, wK n 8, wK n 9] : List D).getD (bagV b1 10).toNat .non = wK n (bagV b1 10).toNat
      generalize (bagV b1 10).toNat = j at j1
      match j, j1 with
      | 0, _ => rfl
      | 1, _ => rfl
      | 2, _ => rfl
      | 3, _ => rfl
      | 4, _ => rfl
      | 5, _ => rfl
      | 6, _ => rfl
      | 7, _ => rfl
      | 8, _ => rfl
      | 9, _ => rfl
    have rn : ∀ (d : D) (q : HD) (c : PC), OV K q L2.rRep (.lst ⟨true, true⟩ [d]) (.int (((n : Nat) : Int) + 1)) (.lst ⟨false, true⟩ (List.replicate (n + 1) [d]).flatten) true c := fun d q c => by
      have z := ov_rep (K := K) (p := q) (c := c) (g1 := ⟨true, true⟩) (xs := [d]) (n := ((n : Nat) : Int) + 1) rfl (by omega) (by omega) (by show 1 * _ ≤ _; omega)
      rw [show (((n : Nat) : Int) + 1).toNat = n + 1 by omega] at z
      exact z
    have zt : (tx [49, 49, 49, 49, 49]).length ≤ sizeLine := sz_le (by decide)
    refine rss_cons (c1 := [b2.c]) (ρ1 := fr (some cD) (some (.lst ⟨true, true⟩ [bK n ps 0, bK n ps 1, bK n ps 2, bK n ps 3])) (some wD') none none none) (rs_set (nw := true) 6 scRf.nd (re_lst (ra_cons (nw := true) (re_bin (n2 := true) op_cat (re_var 3) (re_lst (ra_cons re_int ra_nil) (by show 1 ≤ 100000; decide)) (ov_cat rfl rfl (by rw [List.length_map, hl]; show n + 1 ≤ 100000; omega))) (ra_cons (re_bin op_rep (re_lst (ra_cons (re_neg re_int) ra_nil) (by show 1 ≤ 100000; decide)) (re_bin op_add (re_var 2) re_int ov_ii) (rn _ _ _)) (ra_cons re_int (ra_cons (nw := true) (re_to (re_bin op_add_str (n1 := true) (re_to (d := .str (cutS (tx [49, 49, 49, 49, 49]) none (some ((n : Nat) : Int)))) (d' := .str (tx ([49, 49, 49, 49, 49].take n))) (re_slS re_str rp_none (rp_some (W := Wf) (re_var 2)) zt) (congrArg D.str (cut_lo (by show n ≤ 5; omega)))) re_str (ov_addS ?_)) ?_) ra_nil)))) (by show 4 ≤ 100000; decide))) ?_
    · rw [tx_len, List.length_take]
      exact sz_le (by show min n 5 + 1 ≤ _; omega)
    · show D.str (tx ([49, 49, 49, 49, 49].take n) ++ tx [49]) = D.str (tx (fiveL n))
      rw [tx_app]
      rfl
    refine rss_cons (c1 := [b3.c]) (ρ1 := fr (some cD) (some (.lst ⟨true, true⟩ [bK n ps 0, bK n ps 1, bK n ps 2, bK n ps 3])) (some wD') (some bD) none none) (rs_set (nw := false) 8 scRf.nd (re_to (re_c0 TP (hr.mono (by decide)) (ra_cons (re_var 0) (ra_cons (nw := true) (d := .lst ⟨false, true⟩ ([bK n ps 0, bK n ps 1, bK n ps 2, bK n ps 3] ++ [bK n ps 4, bK n ps 5, bK n ps 6])) (re_bin (n2 := true) op_cat (re_var 6) (re_lst (ds := [bK n ps 4, bK n ps 5, bK n ps 6]) (ra_cons re_dct0 (ra_cons (re_bin op_rep (re_lst (ra_cons re_non ra_nil) (by show 1 ≤ 100000; decide)) (re_bin op_add (re_var 2) re_int ov_ii) (rn _ _ _)) (ra_cons (nw := true) (re_bin op_cat (re_lst (ra_cons re_bl ra_nil) (by show 1 ≤ 100000; decide)) (re_var 3) (ov_cat rfl rfl (by rw [List.length_map, hl]; show 1 + n ≤ 100000; omega))) ra_nil))) (by show 3 ≤ 100000; decide)) (ov_cat rfl rfl (by show 4 + 3 ≤ 100000; decide))) ra_nil)) ⟨b2, _, _, rfl, rfl, by show 0 < 7; decide, by show 7 ≤ 100; decide, rfl⟩) ?_)) ?_
    · show ([bK n ps 0, bK n ps 1, bK n ps 2, bK n ps 3, bK n ps 4, bK n ps 5, bK n ps 6] : List D).getD (bagV b2 7).toNat .non = bK n ps (bagV b2 7).toNat
      generalize (bagV b2 7).toNat = j at j2
      match j, j2 with
      | 0, _ => rfl
      | 1, _ => rfl
      | 2, _ => rfl
      | 3, _ => rfl
      | 4, _ => rfl
      | 5, _ => rfl
      | 6, _ => rfl
    have rl : r.length ≤ 16 := by rw [List.length_cons] at hwl; omega
    have cut : ∀ {e : Expr} {ρ : Rho} {c : PC} {lo hi : Option Expr} {p2 pos : Pos}, RE (cxRf P wd K mg base f cdv A outer s H) Wf p ρ c (.Subscript e (.Slice lo hi none p2) pos) (.val (.lst ⟨false, true⟩ (LA.cutD ((x :: r).map D.int) (some 1) none)) true c) → RE (cxRf P wd K mg base f cdv A outer s H) Wf p ρ c (.Subscript e (.Slice lo hi none p2) pos) (.val (.lst ⟨false, true⟩ (iD r)) true c) := fun h => re_to h (congrArg (D.lst _) (cut_tail x r))
    refine rss_cons (c1 := [b3.c]) (ρ1 := fr (some cD) (some (.lst ⟨true, true⟩ [oK x r 0, oK x r 1, oK x r 2, oK x r 3])) (some wD') (some bD) none none) (rs_set (nw := true) 6 scRf.nd (re_lst (ra_cons (nw := true) (cut (re_slL (g := ⟨false, true⟩) (re_var 4) (rp_some (W := Wf) re_int) rp_none)) (ra_cons (nw := true) (re_bin (n2 := true) op_cat (re_var 4) (re_lst (ra_cons re_int ra_nil) (by show 1 ≤ 100000; decide)) (ov_cat rfl rfl (by rw [List.length_map, hwl]; show 2 ^ n + 1 ≤ 100000; omega))) (ra_cons (nw := true) (re_bin (n2 := true) op_cat (re_lst (ra_cons (re_neg re_int) ra_nil) (by show 1 ≤ 100000; decide)) (cut (re_slL (g := ⟨false, true⟩) (re_var 4) (rp_some (W := Wf) re_int) rp_none)) (ov_cat rfl rfl (by rw [List.length_map]; show 1 + r.length ≤ 100000; omega))) (ra_cons re_int ra_nil)))) (by show 4 ≤ 100000; decide))) ?_
    refine rss_cons (c1 := [(refB b).c]) (ρ1 := fr (some cD) (some (.lst ⟨true, true⟩ [oK x r 0, oK x r 1, oK x r 2, oK x r 3])) (some wD') (some bD) (some oD) none) (rs_set (nw := false) 9 scRf.nd (re_to (re_c0 TP (hr.mono (by decide)) (ra_cons (re_var 0) (ra_cons (nw := true) (d := .lst ⟨false, true⟩ ([oK x r 0, oK x r 1, oK x r 2, oK x r 3] ++ [oK x r 4, oK x r 5, oK x r 6])) (re_bin (n2 := true) op_cat (re_var 6) (re_lst (ds := [oK x r 4, oK x r 5, oK x r 6]) (ra_cons re_dct0 (ra_cons (nw := true) (re_bin (n2 := true) op_cat (re_lst (ra_cons re_bl ra_nil) (by show 1 ≤ 100000; decide)) (cut (re_slL (g := ⟨false, true⟩) (re_var 4) (rp_some (W := Wf) re_int) rp_none)) (ov_cat rfl rfl (by rw [List.length_map]; show 1 + r.length ≤ 100000; omega))) (ra_cons (nw := true) (re_bin (n2 := true) op_cat (re_lst (ra_cons re_str ra_nil) (by show 1 ≤ 100000; decide)) (cut (re_slL (g := ⟨false, true⟩) (re_var 4) (rp_some (W := Wf) re_int) rp_none)) (ov_cat rfl rfl (by rw [List.length_map]; show 1 + r.length ≤ 100000; omega))) ra_nil))) (by show 3 ≤ 100000; decide)) (ov_cat rfl rfl (by show 4 + 3 ≤ 100000; decide))) ra_nil)) ⟨b3, _, _, rfl, rfl, by show 0 < 7; decide, by show 7 ≤ 100; decide, rfl⟩) ?_)) ?_
    · show ([oK x r 0, oK x r 1, oK x r 2, oK x r 3, oK x r 4, oK x r 5, oK x r 6] : List D).getD (bagV b3 7).toNat .non = oK x r (bagV b3 7).toNat
      generalize (bagV b3 7).toNat = j at j3
      match j, j3 with
      | 0, _ => rfl
      | 1, _ => rfl
      | 2, _ => rfl
      | 3, _ => rfl
      | 4, _ => rfl
      | 5, _ => rfl
      | 6, _ => rfl
    have e1 : prc n (.lst ⟨false, true⟩ (iD ps)) = some ps := prc_lst hl fun y hy => (hp y hy).1
    let mn : Option D := some (.lst ⟨true, true⟩ [oK x r 0, oK x r 1, oK x r 2, oK x r 3])
    have loop := rs_for_all (X := cxRf P wd K mg base f cdv A outer s H) (W := Wf) (p := p) (c := [(refB b).c]) (ρ := fr (some cD) mn (some wD') (some bD) (some oD) none) (xs := intsD 2) (vs := [10]) (g := gName 10) (body := fBd (rth 7)) (tg := fTg (rth 7)) (it := fIt (rth 7)) (pos := fPs (rth 7))
      (fun _ => fr (some cD) mn (some wD') (some bD) (some oD) none) (fun i => fr (some cD) mn (some wD') (some bD) (some oD) (some (.int ((i : Nat) : Int)))) (fun _ => [(refB b).c]) PassesOwn.never rfl rfl (ri_range (n := 2) G.range re_int (by decide) (by decide)) (pg_name (i := 10) scRf.nd rfl (Or.inl rfl)) (fun i d h => by
        obtain ⟨rfl, _⟩ := intsD_at h
        exact tg_name (by decide)) (fun i d h => ?_)
    · refine rss_cons loop (rss_ret (rs_ret ?_))
      have q := ov_eqT (K := K) (p := p) (c := [(refB b).c]) (i := (toPy (two2 "chances" oD)).shown) (j := (toPy (two2 "chances" oD)).shown)
      rw [decide_eq_true rfl] at q
      exact re_cmp op_eq (re_callB (call_repr gu2 hu) G.repr PyProof.Rows.boot_repr (ra_cons (nw := false) (re_c0 TD hr (ra_cons (re_var 1) (ra_cons (re_var 2) (ra_cons (re_var 3) (ra_cons (re_var 9) (ra_cons re_int ra_nil))))) (td_chn n6 ho hm (fit_iD (by omega)) e1 o1 o2)) ra_nil) (cv_repr o3)) (re_callB (call_repr gu2 hu) G.repr PyProof.Rows.boot_repr (ra_cons (re_lst (ra_cons re_str (ra_cons (re_var 9) ra_nil)) (by show 2 ≤ 100000; decide)) ra_nil) (cv_repr o3)) q
    · obtain ⟨rfl, hi⟩ := intsD_at h
      have hk : ((i : Nat) : Int) = 0 ∨ ((i : Nat) : Int) = 1 := by omega
      refine rss_less (ρ1 := fr (some cD) mn (some wD') (some bD) (some oD) (some (.int ((i : Nat) : Int)))) ?_ (by repeat (first | exact Less.nil | apply Less.same | apply Less.skip))
      refine rss_cons (c1 := [(refB b).c]) (rs_if (kb := false) (rt_to (rt_cmp (nw := true) op_ne (re_callB (call_repr gu2 hu) G.repr PyProof.Rows.boot_repr (ra_cons (nw := false) (re_c0 TD hr (ra_cons (re_var 7) (ra_cons (re_var 5) (ra_cons (re_var 8) (ra_cons (re_var 9) (ra_cons (re_var 10) ra_nil))))) (td_cnt hk c1 c2)) ra_nil) (cv_repr c3)) (re_callB (call_repr gu2 hu) G.repr PyProof.Rows.boot_repr (ra_cons (re_lst (ra_cons re_str (ra_cons (re_var 5) ra_nil)) (by show 2 ≤ 100000; decide)) ra_nil) (cv_repr c3)) ov_neT) (nn _)) (fun z => nomatch z) fun _ => rss_nil) ?_
      refine rss_cons (c1 := [(refB b).c]) (rs_if (kb := false) (rt_to (rt_cmp (nw := true) op_ne (re_callB (call_repr gu2 hu) G.repr PyProof.Rows.boot_repr (ra_cons (nw := false) (re_c0 TD hr (ra_cons (re_var 7) (ra_cons (re_var 2) (ra_cons (re_var 8) (ra_cons (re_var 9) (ra_cons (re_var 10) ra_nil))))) (td_tree hk n6 w1 w2)) ra_nil) (cv_repr w3)) (re_callB (call_repr gu2 hu) G.repr PyProof.Rows.boot_repr (ra_cons (re_lst (ra_cons re_str (ra_cons (re_var 7) ra_nil)) (by show 2 ≤ 100000; decide)) ra_nil) (cv_repr w3)) ov_neT) (nn _)) (fun z => nomatch z) fun _ => rss_nil) ?_
      exact rss_cons (c1 := [(refB b).c]) (rs_if (kb := false) (rt_to (rt_cmp (nw := true) op_ne (re_callB (call_repr gu2 hu) G.repr PyProof.Rows.boot_repr (ra_cons (nw := false) (re_c0 TD hr (ra_cons (re_var 1) (ra_cons (re_var 2) (ra_cons (re_var 8) (ra_cons (re_var 9) (ra_cons (re_var 10) ra_nil))))) (td_prc hk n6 ho hm p1 p2)) ra_nil) (cv_repr p3)) (re_callB (call_repr gu2 hu) G.repr PyProof.Rows.boot_repr (ra_cons (re_lst (ra_cons re_str (ra_cons (re_var 8) ra_nil)) (by show 2 ≤ 100000; decide)) ra_nil) (cv_repr p3)) ov_neT) (nn _)) (fun z => nomatch z) fun _ => rss_nil) rss_nil
abbrev RfG (P : Program) (w : World) (K : PySem.W.Frag) (mg : Str → Option Value) (base : Heap) := DefG P w K mg base 51 "_law_refused" ["_law_bag_here", "_law_tree", "_law_many", "_law_row_here", "_law_amounts"] rfR
end
end K56

namespace K56
open PySem PySem.Spec PyProof.Rows L2 LA
open K36 (ev dep)
/-! ### the law: its numbers -/
theorem cst_in {n : Nat} {ps : List Int} {t : Tr} (hl : ps.length = n) (ho : okT ((n : Nat) : Int) t = true) (hm : nodes t ≤ 39) (hp : ∀ x ∈ ps, 0 ≤ x ∧ x < 10 ^ 18) (w : List Nat) : 0 ≤ cst ps t w ∧ cst ps t w ≤ 39 * 10 ^ 18 := by
  have pl := pth_len w t
  have lnl := ln_le w t
  obtain ⟨a, b⟩ := sum_in (M := 10 ^ 18) (l := (pth w t).map fun q => ps.getD q.toNat 0) fun x hx => by
    obtain ⟨q, hq, rfl⟩ := List.mem_map.mp hx
    have z := pth_in (n := ((n : Nat) : Int)) w t ho q hq
    have lt : q.toNat < ps.length := by omega
    have m : ps.getD q.toNat 0 ∈ ps := by
      rw [List.getD_eq_getElem?_getD, List.getElem?_eq_getElem lt]
      exact List.getElem_mem _
    have := hp _ m
    exact ⟨this.1, Int.le_of_lt this.2⟩
  refine ⟨a, Int.le_trans b ?_⟩
  rw [List.length_map]
  exact Int.mul_le_mul_of_nonneg_right (by omega) (by decide)
theorem csts_in {n : Nat} {ps : List Int} {t : Tr} (hl : ps.length = n) (ho : okT ((n : Nat) : Int) t = true) (hm : nodes t ≤ 39) (hp : ∀ x ∈ ps, 0 ≤ x ∧ x < 10 ^ 18) : ∀ x ∈ csts n ps t, 0 ≤ x ∧ x ≤ 39 * 10 ^ 18 := fun x hx => by
  obtain ⟨w, _, rfl⟩ := List.mem_map.mp hx
  exact cst_in hl ho hm hp w
theorem mxL_in {l : List Int} (h : 0 < l.length) : mxL l ∈ l := by
  have key : ∀ (r : List Int) (a : Int), r.foldl max a = a ∨ r.foldl max a ∈ r := fun r => by
    induction r with
    | nil => exact fun a => .inl rfl
    | cons b r ih =>
      intro a
      show (r.foldl max (max a b) = a) ∨ r.foldl max (max a b) ∈ b :: r
      rcases ih (max a b) with h3 | h3
      · rw [h3]
        by_cases q : a ≤ b
        · rw [Int.max_eq_right q]
          exact .inr List.mem_cons_self
        · rw [Int.max_eq_left (by omega)]
          exact .inl rfl
      · exact .inr (List.mem_cons_of_mem _ h3)
  cases l with
  | nil => cases h
  | cons a r =>
    rcases key r a with q | q
    · show r.foldl max a ∈ _
      rw [q]
      exact List.mem_cons_self
    · exact List.mem_cons_of_mem _ q
theorem dot_in {xs ys : List Int} {A B : Int} (hA : 0 ≤ A) (hB : 0 ≤ B) (hx : ∀ x ∈ xs, 0 ≤ x ∧ x ≤ A) (hy : ∀ y ∈ ys, 0 ≤ y ∧ y ≤ B) (hl : xs.length ≤ 16) : 0 ≤ dotI xs ys ∧ dotI xs ys ≤ 16 * (A * B) := by
  have g : ∀ {l : List Int} {M : Int} {i : Nat}, 0 ≤ M → (∀ x ∈ l, 0 ≤ x ∧ x ≤ M) → 0 ≤ l.getD i 0 ∧ l.getD i 0 ≤ M := fun {l M i} hM h => by
    rw [List.getD_eq_getElem?_getD]
    by_cases hi : i < l.length
    · rw [List.getElem?_eq_getElem hi]
      exact h _ (List.getElem_mem _)
    · rw [List.getElem?_eq_none (by omega)]
      exact ⟨Int.le_refl _, hM⟩
  obtain ⟨a, b⟩ := sum_in (M := A * B) (l := (List.range (min xs.length ys.length)).map fun i => xs.getD i 0 * ys.getD i 0) fun x hx' => by
    obtain ⟨i, _, rfl⟩ := List.mem_map.mp hx'
    obtain ⟨u1, u2⟩ := g (i := i) hA hx
    obtain ⟨v1, v2⟩ := g (i := i) hB hy
    exact ⟨Int.mul_nonneg u1 v1, Int.mul_le_mul u2 v2 v1 hA⟩
  refine ⟨a, Int.le_trans b ?_⟩
  rw [List.length_map, List.length_range]
  exact Int.mul_le_mul_of_nonneg_right (by omega) (Int.mul_nonneg hA hB)
/-- the law's sum, with the factors the other way -/
theorem dot_law {xs ys : List Int} {m : Nat} (hx : xs.length = m) (hy : ys.length = m) : ((List.range m).map fun i => ys.getD i 0 * xs.getD i 0).sum = dotI xs ys := by
  unfold dotI
  rw [hx, hy, Nat.min_self]
  congr 1
  exact List.map_congr_left fun i _ => Int.mul_comm _ _
theorem sum_one (l : List Int) : (l.map fun _ => (1 : Int)).sum = (l.length : Nat) := by
  induction l with
  | nil => rfl
  | cons a r ih =>
    rw [List.map_cons, List.sum_cons, ih, List.length_cons]
    omega
theorem cst_one {n : Nat} {t : Tr} (ho : okT ((n : Nat) : Int) t = true) (w : List Nat) : cst (List.replicate n 1) t w = ((pth w t).length : Nat) := by
  unfold cst
  have e : ((pth w t).map fun q => (List.replicate n (1 : Int)).getD q.toNat 0) = (pth w t).map fun _ => (1 : Int) := List.map_congr_left fun q hq => by
    have z := pth_in (n := ((n : Nat) : Int)) w t ho q hq
    rw [List.getD_eq_getElem?_getD, List.getElem?_replicate, if_pos (by omega)]
    rfl
  rw [e, sum_one]
def plL (n : Nat) (t : Tr) : List Int := (insT n).map fun w => ((pth w t).length : Nat)
theorem plL_is {n : Nat} {t : Tr} (ho : okT ((n : Nat) : Int) t = true) : csts n (List.replicate n 1) t = plL n t := List.map_congr_left fun w _ => cst_one ho w
theorem plL_len (n : Nat) (t : Tr) : (plL n t).length = 2 ^ n := by unfold plL; rw [List.length_map, insT_len]
theorem dot_one {xs : List Int} {m : Nat} (h : xs.length = m) : dotI xs (List.replicate m 1) = xs.sum := by
  unfold dotI
  rw [List.length_replicate, h, Nat.min_self]
  congr 1
  subst h
  refine List.ext_getElem? fun i => ?_
  by_cases hi : i < xs.length
  · simp [hi, List.getElem?_range, List.getD_eq_getElem?_getD]
  · simp [hi]
theorem prc_non (n : Nat) : prc n .non = some (List.replicate n 1) := rfl
theorem sh_int {i : Int} (h0 : 0 ≤ i) (h : i ≤ 16 * (39 * 10 ^ 18 * 10 ^ 18)) : Shows (.int i) :=
  (wd_int (Nat.lt_of_lt_of_le (log_of (n := 200) h0 (by
    have e1 : (16 * (39 * 10 ^ 18 * 10 ^ 18) : Int) < 2 ^ 200 := by decide
    omega) (by decide)) (by decide))).shows (by decide) (by decide)
/-! ### one turn -/
def mV (b : Bg) : Nat := (bagV b 5).toNat
abbrev c1 (b : Bg) : Bg := bagC b 5
abbrev tB (b : Bg) : Tr × Bg := trB (mV b) 4 (c1 b)
abbrev rB (b : Bg) : List Int := rowL (tB b).2 (mV b)
abbrev c3 (b : Bg) : Bg := rowC (tB b).2 (mV b)
abbrev aB (b : Bg) : List Int := rowL (c3 b) (2 ^ mV b)
abbrev c4 (b : Bg) : Bg := rowC (c3 b) (2 ^ mV b)
def nxB (b : Bg) : Bg := refB (c4 b)
theorem mV_lt (b : Bg) : mV b < 5 ∧ bagV b 5 = ((mV b : Nat) : Int) := by
  have := bagV_in (b := b) (show (0 : Int) < 5 by decide)
  unfold mV
  omega
end K56

namespace K56
open PySem PySem.Spec PyProof.Rows L2 LA
open K36 (ev dep)
/-! ### the law -/
abbrev gP : List Value → List Value → List Value := fun a b => a ++ b ++ [.none]
abbrev gPV : List V → List V → List V := fun a b => a ++ b ++ [.non]
abbrev gW : List Value → List Value → List Value := fun a b => a ++ [.none] ++ b
abbrev gWV : List V → List V → List V := fun a b => a ++ [.non] ++ b
structure LawD (P : Program) (w : World) (K : PySem.W.Frag) (mg : Str → Option Value) (base : Heap) (Cn BT BP BC : Addr) : Prop where
  bag : BagD P w K mg base
  draw : BdrawD P w K mg base
  any : ∀ r, Def0 P w K mg base (r + 2) "_law_any_tree" ["_law_bag_here", "_law_many", "_law_room"] (anR r)
  row : RowD P w K mg base
  inp : InD P w K mg base
  path : PaD P w K mg base
  pcos : PcD P w K mg base
  told : ToldD P w K mg base Cn BT BP BC
  refu : RfG P w K mg base
  ws1 : Def1D P w K mg base 48 "tree_worst" ["tree", "many", "prices"] (wsR Cn BT BP) [.non]
  to1 : Def1D P w K mg base 48 "tree_total" ["tree", "many", "prices", "weights"] (toR Cn BT BP BC) [.non, .non]
  toP : Def1K P w K mg base 48 "tree_total" ["tree", "many", "prices", "weights"] (toR Cn BT BP BC) 2 ["prices"] gP gPV
  toW : Def1K P w K mg base 48 "tree_total" ["tree", "many", "prices", "weights"] (toR Cn BT BP BC) 2 ["weights"] gW gWV
section
variable {P : Program} {w : World} {K : PySem.W.Frag} {mg : Str → Option Value} {base : Heap} {f : Addr} {cdv : Value} {A : Around} {outer : List Env} {s : Shared} {H : Hp} {E : XK} {p : HD} {S kk : D} {Cn BT BP BC : Addr}
abbrev nLaw : List Str := ["_law_script", "_law_bag_here", "_law_k", "_law_many", "_law_tree", "_law_row_here", "_law_amounts", "_law_texts", "_law_ways", "_law_due", "_law_turn", "_law_plain", "_law_heavy", "_law_text", "_law_at"]
theorem scLaw : FnScope nLaw ["_law_script"] (defScope (top 42)) := ⟨rfl, rfl, rfl, by decide +kernel, rfl, by decide +kernel, by decide +kernel⟩
abbrev cxL (P : Program) (w : World) (K : PySem.W.Frag) (mg : Str → Option Value) (base : Heap) (f : Addr) (cdv : Value) (A : Around) (outer : List Env) (s : Shared) (H : Hp) (E : XK) : Cx := (cxOf CX0 P w K mg base nLaw "law" (defScope (top 42)) f cdv A outer s H E).nox
abbrev lF : Stmt := (defBody (top 42)).getD 1 (.Pass ⟨0, 0, 0, 0⟩)
abbrev nth (i : Nat) : Stmt := (fBd lF).getD i (.Pass ⟨0, 0, 0, 0⟩)
abbrev fr (S kk : D) (mn tr ro am ts wy du tu pl hv : Option D) : Rho := [some S, some (.mut 0), some kk, mn, tr, ro, am, ts, wy, du, tu, pl, hv, none, none]
abbrev outR (S : D) : Rho := [some S, some (.mut 0), none, none, none, none, none, none, none, none, none, none, none, none, none]
abbrev LD (l : List Int) : D := .lst ⟨false, true⟩ (iD l)
theorem turn_rest {n : Nat} {t : Tr} {ps ws : List Int} {x4 : Bg} (G : Glb mg) (L : LawD P w K mg base Cn BT BP BC) (hr : Room 51 (cxL P w K mg base f cdv A outer s H E).A) (hg : (cxL P w K mg base f cdv A outer s H E).A.guards = some [])
    (hn : n < 5) (ho : okT ((n : Nat) : Int) t = true) (hm : nodes t ≤ 39) (rl : ps.length = n) (al : ws.length = 2 ^ n) (ri : ∀ x ∈ ps, 0 ≤ x ∧ x < 10 ^ 18) (ai : ∀ x ∈ ws, 0 ≤ x ∧ x < 10 ^ 18) :
    RSs (cxL P w K mg base f cdv A outer s H E) Wf p (fr S kk (some (.int ((n : Nat) : Int))) (some (trD t)) (some (LD ps)) (some (LD ws)) (some (.lst ⟨false, true⟩ (wD (insT n)))) none none none none none) [x4.c] ((fBd lF).drop 5) (.nx (outR S) [(refB x4).c]) := by
  have hr1 := hr.mono (show 1 ≤ 51 by decide)
  have hr2 := hr.mono (show 2 ≤ 51 by decide)
  have hr48 := hr.mono (show 48 ≤ 51 by decide)
  have hr50 := hr.mono (show 50 ≤ 51 by decide)
  have hu : (cxL P w K mg base f cdv A outer s H E).A.units + 70 < cLine := by have := hr.un; omega
  have nn : ∀ z : Str, (!decide (z = z)) = false := fun z => by rw [decide_eq_true rfl]; rfl
  have n6 : n ≤ 6 := by omega
  have m16 : 2 ^ n ≤ 16 := by
    calc 2 ^ n ≤ 2 ^ 4 := Nat.pow_le_pow_right (by decide) (by omega)
      _ = 16 := by decide
  have two : 0 < 2 ^ n := Nat.two_pow_pos _
  have lenI : (wD (insT n)).length = 2 ^ n := by rw [wD_len, insT_len]
  refine rss_less (ρ1 := fr S kk (some (.int ((n : Nat) : Int))) (some (trD t)) (some (LD ps)) (some (LD ws)) (some (.lst ⟨false, true⟩ (wD (insT n)))) (some (LD (csts n ps t))) (some (.int (dotI (csts n ps t) ws))) none (some (LD (plL n t))) (some (.int (dotI (plL n t) ws)))) ?_ (by repeat (first | exact Less.nil | apply Less.skip | apply Less.same))
  have cl := csts_len n ps t
  have ci := csts_in rl ho hm ri
  have pc : ∀ x ∈ ps, 0 ≤ x := fun x hx => (ri x hx).1
  have wc : ∀ x ∈ ws, 0 ≤ x := fun x hx => (ai x hx).1
  have wb : ∀ x ∈ ws, -(2 ^ 64) < x ∧ x < 2 ^ 64 := fun x hx => by
    have := ai x hx
    have e1 : (-(2 ^ 64) : Int) = -18446744073709551616 := by decide
    have e2 : (2 ^ 64 : Int) = 18446744073709551616 := by decide
    have e3 : (10 : Int) ^ 18 = 1000000000000000000 := by decide
    omega
  have atI : ∀ {l : List Int} {i : Nat} {d : D}, (intsD (l.length))[i]? = some d → i < l.length := fun {l i d} h => (intsD_at h).2
  refine rss_cons (c1 := [x4.c]) (ρ1 := fr S kk (some (.int ((n : Nat) : Int))) (some (trD t)) (some (LD ps)) (some (LD ws)) (some (.lst ⟨false, true⟩ (wD (insT n)))) (some (LD (csts n ps t))) none none none none) (rs_set (nw := true) 8 scLaw.nd (re_to (d := .lst ⟨false, true⟩ ((List.range (wD (insT n)).length).map fun j => D.int (cst ps t ((insT n).getD j [])))) ?_ (by rw [map_W (cst ps t)]; rfl))) ?_
  · refine re_lcA (own := [("_law_text", 13)]) (g := gName 13) (xs := wD (insT n)) (fun j => D.int (cst ps t ((insT n).getD j []))) (fun _ => [x4.c]) (fun i => [some S, some (.mut 0), some kk, some (.int ((n : Nat) : Int)), some (trD t), some (LD ps), some (LD ws), some (.lst ⟨false, true⟩ (wD (insT n))), none, none, none, none, none, some (.str (tx ((insT n).getD i []))), none]) (fun _ => true) rfl scLaw.nd (ri_lst (re_var 7)) (blkOk_by (N := nLaw) (sc := defScope (top 42)) (by decide +kernel)) (fun _ _ _ _ _ => pg_name (i := 13) scLaw.nd rfl (Or.inl rfl)) (fun i d h => ?_) (fun i d h q s1 H1 C cl fp => ?_) (by rw [lenI]; omega)
    · obtain ⟨rfl, _, _⟩ := wD_at h
      exact tg_name (j := 13) (vs := [13]) (by decide)
    · obtain ⟨rfl, _, mem⟩ := wD_at h
      have hl := insT_at mem
      exact re_c0 L.pcos hr2 (ra_cons (re_var 4) (ra_cons (re_var 5) (ra_cons (re_var 13) ra_nil))) ⟨t, _, ⟨false, true⟩, ps, rfl, by rw [hl]; exact ho, hm, by omega, by rw [hl]; exact rl, insT_mem mem, rfl⟩
  refine rss_cons (c1 := [x4.c]) (ρ1 := fr S kk (some (.int ((n : Nat) : Int))) (some (trD t)) (some (LD ps)) (some (LD ws)) (some (.lst ⟨false, true⟩ (wD (insT n)))) (some (LD (csts n ps t))) (some (.int (dotI (csts n ps t) ws))) none none none) (rs_set (nw := true) 9 scLaw.nd (re_to (d := .int (((List.range (2 ^ n)).map fun i => ws.getD i 0 * (csts n ps t).getD i 0)).sum) (re_callB (ds := [.lst ⟨false, true⟩ (((List.range (2 ^ n)).map fun i => ws.getD i 0 * (csts n ps t).getD i 0).map D.int)]) (cr_sum rfl) G.sum PyProof.Rows.boot_sum (ra_cons (nw := true) (re_to (d := .lst ⟨false, true⟩ ((List.range (intsD (2 ^ n)).length).map fun i => D.int (ws.getD i 0 * (csts n ps t).getD i 0))) ?_ (by rw [intsD_len, List.map_map]; rfl)) ra_nil) cv_sum) (by rw [dot_law cl al]))) ?_
  · refine re_lcA (own := [("_law_at", 14)]) (g := gName 14) (xs := intsD (2 ^ n)) (fun i => D.int (ws.getD i 0 * (csts n ps t).getD i 0)) (fun _ => [x4.c]) (fun i => [some S, some (.mut 0), some kk, some (.int ((n : Nat) : Int)), some (trD t), some (LD ps), some (LD ws), some (.lst ⟨false, true⟩ (wD (insT n))), some (LD (csts n ps t)), none, none, none, none, none, some (.int ((i : Nat) : Int))]) (fun _ => true) rfl scLaw.nd (ri_rangeN G.range (re_to (re_callB call_len G.len PySem.boot_len (ra_cons (re_var 8) ra_nil) cv_lenL) (by rw [List.length_map, cl])) (by omega)) (blkOk_by (N := nLaw) (sc := defScope (top 42)) (by decide +kernel)) (fun _ _ _ _ _ => pg_name (i := 14) scLaw.nd rfl (Or.inl rfl)) (fun i d h => ?_) (fun i d h q s1 H1 C cl2 fp => ?_) (by rw [intsD_len]; omega)
    · obtain ⟨rfl, _⟩ := intsD_at h
      exact tg_name (j := 14) (vs := [14]) (by decide)
    · obtain ⟨rfl, hi⟩ := intsD_at h
      have bw := wb (ws.getD i 0) (by rw [List.getD_eq_getElem?_getD, List.getElem?_eq_getElem (show i < ws.length by omega)]; exact List.getElem_mem _)
      exact re_bin op_mul (re_ix ix_seq (re_var 6) (re_var 14) (ov_ixL (j := i) rfl (iD_at (by omega)))) (re_ix ix_seq (re_var 8) (re_var 14) (ov_ixL (j := i) rfl (iD_at (by omega)))) (ov_cii (.inl bw))
  have wl : ws.length = 2 ^ n := al
  have mxm := mxL_in (l := csts n ps t) (by omega)
  have mxi := ci _ mxm
  have e18 : (0 : Int) ≤ 10 ^ 18 := by decide
  have dti := dot_in (xs := csts n ps t) (ys := ws) (A := 39 * 10 ^ 18) (B := 10 ^ 18) (by decide) (by decide) ci (fun y hy => ⟨(ai y hy).1, Int.le_of_lt (ai y hy).2⟩) (by omega)
  have shM : Shows (.int (mxL (csts n ps t))) := sh_int mxi.1 (Int.le_trans mxi.2 (by decide))
  have shD : Shows (.int (dotI (csts n ps t) ws)) := sh_int dti.1 dti.2
  have pL : prc n (LD ps) = some ps := prc_lst rl pc
  have pT : prc n (.tup (iD ps)) = some ps := prc_tup rl pc
  have wL : prc (2 ^ n) (LD ws) = some ws := prc_lst wl wc
  have wT : prc (2 ^ n) (.tup (iD ws)) = some ws := prc_tup wl wc
  have fpL : AmFit (LD ps) := fit_iD (by omega)
  have fpT : AmFit (.tup (iD ps)) := fit_tD (by omega)
  have fwL : AmFit (LD ws) := fit_iD (by omega)
  have fwT : AmFit (.tup (iD ws)) := fit_tD (by omega)
  have hm40 : nodes t ≤ 40 := by omega
  let frT : Option D → Rho := fun tu => fr S kk (some (.int ((n : Nat) : Int))) (some (trD t)) (some (LD ps)) (some (LD ws)) (some (.lst ⟨false, true⟩ (wD (insT n)))) (some (LD (csts n ps t))) (some (.int (dotI (csts n ps t) ws))) tu none none
  have loop := rs_for_all (X := cxL P w K mg base f cdv A outer s H E) (W := Wf) (p := p) (c := [x4.c]) (ρ := frT none) (xs := intsD 2) (vs := [10]) (g := gName 10) (body := fBd (nth 7)) (tg := fTg (nth 7)) (it := fIt (nth 7)) (pos := fPs (nth 7))
    (fun _ => frT none) (fun i => frT (some (.int ((i : Nat) : Int)))) (fun _ => [x4.c]) PassesOwn.never rfl rfl (ri_range (n := 2) G.range re_int (by decide) (by decide)) (pg_name (i := 10) scLaw.nd rfl (Or.inl rfl)) (fun i d h => by
      obtain ⟨rfl, _⟩ := intsD_at h
      exact tg_name (by decide)) (fun i d h => ?_)
  · refine rss_cons loop ?_
    refine rss_cons (c1 := [x4.c]) (ρ1 := fr S kk (some (.int ((n : Nat) : Int))) (some (trD t)) (some (LD ps)) (some (LD ws)) (some (.lst ⟨false, true⟩ (wD (insT n)))) (some (LD (csts n ps t))) (some (.int (dotI (csts n ps t) ws))) none (some (LD (plL n t))) none) (rs_set (nw := true) 11 scLaw.nd (re_to (d := .lst ⟨false, true⟩ ((List.range (wD (insT n)).length).map fun j => D.int (((pth ((insT n).getD j []) t).length : Nat) : Int))) ?_ (by rw [map_W (fun w => (((pth w t).length : Nat) : Int))]; rfl))) ?_
    · refine re_lcA (own := [("_law_text", 13)]) (g := gName 13) (xs := wD (insT n)) (fun j => D.int (((pth ((insT n).getD j []) t).length : Nat) : Int)) (fun _ => [x4.c]) (fun i => [some S, some (.mut 0), some kk, some (.int ((n : Nat) : Int)), some (trD t), some (LD ps), some (LD ws), some (.lst ⟨false, true⟩ (wD (insT n))), some (LD (csts n ps t)), some (.int (dotI (csts n ps t) ws)), none, none, none, some (.str (tx ((insT n).getD i []))), none]) (fun _ => true) rfl scLaw.nd (ri_lst (re_var 7)) (blkOk_by (N := nLaw) (sc := defScope (top 42)) (by decide +kernel)) (fun _ _ _ _ _ => pg_name (i := 13) scLaw.nd rfl (Or.inl rfl)) (fun i d h => ?_) (fun i d h q s1 H1 C cl fp => ?_) (by rw [lenI]; omega)
      · obtain ⟨rfl, _, _⟩ := wD_at h
        exact tg_name (j := 13) (vs := [13]) (by decide)
      · obtain ⟨rfl, _, mem⟩ := wD_at h
        have hl := insT_at mem
        generalize (insT n).getD i [] = v at *
        exact re_to (re_callB call_len G.len PySem.boot_len (ra_cons (re_ix ix_seq (re_c0 L.path hr1 (ra_cons (re_var 4) (ra_cons (re_var 13) ra_nil)) ⟨t, v, rfl, by rw [hl]; exact ho, hm, by omega, insT_mem mem, rfl⟩) re_int (ov_ixT (j := 0) rfl rfl)) ra_nil) cv_lenL) (by rw [List.length_map])
    have pll := plL_len n t
    have eW : csts n (List.replicate n 1) t = plL n t := plL_is ho
    have pli : ∀ x ∈ plL n t, 0 ≤ x ∧ x ≤ 39 := fun x hx => by
      obtain ⟨v, _, rfl⟩ := List.mem_map.mp hx
      have a := pth_len v t
      have b := ln_le v t
      omega
    have two1 : ∀ x ∈ List.replicate (2 ^ n) (1 : Int), -(2 ^ 64) < x ∧ x < 2 ^ 64 := fun x hx => by
      rw [List.eq_of_mem_replicate hx]
      exact ⟨by decide, by decide⟩
    have cW : RE (cxL P w K mg base f cdv A outer s H E) Wf p (fr S kk (some (.int ((n : Nat) : Int))) (some (trD t)) (some (LD ps)) (some (LD ws)) (some (.lst ⟨false, true⟩ (wD (insT n)))) (some (LD (csts n ps t))) (some (.int (dotI (csts n ps t) ws))) none (some (LD (plL n t))) none) [x4.c] (match nth 9 with | .If (.BoolOp _ (.Compare e _ _ _ :: _) _) _ _ _ => e | _ => .Name "" ⟨0, 0, 0, 0⟩) (.val (.int (mxL (plL n t))) true [x4.c]) :=
      re_c1D (es' := [.non]) (o := .val (.int (mxL (plL n t))) true [x4.c]) takes0 L.ws1 hr48 (ra_cons (re_var 4) (ra_cons (re_var 3) ra_nil)) (fun q H => .cons .non .nil) (.inr (.inr ⟨t, n, .non, rfl, n6, ho, hm40, fit_non, .inr ⟨_, prc_non n, by rw [eW]⟩⟩))
    have cT : RE (cxL P w K mg base f cdv A outer s H E) Wf p (fr S kk (some (.int ((n : Nat) : Int))) (some (trD t)) (some (LD ps)) (some (LD ws)) (some (.lst ⟨false, true⟩ (wD (insT n)))) (some (LD (csts n ps t))) (some (.int (dotI (csts n ps t) ws))) none (some (LD (plL n t))) none) [x4.c] (match nth 9 with | .If (.BoolOp _ (_ :: .Compare e _ _ _ :: _) _) _ _ _ => e | _ => .Name "" ⟨0, 0, 0, 0⟩) (.val (.int (plL n t).sum) true [x4.c]) :=
      re_c1D (es' := [.non, .non]) (o := .val (.int (plL n t).sum) true [x4.c]) takes0 L.to1 hr48 (ra_cons (re_var 4) (ra_cons (re_var 3) ra_nil)) (fun q H => .cons .non (.cons .non .nil)) (.inr (.inr ⟨t, n, .non, .non, rfl, n6, ho, hm40, fit_non, .inr ⟨_, prc_non n, fit_non, .inr ⟨_, prc_non _, two1, by rw [eW, dot_one pll]⟩⟩⟩))
    refine rss_cons (c1 := [x4.c]) (rs_if (kb := false) (RW.rt (rw_orS (rt_to (rt_cmp op_ne cW (re_callB (cr_max rfl) G.max PyProof.Rows.boot_max (ra_cons (re_var 11) ra_nil) (cv_maxL (by omega))) ov_neI) (by rw [decide_eq_true rfl]; rfl)) <| rw_or1 (rt_to (rt_cmp op_ne cT (re_callB (cr_sum rfl) G.sum PyProof.Rows.boot_sum (ra_cons (re_var 11) ra_nil) cv_sum) ov_neI) (by rw [decide_eq_true rfl]; rfl)))) (fun z => nomatch z) fun _ => rss_nil) ?_
    refine rss_cons (c1 := [x4.c]) (ρ1 := fr S kk (some (.int ((n : Nat) : Int))) (some (trD t)) (some (LD ps)) (some (LD ws)) (some (.lst ⟨false, true⟩ (wD (insT n)))) (some (LD (csts n ps t))) (some (.int (dotI (csts n ps t) ws))) none (some (LD (plL n t))) (some (.int (dotI (plL n t) ws)))) (rs_set (nw := true) 12 scLaw.nd (re_to (d := .int (((List.range (2 ^ n)).map fun i => ws.getD i 0 * (plL n t).getD i 0)).sum) (re_callB (ds := [.lst ⟨false, true⟩ (((List.range (2 ^ n)).map fun i => ws.getD i 0 * (plL n t).getD i 0).map D.int)]) (cr_sum rfl) G.sum PyProof.Rows.boot_sum (ra_cons (nw := true) (re_to (d := .lst ⟨false, true⟩ ((List.range (intsD (2 ^ n)).length).map fun i => D.int (ws.getD i 0 * (plL n t).getD i 0))) ?_ (by rw [intsD_len, List.map_map]; rfl)) ra_nil) cv_sum) (by rw [dot_law pll al]))) ?_
    · refine re_lcA (own := [("_law_at", 14)]) (g := gName 14) (xs := intsD (2 ^ n)) (fun i => D.int (ws.getD i 0 * (plL n t).getD i 0)) (fun _ => [x4.c]) (fun i => [some S, some (.mut 0), some kk, some (.int ((n : Nat) : Int)), some (trD t), some (LD ps), some (LD ws), some (.lst ⟨false, true⟩ (wD (insT n))), some (LD (csts n ps t)), some (.int (dotI (csts n ps t) ws)), none, some (LD (plL n t)), none, none, some (.int ((i : Nat) : Int))]) (fun _ => true) rfl scLaw.nd (ri_rangeN G.range (re_to (re_callB call_len G.len PySem.boot_len (ra_cons (re_var 11) ra_nil) cv_lenL) (by rw [List.length_map, pll])) (by omega)) (blkOk_by (N := nLaw) (sc := defScope (top 42)) (by decide +kernel)) (fun _ _ _ _ _ => pg_name (i := 14) scLaw.nd rfl (Or.inl rfl)) (fun i d h => ?_) (fun i d h q s1 H1 C cl2 fp => ?_) (by rw [intsD_len]; omega)
      · obtain ⟨rfl, _⟩ := intsD_at h
        exact tg_name (j := 14) (vs := [14]) (by decide)
      · obtain ⟨rfl, hi⟩ := intsD_at h
        have bw := wb (ws.getD i 0) (by rw [List.getD_eq_getElem?_getD, List.getElem?_eq_getElem (show i < ws.length by omega)]; exact List.getElem_mem _)
        exact re_bin op_mul (re_ix ix_seq (re_var 6) (re_var 14) (ov_ixL (j := i) rfl (iD_at (by omega)))) (re_ix ix_seq (re_var 11) (re_var 14) (ov_ixL (j := i) rfl (iD_at (by omega)))) (ov_cii (.inl bw))
    obtain ⟨fp, fdp, q1, q2, q3, q4⟩ := L.toP.ex
    obtain ⟨fw, fdw, v1, v2, v3, v4⟩ := L.toW.ex
    have eP : dotI (csts n ps t) (List.replicate (2 ^ n) 1) = (csts n ps t).sum := dot_one cl
    let ρL : Rho := fr S kk (some (.int ((n : Nat) : Int))) (some (trD t)) (some (LD ps)) (some (LD ws)) (some (.lst ⟨false, true⟩ (wD (insT n)))) (some (LD (csts n ps t))) (some (.int (dotI (csts n ps t) ws))) none (some (LD (plL n t))) (some (.int (dotI (plL n t) ws)))
    have cP : RE (cxL P w K mg base f cdv A outer s H E) Wf p ρL [x4.c] (match nth 11 with | .If (.BoolOp _ (.Compare e _ _ _ :: _) _) _ _ _ => e | _ => .Name "" ⟨0, 0, 0, 0⟩) (.val (.int (csts n ps t).sum) true [x4.c]) :=
      re_callX1K (es' := [LD ps]) (gD := [trD t, .int ((n : Nat) : Int), LD ps, .non]) takes0 q1 hr48 q2 q3 q4 (ra_cons (re_var 4) (ra_cons (re_var 3) ra_nil)) (rk_cons (re_var 5) rk_nil) rfl rfl (fun h1 h2 => DVs.app (DVs.app h1 h2) (.cons .non .nil)) (.inr (.inr ⟨t, n, LD ps, .non, rfl, n6, ho, hm40, fpL, .inr ⟨ps, pL, fit_non, .inr ⟨_, prc_non _, two1, by rw [eP]⟩⟩⟩))
    have cV : RE (cxL P w K mg base f cdv A outer s H E) Wf p ρL [x4.c] (match nth 11 with | .If (.BoolOp _ (_ :: .Compare e _ _ _ :: _) _) _ _ _ => e | _ => .Name "" ⟨0, 0, 0, 0⟩) (.val (.int (dotI (plL n t) ws)) true [x4.c]) :=
      re_callX1K (es' := [LD ws]) (gD := [trD t, .int ((n : Nat) : Int), .non, LD ws]) takes0 v1 hr48 v2 v3 v4 (ra_cons (re_var 4) (ra_cons (re_var 3) ra_nil)) (rk_cons (re_var 6) rk_nil) rfl rfl (fun h1 h2 => DVs.app (DVs.app h1 (.cons .non .nil)) h2) (.inr (.inr ⟨t, n, .non, LD ws, rfl, n6, ho, hm40, fit_non, .inr ⟨_, prc_non n, fwL, .inr ⟨ws, wL, wb, by rw [eW]⟩⟩⟩))
    refine rss_cons (c1 := [x4.c]) (rs_if (kb := false) (RW.rt (rw_orS (rt_to (rt_cmp op_ne cP (re_callB (cr_sum rfl) G.sum PyProof.Rows.boot_sum (ra_cons (re_var 8) ra_nil) cv_sum) ov_neI) (by rw [decide_eq_true rfl]; rfl)) <| rw_or1 (rt_to (rt_cmp op_ne cV (re_var 12) ov_neI) (by rw [decide_eq_true rfl]; rfl)))) (fun z => nomatch z) fun _ => rss_nil) ?_
    obtain ⟨y, r, ewr⟩ : ∃ y r, ws = y :: r := by
      cases ws with
      | nil => simp at wl; omega
      | cons y r => exact ⟨y, r, rfl⟩
    exact rss_cons (c1 := [(refB x4).c]) (rs_if (kb := false) (rt_not (k := true) (rt_val (re_cG L.refu hr hg (ra_cons (re_var 1) (ra_cons (re_var 4) (ra_cons (re_var 3) (ra_cons (re_var 5) (ra_cons (re_var 6) ra_nil))))) ⟨x4, t, n, ps, y, r, by rw [← ewr], rfl, hn, ho, hm40, rl, ri, by rw [← ewr]; exact wl, by rw [← ewr]; exact ai, rfl⟩))) (fun z => nomatch z) fun _ => rss_nil) rss_nil
  · obtain ⟨rfl, hi⟩ := intsD_at h
    refine rss_less (ρ1 := frT (some (.int ((i : Nat) : Int)))) ?_ (by repeat (first | exact Less.nil | apply Less.same | apply Less.skip))
    have pick : RE (cxL P w K mg base f cdv A outer s H E) Wf p (frT (some (.int ((i : Nat) : Int)))) [x4.c] (match (fBd (nth 7)).getD 0 (.Pass ⟨0, 0, 0, 0⟩) with | .If (.Compare (.Call _ (.Call _ (_ :: _ :: e :: _) _ _ :: _) _ _) _ _ _) _ _ _ => e | _ => .Name "" ⟨0, 0, 0, 0⟩) (.val (if i = 0 then LD ps else .tup (iD ps)) false [x4.c]) :=
      re_ix ix_seq (re_lst (ds := [LD ps, .tup (iD ps)]) (ra_cons (re_var 5) (ra_cons (re_callT call_tuple_of G.tuple PyProof.Rows.boot_tuple (ra_cons (re_var 5) ra_nil) cv_tupL) ra_nil)) (by show 2 ≤ 100000; decide)) (re_var 10) (ov_ixL (j := i) rfl (by
        match i, hi with
        | 0, _ => rfl
        | 1, _ => rfl))
    have tk0 : tdR Cn BT BP BC [trD t, .int ((n : Nat) : Int), (if i = 0 then LD ps else .tup (iD ps)), LD ws, .int 0] [x4.c] (.val (.int (mxL (csts n ps t))) false [x4.c]) := by
      split
      · exact td_ok0 n6 ho hm40 fpL pL
      · exact td_ok0 n6 ho hm40 fpT pT
    refine rss_cons (c1 := [x4.c]) (rs_if (kb := false) (rt_to (rt_cmp (nw := true) op_ne (re_callB (call_repr hg hu) G.repr PyProof.Rows.boot_repr (ra_cons (nw := false) (re_c0 L.told hr50 (ra_cons (re_var 4) (ra_cons (re_var 3) (ra_cons pick (ra_cons (re_var 6) (ra_cons re_int ra_nil))))) tk0) ra_nil) (cv_repr shM)) (re_callB (call_repr hg hu) G.repr PyProof.Rows.boot_repr (ra_cons (re_callB (cr_max rfl) G.max PyProof.Rows.boot_max (ra_cons (re_var 8) ra_nil) (cv_maxL (by omega))) ra_nil) (cv_repr shM)) ov_neT) (nn _)) (fun z => nomatch z) fun _ => rss_nil) ?_
    exact rss_cons (c1 := [x4.c]) (rs_if (kb := false) (rt_to (rt_cmp (nw := true) op_ne (re_callB (call_repr hg hu) G.repr PyProof.Rows.boot_repr (ra_cons (nw := false) (re_c0 L.told hr50 (ra_cons (re_var 4) (ra_cons (re_var 3) (ra_cons (re_callT call_tuple_of G.tuple PyProof.Rows.boot_tuple (ra_cons (re_var 5) ra_nil) cv_tupL) (ra_cons (re_callT call_tuple_of G.tuple PyProof.Rows.boot_tuple (ra_cons (re_var 6) ra_nil) cv_tupL) (ra_cons re_int ra_nil))))) (td_ok1 n6 ho hm40 fpT pT fwT wT wb)) ra_nil) (cv_repr shD)) (re_callB (call_repr hg hu) G.repr PyProof.Rows.boot_repr (ra_cons (re_var 9) ra_nil) (cv_repr shD)) ov_neT) (nn _)) (fun z => nomatch z) fun _ => rss_nil) rss_nil
theorem turn_ok {b : Bg} (G : Glb mg) (L : LawD P w K mg base Cn BT BP BC) (hr : Room 51 (cxL P w K mg base f cdv A outer s H E).A) (hg : (cxL P w K mg base f cdv A outer s H E).A.guards = some []) :
    RSs (cxL P w K mg base f cdv A outer s H E) Wf p (fr S kk none none none none none none none none none none) [b.c] (fBd lF) (.nx (outR S) [(nxB b).c]) := by
  have hr1 := hr.mono (show 1 ≤ 51 by decide)
  have hr2 := hr.mono (show 2 ≤ 51 by decide)
  have hr48 := hr.mono (show 48 ≤ 51 by decide)
  have hr50 := hr.mono (show 50 ≤ 51 by decide)
  have hu : (cxL P w K mg base f cdv A outer s H E).A.units + 70 < cLine := by have := hr.un; omega
  have nn : ∀ z : Str, (!decide (z = z)) = false := fun z => by rw [decide_eq_true rfl]; rfl
  have l5 : (5 : Int).natAbs.log2 < 9000 := by decide
  obtain ⟨hn, hb5⟩ := mV_lt b
  have n6 : mV b ≤ 6 := by omega
  have m16 : 2 ^ mV b ≤ 16 := by
    calc 2 ^ mV b ≤ 2 ^ 4 := Nat.pow_le_pow_right (by decide) (by omega)
      _ = 16 := by decide
  have two : 0 < 2 ^ mV b := Nat.two_pow_pos _
  obtain ⟨ho, hm⟩ := trB_ok (mV b) 4 (c1 b)
  have hm : nodes (tB b).1 ≤ 39 := by
    have e : (2 : Nat) ^ 4 = 16 := by decide
    show nodes (trB (mV b) 4 (c1 b)).1 ≤ 39
    omega
  have rl := rowL_len (tB b).2 (mV b)
  have al := rowL_len (c3 b) (2 ^ mV b)
  have ri := rowL_in (tB b).2 (mV b)
  have ai := rowL_in (c3 b) (2 ^ mV b)
  refine rss_cons (c1 := [(c1 b).c]) (ρ1 := fr S kk (some (.int ((mV b : Nat) : Int))) none none none none none none none none none) (rs_set (nw := false) 3 scLaw.nd (re_ix ix_seq (re_lst (ds := [.int 0, .int 1, .int 2, .int 3, .int 4]) (ra_cons re_int (ra_cons re_int (ra_cons re_int (ra_cons re_int (ra_cons re_int ra_nil))))) (by show 5 ≤ 100000; decide)) (re_c0 L.draw hr1 (ra_cons (re_var 1) (ra_cons re_int ra_nil)) ⟨5, b, rfl, rfl, by decide, l5, rfl⟩) (ov_ixL (j := mV b) hb5 ?_))) ?_
  · generalize mV b = j at hn
    match j, hn with
    | 0, _ => rfl
    | 1, _ => rfl
    | 2, _ => rfl
    | 3, _ => rfl
    | 4, _ => rfl
  refine rss_cons (c1 := [(tB b).2.c]) (ρ1 := fr S kk (some (.int ((mV b : Nat) : Int))) (some (trD (tB b).1)) none none none none none none none none) (rs_set (nw := false) 4 scLaw.nd (re_c0 (L.any 4) (hr.mono (by decide)) (ra_cons (re_var 1) (ra_cons (re_var 3) (ra_cons re_int ra_nil))) ⟨mV b, c1 b, rfl, n6, rfl, rfl⟩)) ?_
  refine rss_cons (c1 := [(c3 b).c]) (ρ1 := fr S kk (some (.int ((mV b : Nat) : Int))) (some (trD (tB b).1)) (some (LD (rB b))) none none none none none none none) (rs_set (nw := true) 5 scLaw.nd (re_c0 L.row hr2 (ra_cons (re_var 1) (ra_cons (re_var 3) ra_nil)) ⟨(tB b).2, mV b, rfl, rfl, by omega, rfl⟩)) ?_
  have lenI : (wD (insT (mV b))).length = 2 ^ mV b := by rw [wD_len, insT_len]
  refine rss_cons (c1 := [(c4 b).c]) (ρ1 := fr S kk (some (.int ((mV b : Nat) : Int))) (some (trD (tB b).1)) (some (LD (rB b))) (some (LD (aB b))) none none none none none none) (rs_set (nw := true) 6 scLaw.nd (re_c0 L.row hr2 (ra_cons (re_var 1) (ra_cons (nw := true) (d := .int ((2 ^ mV b : Nat) : Int)) (re_to (re_callB call_len G.len PySem.boot_len (ra_cons (re_c0 L.inp hr2 (ra_cons (re_var 3) ra_nil) ⟨mV b, rfl, n6, rfl⟩) ra_nil) cv_lenL) (by rw [lenI])) ra_nil)) ⟨c3 b, 2 ^ mV b, rfl, rfl, by omega, rfl⟩)) ?_
  refine rss_cons (c1 := [(c4 b).c]) (ρ1 := fr S kk (some (.int ((mV b : Nat) : Int))) (some (trD (tB b).1)) (some (LD (rB b))) (some (LD (aB b))) (some (.lst ⟨false, true⟩ (wD (insT (mV b))))) none none none none none) (rs_set (nw := false) 7 scLaw.nd (re_c0 L.inp hr2 (ra_cons (re_var 3) ra_nil) ⟨mV b, rfl, n6, rfl⟩)) ?_
  exact turn_rest G L hr hg hn ho hm rl al ri ai
def bgs (b : Bg) : Nat → Bg
  | 0 => b
  | n + 1 => nxB (bgs b n)
theorem low_ints (n : Nat) : ∀ ns : List Int, lowDs n (ns.map D.int) = true
  | [] => rfl
  | a :: r => low_ints n r
theorem law_ok {g : G} {ns : List Int} (G : Glb mg) (L : LawD P w K mg base Cn BT BP BC) (hr : Room 51 (cxL P w K mg base f cdv A outer s H E).A) (hg : (cxL P w K mg base f cdv A outer s H E).A.guards = some []) :
    RSs (cxL P w K mg base f cdv A outer s H E) Wf ⟨[], []⟩ [some (.lst g (ns.map D.int)), none, none, none, none, none, none, none, none, none, none, none, none, none, none] [] (defBody (top 42)) (.rt (.bl true) true []) := by
  refine rso_of (rso_new (g := ⟨true, true⟩) (ds := Bg.ds ⟨ns, 0, 29, 0⟩) (c1 := []) 1 (rn_set (W := Wf) 1 scLaw.nd (re_c0 L.bag (hr.mono (by decide)) (ra_cons (re_var 0) ra_nil) ⟨g, ns, rfl, rfl⟩)) ?_ fun a => ?_)
  · show (lowDs 0 (ns.map D.int) && true) = true
    rw [low_ints]
    rfl
  have l4 : (4 : Int).natAbs.log2 < 9000 := by decide
  have d4 := bagV_in (b := ⟨ns, 0, 29, 0⟩) (show (0 : Int) < 4 by decide)
  let b0 : Bg := bagC ⟨ns, 0, 29, 0⟩ 4
  let S : D := .lst g (ns.map D.int)
  have loop := rs_for_all (X := cxL P w K mg base f cdv A outer s H E) (W := Wf) (p := HD.muts ⟨[], []⟩ [a]) (c := [Bg.c ⟨ns, 0, 29, 0⟩]) (ρ := outR S) (xs := intsD (1 + bagV ⟨ns, 0, 29, 0⟩ 4).toNat) (vs := [2]) (g := gName 2) (body := fBd lF) (tg := fTg lF) (it := fIt lF) (pos := fPs lF)
    (fun _ => outR S) (fun i => fr S (.int ((i : Nat) : Int)) none none none none none none none none none none) (fun i => [(bgs b0 i).c]) PassesOwn.never rfl rfl (ri_range (n := 1 + bagV ⟨ns, 0, 29, 0⟩ 4) G.range (re_bin op_add re_int (re_c0 L.draw (hr.mono (by decide)) (ra_cons (re_var 1) (ra_cons re_int ra_nil)) ⟨4, _, rfl, rfl, by decide, l4, rfl⟩) ov_ii) (by omega) (by omega)) (pg_name (i := 2) scLaw.nd rfl (Or.inl rfl)) (fun i d h => by
      obtain ⟨rfl, _⟩ := intsD_at h
      exact tg_name (by decide)) (fun i d h => turn_ok G L hr hg)
  exact rso_end (so' := .rt (.bl true) true [(bgs b0 (intsD (1 + bagV ⟨ns, 0, 29, 0⟩ 4).toNat).length).c]) 0 (rss_cons loop (rss_ret (rs_ret re_bl))) (.rt rfl rfl) rfl
end
end K56

namespace K56
open PySem PySem.Spec PyProof.Rows L2 LA
/-- all that the end asks of the text -/
structure Txt (K : PySem.W.Frag) : Prop where
  free : ∀ x ∈ (["len", "int", "range", "list", "str", "isinstance", "all", "repr", "min", "max", "zip", "iter", "tuple", "bool", "abs", "sum"] : List Str), PySem.W.nsIn K mainGlobals x = some none
  most : ∃ t, PySem.W.nsIn K mainGlobals "MOST" = some (some (.int 6 t))
  k25 : Gk K "tree_worst" (top 25) [("prices", .non)]
  k26 : Gk K "tree_total" (top 26) [("prices", .non), ("weights", .non)]
  err : ∃ BI Cn BT BP BC Lk : Addr, Ge K "BadInput" "BadInput.__init__" (inClass (top 2) 0) BI ∧
    PySem.W.findIn K (.ref BI) "given" = some none ∧
    Ge K "BadCount" "BadCount.__init__" (inClass (top 3) 0) Cn ∧
    PySem.W.findIn K (.ref Cn) "given" = some none ∧
    Ge K "BadTree" "BadTree.__init__" (inClass (top 4) 0) BT ∧
    PySem.W.findIn K (.ref BT) "given" = some none ∧
    Ge K "BadPrices" "BadPrices.__init__" (inClass (top 5) 0) BP ∧
    PySem.W.findIn K (.ref BP) "given" = some none ∧
    Ge K "BadChances" "BadChances.__init__" (inClass (top 6) 0) BC ∧
    PySem.W.findIn K (.ref BC) "given" = some none ∧
    PySem.W.subIn K (.ref Cn) (.ref Cn) = some true ∧
    PySem.W.subIn K (.ref BT) (.ref Cn) = some false ∧
    PySem.W.subIn K (.ref BT) (.ref BT) = some true ∧
    PySem.W.subIn K (.ref BP) (.ref Cn) = some false ∧
    PySem.W.subIn K (.ref BP) (.ref BT) = some false ∧
    PySem.W.subIn K (.ref BP) (.ref BP) = some true ∧
    PySem.W.subIn K (.ref BC) (.ref Cn) = some false ∧
    PySem.W.subIn K (.ref BC) (.ref BT) = some false ∧
    PySem.W.subIn K (.ref BC) (.ref BP) = some false ∧
    PySem.W.subIn K (.ref BC) (.ref BC) = some true ∧
    PySem.W.nsIn K mainGlobals "LooksError" = some (some (.ref Lk))
  c12 : Gd K "check_count" (top 12) 6
  f9 : Gf K "is_whole" (top 9)
  f10 : Gf K "is_position" (top 10)
  f11 : Gf K "are_amounts" (top 11)
  f14 : Gf K "is_input" (top 14)
  f15 : Gf K "inputs" (top 15)
  f16 : Gf K "_is_word" (top 16)
  f17 : Gf K "_words" (top 17)
  f19 : Gf K "looked" (top 19)
  f20 : Gf K "check_tree" (top 20)
  f21 : Gf K "_is_tree" (top 21)
  f22 : Gf K "_check_way" (top 22)
  f23 : Gf K "_gone" (top 23)
  f27 : Gf K "_prices" (top 27)
  f28 : Gf K "_weights" (top 28)
  f29 : Gf K "_costs" (top 29)
  f31 : Gf K "_law_bag" (top 31)
  f32 : Gf K "_law_draw" (top 32)
  f33 : Gf K "_law_pick" (top 33)
  f34 : Gf K "_law_strings" (top 34)
  f35 : Gf K "_law_inputs" (top 35)
  f36 : Gf K "_law_path" (top 36)
  f37 : Gf K "_law_row" (top 37)
  f38 : Gf K "_law_path_cost" (top 38)
  f39 : Gf K "_law_any_tree" (top 39)
  f40 : Gf K "_law_told" (top 40)
  f41 : Gf K "_law_refused" (top 41)
  f42 : Gf K "law" (top 42)
section
variable {P : Program} {w : World} {K : PySem.W.Frag} {mg : Str → Option Value} {base h : Heap}
theorem runL {fa : Addr} (T : Txt K) (X : K.In h) (G : h.Ns mainGlobals mg) (hfa : mg "law" = some (.ref fa)) {s0 : Shared} {H : Hp} {a : Addr} {ns : List Int} (e0 : Env0 P w K mg base callerA [] s0 H) (sq : SqL K H a (ns.map V.int)) (hl : ns.length ≤ 63) :
    codeAny (model P w) callerA (.call (.ref fa) ⟨[.ref a], []⟩) (CR CX0 [] P w H s0 (fun v _ => v = .bl true) fun _ _ _ => False) s0 := by
  have fr := fun x (m : x ∈ (["len", "int", "range", "list", "str", "isinstance", "all", "repr", "min", "max", "zip", "iter", "tuple", "bool", "abs", "sum"] : List Str)) => PySem.W.mg_none_of X G (T.free x m)
  have Gb : Glb mg := ⟨fr "len" (by decide), fr "int" (by decide), fr "range" (by decide), fr "list" (by decide), fr "str" (by decide), fr "isinstance" (by decide), fr "all" (by decide), fr "repr" (by decide), fr "min" (by decide), fr "max" (by decide), fr "zip" (by decide), fr "iter" (by decide), fr "tuple" (by decide), fr "bool" (by decide), fr "abs" (by decide), fr "sum" (by decide)⟩
  obtain ⟨tkM, hM⟩ := T.most
  have hM := PySem.W.mg_of X G hM
  obtain ⟨BI, Cn, BT, BP, BC, Lk, gI, ngI_given, gN, ngN_given, gT, ngT_given, gR, ngR_given, gC, ngC_given, sNN, sTN, sTT, sRN, sRT, sRR, sCN, sCT, sCR, sCC, aL⟩ := T.err
  have E_gI : Err1 P w K mg base "BadInput" "given" BI := err1 X G gI ngI_given ⟨rfl, rfl, rfl, by decide +kernel, rfl, by decide +kernel, by decide +kernel⟩ rfl (by decide) (by decide) fun _ _ _ _ _ _ us hl => match us, hl with | [_, _], _ => rfl
  have E_gN : Err1 P w K mg base "BadCount" "given" Cn := err1 X G gN ngN_given ⟨rfl, rfl, rfl, by decide +kernel, rfl, by decide +kernel, by decide +kernel⟩ rfl (by decide) (by decide) fun _ _ _ _ _ _ us hl => match us, hl with | [_, _], _ => rfl
  have E_gT : Err1 P w K mg base "BadTree" "given" BT := err1 X G gT ngT_given ⟨rfl, rfl, rfl, by decide +kernel, rfl, by decide +kernel, by decide +kernel⟩ rfl (by decide) (by decide) fun _ _ _ _ _ _ us hl => match us, hl with | [_, _], _ => rfl
  have E_gR : Err1 P w K mg base "BadPrices" "given" BP := err1 X G gR ngR_given ⟨rfl, rfl, rfl, by decide +kernel, rfl, by decide +kernel, by decide +kernel⟩ rfl (by decide) (by decide) fun _ _ _ _ _ _ us hl => match us, hl with | [_, _], _ => rfl
  have E_gC : Err1 P w K mg base "BadChances" "given" BC := err1 X G gC ngC_given ⟨rfl, rfl, rfl, by decide +kernel, rfl, by decide +kernel, by decide +kernel⟩ rfl (by decide) (by decide) fun _ _ _ _ _ _ us hl => match us, hl with | [_, _], _ => rfl
  have mL := PySem.W.mg_of X G aL
  have XF : ExF K Cn BT BP BC := ⟨PySem.W.exm_ref gN.xf.exC gN.xf.hdC gN.ox.tyC sNN, PySem.W.exm_ref gN.xf.exC gN.xf.hdC gN.ox.tyC sTN, PySem.W.exm_ref gT.xf.exC gT.xf.hdC gT.ox.tyC sTT, PySem.W.exm_ref gN.xf.exC gN.xf.hdC gN.ox.tyC sRN, PySem.W.exm_ref gT.xf.exC gT.xf.hdC gT.ox.tyC sRT, PySem.W.exm_ref gR.xf.exC gR.xf.hdC gR.ox.tyC sRR, PySem.W.exm_ref gN.xf.exC gN.xf.hdC gN.ox.tyC sCN, PySem.W.exm_ref gT.xf.exC gT.xf.hdC gT.ox.tyC sCT, PySem.W.exm_ref gR.xf.exC gR.xf.hdC gR.ox.tyC sCR, PySem.W.exm_ref gC.xf.exC gC.xf.hdC gC.ox.tyC sCC⟩
  have D32 : BdrawD P w K mg base := def0 X G T.f32 (fun f fd F => ok_bdraw Gb F) fun _ _ _ _ _ _ us hl => match us, hl with | [_, _], _ => rfl
  have D31 : BagD P w K mg base := def0 X G T.f31 (fun f fd F => ok_bag Gb F) fun _ _ _ _ _ _ us hl => match us, hl with | [_], _ => rfl
  have D16 : WordD P w K mg base := def0 X G T.f16 (fun f fd F => ok_word Gb hM F) fun _ _ _ _ _ _ us hl => match us, hl with | [_, _], _ => rfl
  have D14 : IsInD P w K mg base := def0 X G T.f14 (fun f fd F => ok_isIn D16 F) fun _ _ _ _ _ _ us hl => match us, hl with | [_], _ => rfl
  have D9 : WholeD P w K mg base := def0 X G T.f9 (fun f fd F => ok_whole Gb F) fun _ _ _ _ _ _ us hl => match us, hl with | [_], _ => rfl
  have D10 : PosD P w K mg base := def0 X G T.f10 (fun f fd F => ok_pos D9 F) fun _ _ _ _ _ _ us hl => match us, hl with | [_, _], _ => rfl
  have D17 : WordsD P w K mg base := def0 X G T.f17 (fun f fd F => ok_words F) fun _ _ _ _ _ _ us hl => match us, hl with | [_], _ => rfl
  have D11 : AmD P w K mg base := def0 X G T.f11 (fun f fd F => ok_am Gb D9 F) fun _ _ _ _ _ _ us hl => match us, hl with | [_, _], _ => rfl
  have D12 : CntD P w K mg base Cn := by
    obtain ⟨f, fd, a8, F⟩ := T.c12.ex
    obtain ⟨ds, v8, b8⟩ := F.binds1 (ps := ["many", "most"]) 1 0 (by simp) rfl fun T kV doc pm an cdv ct us its h1 h2 => match us, its, h1, h2 with | [_], [_], _, _ => ⟨_, rfl, rfl⟩
    exact ⟨⟨f, fd, ds, ok_cnt D10 E_gN F, PySem.W.mg_of X G a8, F.kp, v8, b8⟩⟩
  have D15 : AllD P w K mg base Cn "inputs" bins := def1 X G T.f15 (fun f fd F => ok_inputs D12 D17 F) fun _ _ _ _ _ _ us hl => match us, hl with | [_], _ => rfl
  have D21 : Def0 P w K mg base 43 "_is_tree" ["value", "many"] (isTR 40) := by
    obtain ⟨f1, fd1, a1, F1⟩ := T.f21.ex
    have hm := PySem.W.mg_of X G a1
    have hb := F1.binds (ps := ["value", "many"]) (fun _ _ _ _ _ _ us hl => match us, hl with | [_, _], _ => rfl)
    exact ⟨⟨f1, fd1, ok_isT Gb D10 F1 hm hb 40, hm, F1.kp, hb⟩⟩
  have D20 : CkD P w K mg base BT := def1 X G T.f20 (fun f fd F => ok_ck D21 E_gT F) fun _ _ _ _ _ _ us hl => match us, hl with | [_, _], _ => rfl
  have D22 : CwD P w K mg base BI BT := def1 X G T.f22 (fun f fd F => ok_cw Gb D14 D20 E_gI F) fun _ _ _ _ _ _ us hl => match us, hl with | [_, _], _ => rfl
  have D23 : GoneD P w K mg base := def0 X G T.f23 (fun f fd F => ok_gone Gb F) fun _ _ _ _ _ _ us hl => match us, hl with | [_, _], _ => rfl
  have D19 : LkD P w K mg base BI BT := def1 X G T.f19 (fun f fd F => ok_lk D22 D23 F) fun _ _ _ _ _ _ us hl => match us, hl with | [_, _], _ => rfl
  have D27 : PrD P w K mg base BP := def1 X G T.f27 (fun f fd F => ok_pr Gb D11 E_gR F) fun _ _ _ _ _ _ us hl => match us, hl with | [_, _], _ => rfl
  have D28 : WtD P w K mg base BC := def1 X G T.f28 (fun f fd F => ok_wt Gb D11 D15 E_gC F) fun _ _ _ _ _ _ us hl => match us, hl with | [_, _], _ => rfl
  have D29 : CoD P w K mg base := def0 X G T.f29 (fun f fd F => ok_co Gb D19 D15 F) fun _ _ _ _ _ _ us hl => match us, hl with | [_, _, _], _ => rfl
  obtain ⟨f5, fd5, a5, F5⟩ := T.k25.ex
  obtain ⟨f6, fd6, a6, F6⟩ := T.k26.ex
  have m5 := PySem.W.mg_of X G a5
  have m6 := PySem.W.mg_of X G a6
  have W5 := ok_ws (f := f5) (fd := fd5) Gb D12 D20 D27 D29 F5
  have W6 := ok_to (f := f6) (fd := fd6) Gb D12 D20 D27 D28 D29 F6
  have Dw1 : Def1D P w K mg base 48 "tree_worst" ["tree", "many", "prices"] (wsR Cn BT BP) [.non] := by
    obtain ⟨ds, v, b⟩ := F5.binds0 (ps := ["tree", "many", "prices"]) 2 (by simp) rfl fun D doc pm an cdv ct us ks h1 h2 => match us, ks, h1, h2 with | [_, _], [_], _, _ => ⟨_, _, _, _, _, _, rfl, rfl, rfl⟩
    exact ⟨⟨f5, fd5, ds, W5, m5, F5.kp, v, b⟩⟩
  have Dt1 : Def1D P w K mg base 48 "tree_total" ["tree", "many", "prices", "weights"] (toR Cn BT BP BC) [.non, .non] := by
    obtain ⟨ds, v, b⟩ := F6.binds0 (ps := ["tree", "many", "prices", "weights"]) 2 (by simp) rfl fun D doc pm an cdv ct us ks h1 h2 => match us, ks, h1, h2 with | [_, _], [_, _], _, _ => ⟨_, _, _, _, _, _, rfl, rfl, _, _, _, _, _, _, rfl, rfl, rfl⟩
    exact ⟨⟨f6, fd6, ds, W6, m6, F6.kp, v, b⟩⟩
  have Dwk : WsK P w K mg base Cn BT BP := ⟨⟨f5, fd5, W5, m5, F5.kp, FunD.kbinds0 F5 2 ["prices"] [] app2 app2V (by simp) (fun q h => nomatch h) vals_app (fun D doc pm an cdv ct us ws h1 h2 => match us, ws, h1, h2 with | [_, _], [_], _, _ => rfl)⟩⟩
  have Dtk : ToK P w K mg base Cn BT BP BC := ⟨⟨f6, fd6, W6, m6, F6.kp, FunD.kbinds0 F6 2 ["weights", "prices"] [] appR appRV (by simp) (fun q h => nomatch h) (fun h1 h2 => vals_app h1 (vals_rev h2)) (fun D doc pm an cdv ct us ws h1 h2 => match us, ws, h1, h2 with | [_, _], [_, _], _, _ => rfl)⟩⟩
  have Dtp : Def1K P w K mg base 48 "tree_total" ["tree", "many", "prices", "weights"] (toR Cn BT BP BC) 2 ["prices"] gP gPV := ⟨⟨f6, fd6, W6, m6, F6.kp, FunD.kbinds0 F6 2 ["prices"] ["weights"] gP gPV (by simp) (fun q h => by simp at h; rw [h]; simp) (fun h1 h2 => vals_app (vals_app h1 h2) (.cons rfl .nil)) (fun D doc pm an cdv ct us ws h1 h2 => match us, ws, h1, h2 with | [_, _], [_], _, _ => ⟨_, _, _, _, _, _, rfl, rfl, rfl⟩)⟩⟩
  have Dtw : Def1K P w K mg base 48 "tree_total" ["tree", "many", "prices", "weights"] (toR Cn BT BP BC) 2 ["weights"] gW gWV := ⟨⟨f6, fd6, W6, m6, F6.kp, FunD.kbinds0 F6 2 ["weights"] ["prices"] gW gWV (by simp) (fun q h => by simp at h; rw [h]; simp) (fun h1 h2 => vals_app (vals_app h1 (.cons rfl .nil)) h2) (fun D doc pm an cdv ct us ws h1 h2 => match us, ws, h1, h2 with | [_, _], [_], _, _ => ⟨_, _, _, _, _, _, rfl, rfl, rfl⟩)⟩⟩
  have D33 : PickD P w K mg base := def0 X G T.f33 (fun f fd F => ok_pick Gb D32 F) fun _ _ _ _ _ _ us hl => match us, hl with | [_, _], _ => rfl
  have D34 : StrD P w K mg base := def0 X G T.f34 (fun f fd F => ok_str Gb F) fun _ _ _ _ _ _ us hl => match us, hl with | [_, _], _ => rfl
  have D35 : InD P w K mg base := def0 X G T.f35 (fun f fd F => ok_in D34 F) fun _ _ _ _ _ _ us hl => match us, hl with | [_], _ => rfl
  have D36 : PaD P w K mg base := def0 X G T.f36 (fun f fd F => ok_pa Gb F) fun _ _ _ _ _ _ us hl => match us, hl with | [_, _], _ => rfl
  have D37 : RowD P w K mg base := def0 X G T.f37 (fun f fd F => ok_row Gb D32 F) fun _ _ _ _ _ _ us hl => match us, hl with | [_, _], _ => rfl
  have D38 : PcD P w K mg base := def0 X G T.f38 (fun f fd F => ok_pc Gb D36 F) fun _ _ _ _ _ _ us hl => match us, hl with | [_, _, _], _ => rfl
  have D39 : ∀ r, Def0 P w K mg base (r + 2) "_law_any_tree" ["_law_bag_here", "_law_many", "_law_room"] (anR r) := by
    obtain ⟨f1, fd1, a1, F1⟩ := T.f39.ex
    have hm := PySem.W.mg_of X G a1
    have hb := F1.binds (ps := ["_law_bag_here", "_law_many", "_law_room"]) (fun _ _ _ _ _ _ us hl => match us, hl with | [_, _, _], _ => rfl)
    exact fun r => ⟨⟨f1, fd1, ok_any D32 F1 hm hb r, hm, F1.kp, hb⟩⟩
  have D40 : ToldD P w K mg base Cn BT BP BC := def0 X G T.f40 (fun f fd F => ok_told E_gN E_gT E_gR E_gC XF mL Dwk Dtk F) fun _ _ _ _ _ _ us hl => match us, hl with | [_, _, _, _, _], _ => rfl
  have D41 : RfG P w K mg base := by
    obtain ⟨f1, fd1, a1, F1⟩ := T.f41.ex
    exact ⟨⟨f1, fd1, ok_rf Gb D33 D40 F1, PySem.W.mg_of X G a1, F1.kp, F1.binds (ps := ["_law_bag_here", "_law_tree", "_law_many", "_law_row_here", "_law_amounts"]) (fun _ _ _ _ _ _ us hl => match us, hl with | [_, _, _, _, _], _ => rfl)⟩⟩
  have LDd : LawD P w K mg base Cn BT BP BC := ⟨D31, D32, D39, D37, D35, D36, D38, D40, D41, Dw1, Dt1, Dtp, Dtw⟩
  obtain ⟨f, fd, aF, F⟩ := T.f42.ex
  cases hfa.symm.trans (PySem.W.mg_of X G aF)
  have bd : BindsTo s0 fd ⟨[.ref a], []⟩ ((["_law_script"] : List Str).zip [.ref a]) := by
    obtain ⟨oc, od, kV, doc, pm, an, cdv, ct, osl, rfl, _⟩ := F.ex
    exact .of_eq rfl
  refine call_at (k := 51) (vs := [.ref a]) F scLaw ⟨rfl, by decide, by decide⟩ e0 bd (.cons rfl .nil) rfl fun cdv hr => ?_
  refine ⟨_, (law_ok (f := fa) (cdv := cdv) (A := callerA) (outer := []) (s := s0) (H := H) (E := fun _ _ _ => False) (g := ⟨false, false⟩) (ns := ns) Gb LDd hr rfl).nox, ?_, fun v H1 e1 p1 dv _ => ?_⟩
  · exact sr_start (N := nLaw) (dvs_script sq) pool_none
  · cases dv
    rfl
end
theorem walkL {l : PySem.W.OpenLaw} {q : Program} {loose : List Str} {XP : (Str → Option Value) → Heap → Prop} {YP : World → Heap → Prop} {d : DefRec} {K : Params → PySem.W.Frag} (hn : l.most = some 63) (hdf : d.params.defaults = []) (hd : d.name = "law")
    (hY : ∀ (w : World) (h : Heap), YP w h → (K w.params).In h) (F : ∀ w : World, Txt (K w.params)) : PySem.W.WalkO q loose XP YP l.row.toRowW d [] (fun f vs => PySem.call f vs) := by
  refine Att.attach_call hn hdf fun w s₀ s₁ mg mb fa o pm cd doc a vs ns G Y ho hd' hcd hmg hobj hints hlen hg => ?_
  have KX := hY w _ Y
  rw [hd] at hmg
  exact law_at KX G.T.g G.T.b G.T.builtins G.T.nolimit hg hobj hints (Nat.le_trans hlen (by decide)) fun base H _ _ e0 sq => runL (F w) KX G.T.g hmg e0 sq hlen
end K56

open PySem PySem.W PyProof.Rows
set_option maxRecDepth 100000 in
set_option maxHeartbeats 0 in
theorem PySem.Challenge.cw_leastlooks_k56_costs_of_trees_holds : PySem.Challenge.rw_leastlooks_k56_costs_of_trees.Holds := by
  w_on; o_law; k_head; (case hw => w_witness2)
  k_fill
  refine K56.walkL (l := PySem.Challenge.rw_leastlooks_k56_costs_of_trees) rfl rfl rfl (fun w h Y => PySem.W.kIn_of Y) ?F
  case F =>
    intro w
    refine' ⟨?free, ?most, ?k25, ?k26, ?err, ?c12, ?f9, ?f10, ?f11, ?f14, ?f15, ?f16, ?f17, ?f19, ?f20, ?f21, ?f22, ?f23, ?f27, ?f28, ?f29, ?f31, ?f32, ?f33, ?f34, ?f35, ?f36, ?f37, ?f38, ?f39, ?f40, ?f41, ?f42⟩
    case free =>
      intro x hx
      simp only [List.mem_cons, List.not_mem_nil, or_false] at hx
      rcases hx with rfl | rfl | rfl | rfl | rfl | rfl | rfl | rfl | rfl | rfl | rfl | rfl | rfl | rfl | rfl | rfl
      all_goals k_is
    case most => exact ⟨_, by k_is⟩
    case k25 => 
      refine' LA.gk1_mk ?a ?l ?n1 ?c ?k
      (case a => k_is); (case l => k_is); (case n1 => k_is); (case c => k_is); (case k => k_is)
    case k26 => 
      refine' LA.gk2_mk ?a ?l ?n1 ?n2 ?c ?k
      (case a => k_is); (case l => k_is); (case n1 => k_is); (case n2 => k_is); (case c => k_is); (case k => k_is)
    case err =>
      refine' ⟨_, _, _, _, _, _, LA.ge_mk ?gI1 ?gI2 ?gI3 ?gI4 ?gI5 ?gI6 ?gI7 ?gI8 ?gI9 ?gI10 ?gI11 ?gI12 ?gI13 ?gI14 ?gI15, LA.fac ?ngI_given, LA.ge_mk ?gN1 ?gN2 ?gN3 ?gN4 ?gN5 ?gN6 ?gN7 ?gN8 ?gN9 ?gN10 ?gN11 ?gN12 ?gN13 ?gN14 ?gN15, LA.fac ?ngN_given, LA.ge_mk ?gT1 ?gT2 ?gT3 ?gT4 ?gT5 ?gT6 ?gT7 ?gT8 ?gT9 ?gT10 ?gT11 ?gT12 ?gT13 ?gT14 ?gT15, LA.fac ?ngT_given, LA.ge_mk ?gR1 ?gR2 ?gR3 ?gR4 ?gR5 ?gR6 ?gR7 ?gR8 ?gR9 ?gR10 ?gR11 ?gR12 ?gR13 ?gR14 ?gR15, LA.fac ?ngR_given, LA.ge_mk ?gC1 ?gC2 ?gC3 ?gC4 ?gC5 ?gC6 ?gC7 ?gC8 ?gC9 ?gC10 ?gC11 ?gC12 ?gC13 ?gC14 ?gC15, LA.fac ?ngC_given, LA.fac ?sNN, LA.fac ?sTN, LA.fac ?sTT, LA.fac ?sRN, LA.fac ?sRT, LA.fac ?sRR, LA.fac ?sCN, LA.fac ?sCT, LA.fac ?sCR, LA.fac ?sCC, LA.gn_mk ?aL⟩
      (case gI1 => k_is)
      (case gI2 => k_is)
      (case gI3 => decide +kernel)
      (case gI4 => k_is)
      (case gI5 => k_is)
      (case gI6 => k_is)
      (case gI7 => k_is)
      (case gI8 => k_is)
      (case gI9 => k_is)
      (case gI10 => k_is)
      (case gI11 => k_is)
      (case gI12 => k_is)
      (case gI13 => k_is)
      (case gI14 => k_is)
      (case gI15 => k_is)
      (case ngI_given => k_is)
      (case gN1 => k_is)
      (case gN2 => k_is)
      (case gN3 => decide +kernel)
      (case gN4 => k_is)
      (case gN5 => k_is)
      (case gN6 => k_is)
      (case gN7 => k_is)
      (case gN8 => k_is)
      (case gN9 => k_is)
      (case gN10 => k_is)
      (case gN11 => k_is)
      (case gN12 => k_is)
      (case gN13 => k_is)
      (case gN14 => k_is)
      (case gN15 => k_is)
      (case ngN_given => k_is)
      (case gT1 => k_is)
      (case gT2 => k_is)
      (case gT3 => decide +kernel)
      (case gT4 => k_is)
      (case gT5 => k_is)
      (case gT6 => k_is)
      (case gT7 => k_is)
      (case gT8 => k_is)
      (case gT9 => k_is)
      (case gT10 => k_is)
      (case gT11 => k_is)
      (case gT12 => k_is)
      (case gT13 => k_is)
      (case gT14 => k_is)
      (case gT15 => k_is)
      (case ngT_given => k_is)
      (case gR1 => k_is)
      (case gR2 => k_is)
      (case gR3 => decide +kernel)
      (case gR4 => k_is)
      (case gR5 => k_is)
      (case gR6 => k_is)
      (case gR7 => k_is)
      (case gR8 => k_is)
      (case gR9 => k_is)
      (case gR10 => k_is)
      (case gR11 => k_is)
      (case gR12 => k_is)
      (case gR13 => k_is)
      (case gR14 => k_is)
      (case gR15 => k_is)
      (case ngR_given => k_is)
      (case gC1 => k_is)
      (case gC2 => k_is)
      (case gC3 => decide +kernel)
      (case gC4 => k_is)
      (case gC5 => k_is)
      (case gC6 => k_is)
      (case gC7 => k_is)
      (case gC8 => k_is)
      (case gC9 => k_is)
      (case gC10 => k_is)
      (case gC11 => k_is)
      (case gC12 => k_is)
      (case gC13 => k_is)
      (case gC14 => k_is)
      (case gC15 => k_is)
      (case ngC_given => k_is)
      (case sNN => first | rfl | k_is)
      (case sTN => first | rfl | k_is)
      (case sTT => first | rfl | k_is)
      (case sRN => first | rfl | k_is)
      (case sRT => first | rfl | k_is)
      (case sRR => first | rfl | k_is)
      (case sCN => first | rfl | k_is)
      (case sCT => first | rfl | k_is)
      (case sCR => first | rfl | k_is)
      (case sCC => first | rfl | k_is)
      (case aL => k_is)
    case c12 =>
      refine' LA.gd_mk ?a ?l ?lT ?c ?k
      (case a => k_is); (case l => k_is); (case lT => k_is); (case c => k_is); (case k => k_is)
    case f9 =>
      refine' LA.gf_mk ?a ?l ?c ?k
      (case a => k_is); (case l => k_is); (case c => k_is); (case k => k_is)
    case f10 =>
      refine' LA.gf_mk ?a ?l ?c ?k
      (case a => k_is); (case l => k_is); (case c => k_is); (case k => k_is)
    case f11 =>
      refine' LA.gf_mk ?a ?l ?c ?k
      (case a => k_is); (case l => k_is); (case c => k_is); (case k => k_is)
    case f14 =>
      refine' LA.gf_mk ?a ?l ?c ?k
      (case a => k_is); (case l => k_is); (case c => k_is); (case k => k_is)
    case f15 =>
      refine' LA.gf_mk ?a ?l ?c ?k
      (case a => k_is); (case l => k_is); (case c => k_is); (case k => k_is)
    case f16 =>
      refine' LA.gf_mk ?a ?l ?c ?k
      (case a => k_is); (case l => k_is); (case c => k_is); (case k => k_is)
    case f17 =>
      refine' LA.gf_mk ?a ?l ?c ?k
      (case a => k_is); (case l => k_is); (case c => k_is); (case k => k_is)
    case f19 =>
      refine' LA.gf_mk ?a ?l ?c ?k
      (case a => k_is); (case l => k_is); (case c => k_is); (case k => k_is)
    case f20 =>
      refine' LA.gf_mk ?a ?l ?c ?k
      (case a => k_is); (case l => k_is); (case c => k_is); (case k => k_is)
    case f21 =>
      refine' LA.gf_mk ?a ?l ?c ?k
      (case a => k_is); (case l => k_is); (case c => k_is); (case k => k_is)
    case f22 =>
      refine' LA.gf_mk ?a ?l ?c ?k
      (case a => k_is); (case l => k_is); (case c => k_is); (case k => k_is)
    case f23 =>
      refine' LA.gf_mk ?a ?l ?c ?k
      (case a => k_is); (case l => k_is); (case c => k_is); (case k => k_is)
    case f27 =>
      refine' LA.gf_mk ?a ?l ?c ?k
      (case a => k_is); (case l => k_is); (case c => k_is); (case k => k_is)
    case f28 =>
      refine' LA.gf_mk ?a ?l ?c ?k
      (case a => k_is); (case l => k_is); (case c => k_is); (case k => k_is)
    case f29 =>
      refine' LA.gf_mk ?a ?l ?c ?k
      (case a => k_is); (case l => k_is); (case c => k_is); (case k => k_is)
    case f31 =>
      refine' LA.gf_mk ?a ?l ?c ?k
      (case a => k_is); (case l => k_is); (case c => k_is); (case k => k_is)
    case f32 =>
      refine' LA.gf_mk ?a ?l ?c ?k
      (case a => k_is); (case l => k_is); (case c => k_is); (case k => k_is)
    case f33 =>
      refine' LA.gf_mk ?a ?l ?c ?k
      (case a => k_is); (case l => k_is); (case c => k_is); (case k => k_is)
    case f34 =>
      refine' LA.gf_mk ?a ?l ?c ?k
      (case a => k_is); (case l => k_is); (case c => k_is); (case k => k_is)
    case f35 =>
      refine' LA.gf_mk ?a ?l ?c ?k
      (case a => k_is); (case l => k_is); (case c => k_is); (case k => k_is)
    case f36 =>
      refine' LA.gf_mk ?a ?l ?c ?k
      (case a => k_is); (case l => k_is); (case c => k_is); (case k => k_is)
    case f37 =>
      refine' LA.gf_mk ?a ?l ?c ?k
      (case a => k_is); (case l => k_is); (case c => k_is); (case k => k_is)
    case f38 =>
      refine' LA.gf_mk ?a ?l ?c ?k
      (case a => k_is); (case l => k_is); (case c => k_is); (case k => k_is)
    case f39 =>
      refine' LA.gf_mk ?a ?l ?c ?k
      (case a => k_is); (case l => k_is); (case c => k_is); (case k => k_is)
    case f40 =>
      refine' LA.gf_mk ?a ?l ?c ?k
      (case a => k_is); (case l => k_is); (case c => k_is); (case k => k_is)
    case f41 =>
      refine' LA.gf_mk ?a ?l ?c ?k
      (case a => k_is); (case l => k_is); (case c => k_is); (case k => k_is)
    case f42 =>
      refine' LA.gf_mk ?a ?l ?c ?k
      (case a => k_is); (case l => k_is); (case c => k_is); (case k => k_is)

