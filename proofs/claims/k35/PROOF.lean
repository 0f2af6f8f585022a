import PyProof.Rows.All
import Wide.All
import OpenK.AllK
import Wide.FinOn
import HandS.ForMost
import HandS.ForExc
import HandS.TryMany
import HandS.ExcInit
import HandS.ExcField
import HandS.CallSlots
import HandS.IsInst
import HandS.Defaults
import HandS.Iter
import HandS.Text
import HandS.Conv
import KE.GoesNew
import KE.GoesEnum
import HandS.RaiseMore
import HandS.EndBits
import PyProof.EnumMake
import HandS.SetFor
import HandS.TupSets
import HandS.ExcIs
import PySem.Challenge.RW_leastlooks_k35_trees_gone_along
import HandS.Property
import HandS.Star
import HandS.IterVal
import HandS.IntHex
import HandS.OwnIter
import KE.KIndexOf
import HandS.Codes
import PyProof.Rows.RegReprOcc
import PyProof.P3Eq
import HandS.ClsMeth
import HandS.WideBits
import HandS.FStr
import HandS.Wide
import HandS.Gcd
import HandS.TupAny
import PyProof.FitsInt
set_option Elab.async false
set_option linter.all false
set_option maxRecDepth 100000
set_option maxHeartbeats 4000000
/-! A layer of outcomes over data: what an expression is worth, what a statement does. -/
namespace LA
open PySem PySem.Spec PyProof.Rows L2

/-- of a list: it is not the run's own, it is one that may be written -/
structure G where
  s : Bool
  t : Bool
inductive D where
  | non | bl (b : Bool) | int (i : Int) | str (s : Str) | lst (g : G) (xs : List D) | tup (xs : List D) | dct (kvs : List (Key × D)) | mut (i : Nat) | ty (n : String) | cls (a : Addr) | exn (a dx : Addr) (fs : List (Str × D)) | obj (C : Addr) (fs : List (Str × D))

/-- what an object that changes holds -/
inductive Cell where
  | lst (ds : List D) | ins (C : Addr) (fs : List (Str × D)) | dct (kvs : List (Key × D)) | gone
abbrev PC := List Cell

/-- what is out of sight: what changes, and lists that are being filled -/
structure HD where
  m : List Addr
  z : List Addr
def HD.hid (p : HD) (a : Addr) : Prop := a ∈ p.m ∨ a ∈ p.z
instance (p : HD) (a : Addr) : Decidable (p.hid a) := by unfold HD.hid; infer_instance
def HD.also (p : HD) (a : Addr) : HD := ⟨p.m, a :: p.z⟩
def HD.mut (p : HD) (a : Addr) : HD := ⟨p.m ++ [a], p.z⟩
def HD.flat (p : HD) : HD := ⟨[], p.m ++ p.z⟩
def hide (p : HD) (H : Hp) : Hp := fun a => if p.hid a then none else H a
theorem hide_ne {p : HD} {H : Hp} {a : Addr} (h : ¬ p.hid a) : hide p H a = H a := if_neg h
theorem hide_some {p : HD} {H : Hp} {a : Addr} {o : HO} (h : hide p H a = some o) : H a = some o ∧ ¬ p.hid a := by
  unfold hide at h
  split at h
  · cases h
  · rename_i q
    exact ⟨h, q⟩
/-- what is tracked, the changing things aside, stays -/
def Ext (p : HD) (H H' : Hp) : Prop := ∀ a o, a ∉ p.m → H a = some o → H' a = some o
theorem Ext.refl (p : HD) (H : Hp) : Ext p H H := fun _ _ _ h => h
theorem Ext.trans {p : HD} {H H1 H2 : Hp} (a : Ext p H H1) (b : Ext p H1 H2) : Ext p H H2 := fun x o n h => b x o n (a x o n h)
theorem Ext.new {p : HD} {H : Hp} {a : Addr} {o : HO} (h : H a = none) : Ext p H (upd H a o) := fun b u _ e => by
  rw [upd_ne (ne_of_none e h)]
  exact e
theorem Ext.hide {p : HD} {H H' : Hp} (e : Ext p H H') : ∀ a o, LA.hide p H a = some o → LA.hide p H' a = some o := fun a o h => by
  obtain ⟨h1, h2⟩ := hide_some h
  rw [hide_ne h2]
  exact e a o (fun z => h2 (.inl z)) h1
theorem hide_flat (p : HD) (H : Hp) : hide p.flat H = hide p H := funext fun a => by
  unfold hide
  by_cases h : p.hid a
  · rw [if_pos h, if_pos (show p.flat.hid a from .inr (List.mem_append.mpr h))]
  · rw [if_neg h, if_neg (show ¬ p.flat.hid a from fun q => q.elim (fun z => nomatch z) fun z => h (List.mem_append.mp z))]
theorem Ext.sqL {K : PySem.W.Frag} {p : HD} {H H' : Hp} {a : Addr} {xs : List V} (e : Ext p H H') (h : SqL K (LA.hide p H) a xs) : SqL K (LA.hide p H') a xs := by
  rcases h with (h | ⟨o, h⟩) | h
  · exact .inl (.inl (e.hide _ _ h))
  · exact .inl (.inr ⟨o, e.hide _ _ h⟩)
  · exact .inr h
theorem Ext.sqT {K : PySem.W.Frag} {p : HD} {H H' : Hp} {a : Addr} {xs : List V} (e : Ext p H H') (h : SqT K (LA.hide p H) a xs) : SqT K (LA.hide p H') a xs := by
  rcases h with (h | ⟨o, h⟩) | h
  · exact .inl (.inl (e.hide _ _ h))
  · exact .inl (.inr ⟨o, e.hide _ _ h⟩)
  · exact .inr h
theorem Ext.rd {p : HD} {H H' : Hp} {a : Addr} {u : HO} (e : Ext p H H') (h : Rd (LA.hide p H) a u) : Rd (LA.hide p H') a u := by
  rcases h with h | ⟨o, h⟩
  · exact .inl (e.hide _ _ h)
  · exact .inr ⟨o, e.hide _ _ h⟩
theorem un_sqL {K : PySem.W.Frag} {p : HD} {H : Hp} {a : Addr} {xs : List V} (h : SqL K (hide p H) a xs) : SqL K H a xs := by
  rcases h with (h | ⟨o, h⟩) | h
  · exact .inl (.inl (hide_some h).1)
  · exact .inl (.inr ⟨o, (hide_some h).1⟩)
  · exact .inr h
theorem un_sqT {K : PySem.W.Frag} {p : HD} {H : Hp} {a : Addr} {xs : List V} (h : SqT K (hide p H) a xs) : SqT K H a xs := by
  rcases h with (h | ⟨o, h⟩) | h
  · exact .inl (.inl (hide_some h).1)
  · exact .inl (.inr ⟨o, (hide_some h).1⟩)
  · exact .inr h
theorem un_rd {p : HD} {H : Hp} {a : Addr} {u : HO} (h : Rd (hide p H) a u) : Rd H a u := by
  rcases h with h | ⟨o, h⟩
  · exact .inl (hide_some h).1
  · exact .inr ⟨o, (hide_some h).1⟩
/-- one map of what is in sight is within another -/
def Sub (G G' : Hp) : Prop := ∀ a o, G a = some o → G' a = some o
theorem Sub.sqL {K : PySem.W.Frag} {H H' : Hp} {a : Addr} {xs : List V} (e : Sub H H') (h : SqL K H a xs) : SqL K H' a xs := by
  rcases h with (h | ⟨o, h⟩) | h
  · exact .inl (.inl (e _ _ h))
  · exact .inl (.inr ⟨o, e _ _ h⟩)
  · exact .inr h
theorem Sub.sqT {K : PySem.W.Frag} {H H' : Hp} {a : Addr} {xs : List V} (e : Sub H H') (h : SqT K H a xs) : SqT K H' a xs := by
  rcases h with (h | ⟨o, h⟩) | h
  · exact .inl (.inl (e _ _ h))
  · exact .inl (.inr ⟨o, e _ _ h⟩)
  · exact .inr h
theorem Sub.rd {H H' : Hp} {a : Addr} {u : HO} (e : Sub H H') (h : Rd H a u) : Rd H' a u := by
  rcases h with h | ⟨o, h⟩
  · exact .inl (e _ _ h)
  · exact .inr ⟨o, e _ _ h⟩
theorem sub_also {p : HD} {H : Hp} {a : Addr} : Sub (hide (p.also a) H) (hide p H) := fun b o h => by
  obtain ⟨h1, h2⟩ := hide_some h
  rw [hide_ne (show ¬ p.hid b from fun z => h2 (z.elim .inl fun m => .inr (List.mem_cons_of_mem _ m)))]
  exact h1
theorem also_sub {p : HD} {H : Hp} {a : Addr} (n : H a = none) : Sub (hide p H) (hide (p.also a) H) := fun b o h => by
  obtain ⟨h1, h2⟩ := hide_some h
  rw [hide_ne (show ¬ (p.also a).hid b from fun z => z.elim (fun q => h2 (.inl q)) fun m => (List.mem_cons.mp m).elim (fun q => by rw [q, n] at h1; cases h1) fun q => h2 (.inr q))]
  exact h1

/-! ### values that are data -/
mutual
inductive DV (K : PySem.W.Frag) (p : HD) (H : Hp) : V → D → Prop
  | non : DV K p H .non .non
  | bl (b : Bool) : DV K p H (.bl b) (.bl b)
  | int (i : Int) : DV K p H (.int i) (.int i)
  | str (x : Str) : DV K p H (.str x) (.str x)
  | lst {a : Addr} {xs : List V} {g : G} {ds : List D} : ((g.s = true → a ≠ sysModules) ∧ (g.t = true → hide p H a = some (.lst xs))) → SqL K (hide p H) a xs → DVs K p H xs ds → DV K p H (.ref a) (.lst g ds)
  | tup {a : Addr} {xs : List V} {ds : List D} : SqT K (hide p H) a xs → DVs K p H xs ds → DV K p H (.ref a) (.tup ds)
  | dct {a : Addr} {kvs : List (Key × V)} {ds : List (Key × D)} : Rd (hide p H) a (.dK kvs) → DVk K p H kvs ds → DV K p H (.ref a) (.dct ds)
  | mut {a : Addr} {i : Nat} : p.m[i]? = some a → DV K p H (.ref a) (.mut i)
  | ty (n : String) : DV K p H (.ty n) (.ty n)
  | cls (a : Addr) : DV K p H (.ref a) (.cls a)
  | exn {a dx : Addr} {fv : List (Str × V)} {fs : List (Str × D)} : hide p H dx = some (.xd fv) → DVf K p H fv fs → DV K p H (.ref a) (.exn a dx fs)
  | obj {a C dx : Addr} {fv : List (Str × V)} {fs : List (Str × D)} : hide p H a = some (.ins C dx fv) → DVf K p H fv fs → DV K p H (.ref a) (.obj C fs)
inductive DVs (K : PySem.W.Frag) (p : HD) (H : Hp) : List V → List D → Prop
  | nil : DVs K p H [] []
  | cons {v : V} {vs : List V} {d : D} {ds : List D} : DV K p H v d → DVs K p H vs ds → DVs K p H (v :: vs) (d :: ds)
inductive DVk (K : PySem.W.Frag) (p : HD) (H : Hp) : List (Key × V) → List (Key × D) → Prop
  | nil : DVk K p H [] []
  | cons {k : Key} {v : V} {vs : List (Key × V)} {d : D} {ds : List (Key × D)} : DV K p H v d → DVk K p H vs ds → DVk K p H ((k, v) :: vs) ((k, d) :: ds)
inductive DVf (K : PySem.W.Frag) (p : HD) (H : Hp) : List (Str × V) → List (Str × D) → Prop
  | nil : DVf K p H [] []
  | cons {f : Str} {v : V} {vs : List (Str × V)} {d : D} {ds : List (Str × D)} : DV K p H v d → DVf K p H vs ds → DVf K p H ((f, v) :: vs) ((f, d) :: ds)
end
section
variable {K : PySem.W.Frag} {p : HD} {H H' : Hp}
mutual
theorem DV.sub {q : HD} (e : Sub (hide p H) (hide q H')) (pe : ∀ (i : Nat) (a : Addr), p.m[i]? = some a → q.m[i]? = some a) : ∀ {v : V} {d : D}, DV K p H v d → DV K q H' v d
  | _, _, .non => .non
  | _, _, .bl b => .bl b
  | _, _, .int i => .int i
  | _, _, .str x => .str x
  | _, _, .lst b h r => .lst ⟨b.1, fun z => e _ _ (b.2 z)⟩ (e.sqL h) (DVs.sub e pe r)
  | _, _, .tup h r => .tup (e.sqT h) (DVs.sub e pe r)
  | _, _, .dct h r => .dct (e.rd h) (DVk.sub e pe r)
  | _, _, .mut h => .mut (pe _ _ h)
  | _, _, .ty n => .ty n
  | _, _, .cls a => .cls a
  | _, _, .exn h r => .exn (e _ _ h) (DVf.sub e pe r)
  | _, _, .obj h r => .obj (e _ _ h) (DVf.sub e pe r)
theorem DVs.sub {q : HD} (e : Sub (hide p H) (hide q H')) (pe : ∀ (i : Nat) (a : Addr), p.m[i]? = some a → q.m[i]? = some a) : ∀ {v : List V} {d : List D}, DVs K p H v d → DVs K q H' v d
  | _, _, .nil => .nil
  | _, _, .cons h r => .cons (DV.sub e pe h) (DVs.sub e pe r)
theorem DVk.sub {q : HD} (e : Sub (hide p H) (hide q H')) (pe : ∀ (i : Nat) (a : Addr), p.m[i]? = some a → q.m[i]? = some a) : ∀ {v : List (Key × V)} {d : List (Key × D)}, DVk K p H v d → DVk K q H' v d
  | _, _, .nil => .nil
  | _, _, .cons h r => .cons (DV.sub e pe h) (DVk.sub e pe r)
theorem DVf.sub {q : HD} (e : Sub (hide p H) (hide q H')) (pe : ∀ (i : Nat) (a : Addr), p.m[i]? = some a → q.m[i]? = some a) : ∀ {v : List (Str × V)} {d : List (Str × D)}, DVf K p H v d → DVf K q H' v d
  | _, _, .nil => .nil
  | _, _, .cons h r => .cons (DV.sub e pe h) (DVf.sub e pe r)
end
theorem DV.mono (e : Ext p H H') {v : V} {d : D} (h : DV K p H v d) : DV K p H' v d := h.sub (e.hide) fun _ _ z => z
theorem DVs.mono (e : Ext p H H') {v : List V} {d : List D} (h : DVs K p H v d) : DVs K p H' v d := h.sub (e.hide) fun _ _ z => z
theorem DV.also {a : Addr} (n : H a = none) {v : V} {d : D} (h : DV K p H v d) : DV K (p.also a) H v d := h.sub (also_sub n) fun _ _ z => z
theorem DV.less {a : Addr} {v : V} {d : D} (h : DV K (p.also a) H v d) : DV K p H v d := h.sub sub_also fun _ _ z => z
theorem DVs.length : ∀ {vs : List V} {ds : List D}, DVs K p H vs ds → vs.length = ds.length
  | _, _, .nil => rfl
  | _, _, .cons _ r => by rw [List.length_cons, List.length_cons, DVs.length r]
theorem DVs.get : ∀ {vs : List V} {ds : List D} {i : Nat} {d : D}, DVs K p H vs ds → ds[i]? = some d → ∃ v, vs[i]? = some v ∧ DV K p H v d
  | _, _, i, d, .nil, h => by simp at h
  | _, _, 0, d, .cons (v := v) h r, e => by
    have e' := Option.some.inj e
    subst e'
    exact ⟨v, rfl, h⟩
  | _, _, i + 1, d, .cons h r, e => DVs.get (i := i) r e
theorem DVs.get' : ∀ {vs : List V} {ds : List D} {i : Nat} {v : V}, DVs K p H vs ds → vs[i]? = some v → ∃ d, ds[i]? = some d ∧ DV K p H v d
  | _, _, i, d, .nil, h => by simp at h
  | _, _, 0, d, .cons (d := x) h r, e => by
    have e' := Option.some.inj e
    subst e'
    exact ⟨x, rfl, h⟩
  | _, _, i + 1, d, .cons h r, e => DVs.get' (i := i) r e
theorem DVs.app : ∀ {vs ws : List V} {ds es : List D}, DVs K p H vs ds → DVs K p H ws es → DVs K p H (vs ++ ws) (ds ++ es)
  | _, _, _, _, .nil, r => r
  | _, _, _, _, .cons h t, r => .cons h (DVs.app t r)
theorem dvs_strs : ∀ {ss : List Str}, DVs K p H (ss.map V.str) (ss.map D.str)
  | [] => .nil
  | s :: r => .cons (.str s) dvs_strs
theorem of_strs : ∀ {vs : List V} {ss : List Str}, DVs K p H vs (ss.map D.str) → vs = ss.map V.str
  | _, [], .nil => rfl
  | _, s :: r, .cons h t => by
    cases h
    rw [of_strs t]
    rfl
end

/-! ### what changes -/
mutual
/-- of what changes, it names only the first n -/
def lowD (n : Nat) : D → Bool
  | .mut i => decide (i < n)
  | .lst _ xs => lowDs n xs
  | .tup xs => lowDs n xs
  | .dct kvs => lowDk n kvs
  | .exn _ _ fs => lowDf n fs
  | .obj _ fs => lowDf n fs
  | _ => true
def lowDs (n : Nat) : List D → Bool
  | [] => true
  | d :: r => lowD n d && lowDs n r
def lowDk (n : Nat) : List (Key × D) → Bool
  | [] => true
  | (_, d) :: r => lowD n d && lowDk n r
def lowDf (n : Nat) : List (Str × D) → Bool
  | [] => true
  | (_, d) :: r => lowD n d && lowDf n r
end
section
variable {K : PySem.W.Frag} {p q : HD} {H H' : Hp} {n : Nat}
mutual
theorem DV.low (e : Sub (hide p H) (hide q H')) (pe : ∀ (i : Nat) (a : Addr), i < n → p.m[i]? = some a → q.m[i]? = some a) : ∀ {v : V} {d : D}, DV K p H v d → lowD n d = true → DV K q H' v d
  | _, _, .non, _ => .non
  | _, _, .bl b, _ => .bl b
  | _, _, .int i, _ => .int i
  | _, _, .str x, _ => .str x
  | _, _, .lst b h r, o => by
    unfold lowD at o
    exact .lst ⟨b.1, fun z => e _ _ (b.2 z)⟩ (e.sqL h) (DVs.low e pe r o)
  | _, _, .tup h r, o => by
    unfold lowD at o
    exact .tup (e.sqT h) (DVs.low e pe r o)
  | _, _, .dct h r, o => by
    unfold lowD at o
    exact .dct (e.rd h) (DVk.low e pe r o)
  | _, _, .mut h, o => by
    unfold lowD at o
    exact .mut (pe _ _ (of_decide_eq_true o) h)
  | _, _, .ty n, _ => .ty n
  | _, _, .cls a, _ => .cls a
  | _, _, .exn h r, o => by
    unfold lowD at o
    exact .exn (e _ _ h) (DVf.low e pe r o)
  | _, _, .obj h r, o => by
    unfold lowD at o
    exact .obj (e _ _ h) (DVf.low e pe r o)
theorem DVs.low (e : Sub (hide p H) (hide q H')) (pe : ∀ (i : Nat) (a : Addr), i < n → p.m[i]? = some a → q.m[i]? = some a) : ∀ {v : List V} {d : List D}, DVs K p H v d → lowDs n d = true → DVs K q H' v d
  | _, _, .nil, _ => .nil
  | _, _, .cons h r, o => by
    unfold lowDs at o
    exact .cons (DV.low e pe h (Bool.and_eq_true_iff.mp o).1) (DVs.low e pe r (Bool.and_eq_true_iff.mp o).2)
theorem DVk.low (e : Sub (hide p H) (hide q H')) (pe : ∀ (i : Nat) (a : Addr), i < n → p.m[i]? = some a → q.m[i]? = some a) : ∀ {v : List (Key × V)} {d : List (Key × D)}, DVk K p H v d → lowDk n d = true → DVk K q H' v d
  | _, _, .nil, _ => .nil
  | _, _, .cons h r, o => by
    unfold lowDk at o
    exact .cons (DV.low e pe h (Bool.and_eq_true_iff.mp o).1) (DVk.low e pe r (Bool.and_eq_true_iff.mp o).2)
theorem DVf.low (e : Sub (hide p H) (hide q H')) (pe : ∀ (i : Nat) (a : Addr), i < n → p.m[i]? = some a → q.m[i]? = some a) : ∀ {v : List (Str × V)} {d : List (Str × D)}, DVf K p H v d → lowDf n d = true → DVf K q H' v d
  | _, _, .nil, _ => .nil
  | _, _, .cons h r, o => by
    unfold lowDf at o
    exact .cons (DV.low e pe h (Bool.and_eq_true_iff.mp o).1) (DVf.low e pe r (Bool.and_eq_true_iff.mp o).2)
end
end
theorem sub_refl (G : Hp) : Sub G G := fun _ _ z => z
theorem Sub.trans {G G1 G2 : Hp} (a : Sub G G1) (b : Sub G1 G2) : Sub G G2 := fun x o h => b x o (a x o h)
def CellAt (K : PySem.W.Frag) (p : HD) (H : Hp) (a : Addr) : Cell → Prop
  | .lst ds => ∃ vs, H a = some (.lst vs) ∧ DVs K p.flat H vs ds
  | .ins C fs => ∃ dx fv, H a = some (.ins C dx fv) ∧ DVf K p.flat H fv fs
  | .dct kvs => ∃ kv, H a = some (.dK kv) ∧ DVk K p.flat H kv kvs
  | .gone => ∃ o, H a = some o
theorem CellAt.has {K : PySem.W.Frag} {p : HD} {H : Hp} {a : Addr} {x : Cell} (h : CellAt K p H a x) : ∃ o, H a = some o := by
  cases x with
  | lst ds => obtain ⟨vs, h, _⟩ := h; exact ⟨_, h⟩
  | ins C fs => obtain ⟨dx, fv, h, _⟩ := h; exact ⟨_, h⟩
  | dct kvs => obtain ⟨kv, h, _⟩ := h; exact ⟨_, h⟩
  | gone => exact h
theorem CellAt.sub {K : PySem.W.Frag} {p q : HD} {H H' : Hp} {a : Addr} {x : Cell} (e : Sub (hide p H) (hide q H')) (ea : H' a = H a) (h : CellAt K p H a x) : CellAt K q H' a x := by
  have e' : Sub (hide p.flat H) (hide q.flat H') := by
    rw [hide_flat, hide_flat]
    exact e
  have pe : ∀ (i : Nat) (b : Addr), p.flat.m[i]? = some b → q.flat.m[i]? = some b := fun i b z => by simp [HD.flat] at z
  cases x with
  | lst ds => obtain ⟨vs, h, r⟩ := h; exact ⟨vs, ea.trans h, r.sub e' pe⟩
  | ins C fs => obtain ⟨dx, fv, h, r⟩ := h; exact ⟨dx, fv, ea.trans h, r.sub e' pe⟩
  | dct kvs => obtain ⟨kv, h, r⟩ := h; exact ⟨kv, ea.trans h, r.sub e' pe⟩
  | gone => obtain ⟨o, h⟩ := h; exact ⟨o, ea.trans h⟩
def Cells (K : PySem.W.Frag) (p : HD) (H : Hp) (c : PC) : Prop := p.m.Nodup ∧ p.m.length = c.length ∧ ∀ (i : Nat) (a : Addr) (x : Cell), p.m[i]? = some a → c[i]? = some x → CellAt K p H a x
def PoolAt (K : PySem.W.Frag) (p : HD) (H : Hp) (c : PC) : Prop := Cells K p H c ∧ ∀ a ∈ p.z, ∃ o, H a = some o
section
variable {K : PySem.W.Frag} {p : HD} {H H1 : Hp} {c : PC} {a : Addr}
theorem PoolAt.ex (h : PoolAt K p H c) {b : Addr} (m : b ∈ p.m) : ∃ o, H b = some o := by
  obtain ⟨i, hi⟩ := List.getElem?_of_mem m
  have l : i < c.length := by
    rw [← h.1.2.1]
    exact (List.getElem?_eq_some_iff.mp hi).1
  exact (h.1.2.2 i b c[i] hi (List.getElem?_eq_getElem l)).has
theorem PoolAt.hid (h : PoolAt K p H c) {b : Addr} (m : p.hid b) : ∃ o, H b = some o := m.elim h.ex (h.2 b)
theorem PoolAt.not (h : PoolAt K p H c) (n : H a = none) : ¬ p.hid a := fun z => by
  obtain ⟨o, q⟩ := h.hid z
  rw [q] at n
  cases n
theorem upd_sub {o : HO} (n : H a = none) : Sub (hide p H) (hide p (upd H a o)) := (Ext.new n).hide
theorem PoolAt.upd {o : HO} (h : PoolAt K p H c) (n : H a = none) : PoolAt K p (L2.upd H a o) c := ⟨⟨h.1.1, h.1.2.1, fun i b x hi hx => by
  obtain ⟨u, q⟩ := h.ex (List.mem_of_getElem? hi)
  exact (h.1.2.2 i b x hi hx).sub (upd_sub n) (by rw [upd_ne (ne_of_none q n)])⟩, fun b m => by
  obtain ⟨u, q⟩ := h.2 b m
  exact ⟨u, by rw [upd_ne (ne_of_none q n)]; exact q⟩⟩
theorem fresh_back (e : Ext p H H1) (h : PoolAt K p H1 c) (n : H1 a = none) : H a = none := by
  cases q : H a with
  | none => rfl
  | some o =>
    have n2 : a ∉ p.m := fun z => by
      obtain ⟨u, r⟩ := h.ex z
      rw [r] at n
      cases n
    rw [e a o n2 q] at n
    cases n
/-- what is hidden besides may change as it likes -/
theorem PoolAt.other {o : HO} (h : PoolAt K p H c) (m : a ∈ p.z) (nm : a ∉ p.m) : PoolAt K p (L2.upd H a o) c := ⟨⟨h.1.1, h.1.2.1, fun i b x hi hx => by
  have nb : b ≠ a := fun z => nm (by rw [← z]; exact List.mem_of_getElem? hi)
  refine (h.1.2.2 i b x hi hx).sub (fun b u y => ?_) (by rw [upd_ne nb])
  obtain ⟨y1, y2⟩ := hide_some y
  rw [hide_ne y2, upd_ne (fun z => y2 (.inr (by rw [z]; exact m)))]
  exact y1⟩, fun b mb => by
  by_cases e : b = a
  · exact ⟨o, by rw [e, upd_same]⟩
  · obtain ⟨u, q⟩ := h.2 b mb
    exact ⟨u, by rw [upd_ne e]; exact q⟩⟩
theorem PoolAt.also (h : PoolAt K p H c) (n : H a = none) {o : HO} : PoolAt K (p.also a) (L2.upd H a o) c := ⟨⟨h.1.1, h.1.2.1, fun i b x hi hx => by
  obtain ⟨u, q⟩ := h.ex (List.mem_of_getElem? hi)
  refine (h.1.2.2 i b x hi hx).sub (fun b u y => ?_) (by rw [upd_ne (ne_of_none q n)])
  have y1 := also_sub n b u y
  obtain ⟨y3, y4⟩ := hide_some y1
  rw [hide_ne y4, upd_ne (ne_of_none y3 n)]
  exact y3⟩, fun b m => by
  rcases List.mem_cons.mp m with rfl | m
  · exact ⟨o, upd_same⟩
  · obtain ⟨u, q⟩ := h.2 b m
    exact ⟨u, by rw [upd_ne (ne_of_none q n)]; exact q⟩⟩
theorem PoolAt.less (h : PoolAt K (p.also a) H c) : PoolAt K p H c := ⟨⟨h.1.1, h.1.2.1, fun i b x hi hx => (h.1.2.2 i b x hi hx).sub sub_also rfl⟩, fun b m => h.2 b (List.mem_cons_of_mem _ m)⟩
/-- one of the changing things is written -/
theorem PoolAt.put {i : Nat} {o : HO} {x : Cell} (h : PoolAt K p H c) (hi : p.m[i]? = some a) (hx : CellAt K p (L2.upd H a o) a x) : PoolAt K p (L2.upd H a o) (c.set i x) := by
  have hm : a ∈ p.m := List.mem_of_getElem? hi
  have sb : Sub (hide p H) (hide p (L2.upd H a o)) := fun b u y => by
    obtain ⟨y1, y2⟩ := hide_some y
    rw [hide_ne y2, upd_ne (fun z => y2 (.inl (by rw [z]; exact hm)))]
    exact y1
  refine ⟨⟨h.1.1, by rw [List.length_set]; exact h.1.2.1, fun j b y hj hy => ?_⟩, fun b mb => ?_⟩
  · by_cases e : i = j
    · subst e
      rw [hi] at hj
      cases hj
      have l : i < c.length := by
        rw [← h.1.2.1]
        exact (List.getElem?_eq_some_iff.mp hi).1
      rw [List.getElem?_set_self l] at hy
      cases hy
      exact hx
    · rw [List.getElem?_set_ne e] at hy
      have nb : b ≠ a := fun z => e (by
        subst z
        have l1 := (List.getElem?_eq_some_iff.mp hi).1
        have l2 := (List.getElem?_eq_some_iff.mp hj).1
        have q1 := (List.getElem?_eq_some_iff.mp hi).2
        have q2 := (List.getElem?_eq_some_iff.mp hj).2
        exact (List.getElem_inj h.1.1).mp (q1.trans q2.symm))
      exact (h.1.2.2 j b y hj hy).sub sb (by rw [upd_ne nb])
  · by_cases e : b = a
    · exact ⟨o, by rw [e, upd_same]⟩
    · obtain ⟨u, q⟩ := h.2 b mb
      exact ⟨u, by rw [upd_ne e]; exact q⟩
end

/-- a new object: nothing that changes, and nothing of its own, knows of it -/
def New (K : PySem.W.Frag) (p : HD) (H H' : Hp) (c' : PC) (v : V) (d : D) : Prop := ∀ a, v = .ref a → (H a = none ∧ a ∉ p.m) ∧ PoolAt K (p.also a) H' c' ∧ ∀ g ds, d = .lst g ds → ∃ vs, H' a = some (.lst vs) ∧ DVs K (p.also a) H' vs ds
section
variable {K : PySem.W.Frag} {p : HD} {H H1 H' : Hp} {c c' : PC} {v : V} {d : D} {a : Addr}
theorem New.back (e : Ext p H H1) (n : New K p H1 H' c' v d) : New K p H H' c' v d := fun a h => by
  obtain ⟨⟨n1, n2⟩, n3⟩ := n a h
  refine ⟨⟨?_, n2⟩, n3⟩
  cases q : H a with
  | none => rfl
  | some o =>
    rw [e a o n2 q] at n1
    cases n1
theorem New.g {g g' : G} {ds : List D} (n : New K p H H' c' v (.lst g ds)) : New K p H H' c' v (.lst g' ds) := fun a h => by
  obtain ⟨h1, h2, h3⟩ := n a h
  exact ⟨h1, h2, fun g2 ds2 e => by
    cases e
    exact h3 g ds rfl⟩
theorem New.sc (h : ∀ a, v ≠ .ref a) : New K p H H' c' v d := fun a e => absurd e (h a)
theorem New.lst {vs : List V} {ds : List D} {g : G} (h : PoolAt K p H c) (n : H a = none) (r : DVs K p H vs ds) : New K p H (L2.upd H a (.lst vs)) c (.ref a) (.lst g ds) := fun b e => by
  cases e
  exact ⟨⟨n, fun z => h.not n (.inl z)⟩, h.also n, fun g' ds' e' => by
    cases e'
    exact ⟨vs, upd_same, (r.sub (also_sub n) fun _ _ z => z).mono (Ext.new n)⟩⟩
theorem New.oth {o : HO} (h : PoolAt K p H c) (n : H a = none) (hd : ∀ g ds, d ≠ .lst g ds) : New K p H (L2.upd H a o) c (.ref a) d := fun b e => by
  cases e
  exact ⟨⟨n, fun z => h.not n (.inl z)⟩, h.also n, fun g' ds' e' => absurd e' (hd g' ds')⟩
end

/-! ### the frame -/
abbrev Rho := List (Option D)
structure SR (K : PySem.W.Frag) (p : HD) (H : Hp) (σ : L2.St) (ρ : Rho) (c : PC) : Prop where
  len : σ.length = ρ.length
  at' : ∀ (i : Nat) (d : D), ρ[i]? = some (some d) → ∃ v, σ[i]? = some (some v) ∧ DV K p H v d
  pl : PoolAt K p H c
section
variable {K : PySem.W.Frag} {p : HD} {H H' : Hp} {σ : L2.St} {ρ : Rho} {c c' : PC}
theorem SR.mono (s : SR K p H σ ρ c) (e : Ext p H H') (q : PoolAt K p H' c') : SR K p H' σ ρ c' :=
  ⟨s.len, fun i d h => by
    obtain ⟨v, h1, h2⟩ := s.at' i d h
    exact ⟨v, h1, h2.mono e⟩, q⟩
theorem SR.set (s : SR K p H σ ρ c) (i : Nat) {v : V} {d : D} (h : DV K p H v d) : SR K p H (σ.set i (some v)) (ρ.set i (some d)) c := by
  refine ⟨by rw [List.length_set, List.length_set]; exact s.len, fun j e hj => ?_, s.pl⟩
  by_cases q : i = j
  · subst q
    rw [List.getElem?_set] at hj
    by_cases l : i < ρ.length
    · rw [if_pos rfl, if_pos l] at hj
      have e' := Option.some.inj (Option.some.inj hj)
      subst e'
      refine ⟨v, ?_, h⟩
      rw [List.getElem?_set, if_pos rfl, if_pos (by rw [s.len]; exact l)]
    · rw [if_pos rfl, if_neg l] at hj
      cases hj
  · rw [List.getElem?_set_ne q] at hj
    obtain ⟨w, h1, h2⟩ := s.at' j e hj
    exact ⟨w, by rw [List.getElem?_set_ne q]; exact h1, h2⟩
/-- slots of which nothing is known -/
theorem SR.weak {σ' : L2.St} {ρ' : Rho} (s : SR K p H σ ρ c) (hl : σ'.length = ρ'.length) (h : ∀ (i : Nat) (d : D), ρ'[i]? = some (some d) → ρ[i]? = some (some d)) (hs : ∀ (i : Nat) (v : V) (d : D), ρ'[i]? = some (some d) → σ[i]? = some (some v) → σ'[i]? = some (some v)) : SR K p H σ' ρ' c :=
  ⟨hl, fun i d e => by
    obtain ⟨v, h1, h2⟩ := s.at' i d (h i d e)
    exact ⟨v, hs i v d e h1, h2⟩, s.pl⟩
end

/-! ### outcomes -/
/-- of an expression -/
inductive EO where
  | val (d : D) (nw : Bool) (c : PC)
  | ex (C : Addr) (fs : List (Str × D)) (c : PC)
/-- of a test -/
inductive TO where
  | val (b : Bool) (c : PC)
  | ex (C : Addr) (fs : List (Str × D)) (c : PC)
inductive AO where
  | val (ds : List D) (c : PC)
  | ex (C : Addr) (fs : List (Str × D)) (c : PC)
/-- of a statement -/
inductive SO where
  | nx (ρ : Rho) (c : PC)
  | rt (d : D) (nw : Bool) (c : PC)
  | ex (C : Addr) (fs : List (Str × D)) (c : PC)
theorem DVf.mono {K : PySem.W.Frag} {p : HD} {H H' : Hp} (e : Ext p H H') {v : List (Str × V)} {d : List (Str × D)} (h : DVf K p H v d) : DVf K p H' v d := h.sub e.hide fun _ _ z => z
theorem DVf.get {K : PySem.W.Frag} {p : HD} {H : Hp} {f : Str} {d : D} : ∀ {vs : List (Str × V)} {ds : List (Str × D)}, DVf K p H vs ds → ds.lookup f = some d → ∃ v, vs.lookup f = some v ∧ DV K p H v d
  | _, _, .nil, h => by cases h
  | _, _, .cons (f := g) (v := v) (d := x) h r, e => by
    rw [List.lookup_cons] at e ⊢
    cases q : f == g with
    | true =>
      rw [q] at e
      have e' := Option.some.inj e
      subst e'
      exact ⟨v, rfl, h⟩
    | false =>
      rw [q] at e
      exact DVf.get r e

def XW (K : PySem.W.Frag) (W : WX) (p : HD) (ρ : Rho) (H : Hp) (C : Addr) (fs : List (Str × D)) (c' : PC) : Prop :=
  ∀ (dx : Addr) (fv : List (Str × V)) (σ' : L2.St) (H' : Hp), Ext p H H' → SR K p H' σ' ρ c' → hide p H' dx = some (.xd fv) → DVf K p H' fv fs → W (.ref C) (some dx) σ' H'
def tE (K : PySem.W.Frag) (W : WX) (p : HD) (ρ : Rho) (c : PC) : EO → TE
  | .val d nw c' => fun σ H Q => SR K p H σ ρ c ∧ ∀ v H', Ext p H H' → PoolAt K p H' c' → DV K p H' v d → (nw = true → New K p H H' c' v d) → Q v H'
  | .ex C fs c' => fun σ H _ => SR K p H σ ρ c ∧ XW K W p ρ H C fs c'
def tT (K : PySem.W.Frag) (W : WX) (p : HD) (ρ : Rho) (c : PC) : TO → TT
  | .val b c' => fun σ H Q => SR K p H σ ρ c ∧ ∀ H', Ext p H H' → PoolAt K p H' c' → Q b H'
  | .ex C fs c' => fun σ H _ => SR K p H σ ρ c ∧ XW K W p ρ H C fs c'
def tA (K : PySem.W.Frag) (W : WX) (p : HD) (ρ : Rho) (c : PC) : AO → TA
  | .val ds c' => fun σ H Q => SR K p H σ ρ c ∧ ∀ vs H', Ext p H H' → PoolAt K p H' c' → DVs K p H' vs ds → Q vs H'
  | .ex C fs c' => fun σ H _ => SR K p H σ ρ c ∧ XW K W p ρ H C fs c'
def tSt (K : PySem.W.Frag) (W : WX) (p : HD) (ρ : Rho) (c : PC) : SO → TS
  | .nx ρ' c' => fun D σ H => SR K p H σ ρ c ∧ ∀ σ' H', Ext p H H' → SR K p H' σ' ρ' c' → D.nx σ' H'
  | .rt d nw c' => fun D σ H => SR K p H σ ρ c ∧ ∀ v H', Ext p H H' → PoolAt K p H' c' → DV K p H' v d → (nw = true → New K p H H' c' v d) → D.rt v H'
  | .ex C fs c' => fun D σ H => SR K p H σ ρ c ∧ ∀ (ρ' : Rho) (dx : Addr) (fv : List (Str × V)) (σ' : L2.St) (H' : Hp), Ext p H H' → SR K p H' σ' ρ' c' → ρ'.length = ρ.length → hide p H' dx = some (.xd fv) → DVf K p H' fv fs → W (.ref C) (some dx) σ' H'
abbrev RE (X : Cx) (W : WX) (p : HD) (ρ : Rho) (c : PC) (e : Expr) (o : EO) : Prop := PE X e (tE X.K W p ρ c o)
abbrev RT (X : Cx) (W : WX) (p : HD) (ρ : Rho) (c : PC) (e : Expr) (o : TO) : Prop := PT X e (tT X.K W p ρ c o)
abbrev RA (X : Cx) (W : WX) (p : HD) (ρ : Rho) (c : PC) (es : List Expr) (o : AO) : Prop := PA X es (tA X.K W p ρ c o)
abbrev RS (X : Cx) (W : WX) (p : HD) (ρ : Rho) (c : PC) (st : Stmt) (o : SO) : Prop := PS X st (tSt X.K W p ρ c o)
abbrev RSs (X : Cx) (W : WX) (p : HD) (ρ : Rho) (c : PC) (st : List Stmt) (o : SO) : Prop := PSs X st (tSt X.K W p ρ c o)
theorem pe_imp {X : Cx} {e : Expr} {t t' : TE} (h : PE X e t) (w : ∀ σ H Q, t' σ H Q → t σ H Q) : PE X e t' := ⟨fun pins s σ H Q I q => h.run pins s σ H Q I (w σ H Q q)⟩
theorem pt_imp {X : Cx} {e : Expr} {t t' : TT} (h : PT X e t) (w : ∀ σ H Q, t' σ H Q → t σ H Q) : PT X e t' := ⟨fun pins s σ H Q I q => h.run pins s σ H Q I (w σ H Q q)⟩
theorem pw_imp {X : Cx} {e : Expr} {t t' : TT} (h : PW X e t) (w : ∀ σ H Q, t' σ H Q → t σ H Q) : PW X e t' := ⟨fun wh pins s σ H Q I q => h.run wh pins s σ H Q I (w σ H Q q)⟩
theorem pa_imp {X : Cx} {e : List Expr} {t t' : TA} (h : PA X e t) (w : ∀ σ H Q, t' σ H Q → t σ H Q) : PA X e t' := ⟨fun ps pins s σ H Q I q => h.run ps pins s σ H Q I (w σ H Q q)⟩
theorem ps_imp {X : Cx} {e : Stmt} {t t' : TS} (h : PS X e t) (w : ∀ D σ H, t' D σ H → t D σ H) : PS X e t' := ⟨fun pins s σ H D I q => h.run pins s σ H D I (w D σ H q)⟩
theorem pss_imp {X : Cx} {e : List Stmt} {t t' : TS} (h : PSs X e t) (w : ∀ D σ H, t' D σ H → t D σ H) : PSs X e t' := ⟨fun pins s σ H D I q => h.run pins s σ H D I (w D σ H q)⟩
end LA

namespace LA
open PySem PySem.Spec PyProof.Rows L2
section
variable {X : Cx} {W : WX} {p : HD} {ρ : Rho} {c c1 c2 c3 : PC} {e a b : Expr} {es : List Expr} {pos : Pos} {d d1 d2 : D} {n1 n2 nw : Bool}

/-! ### words and names -/
theorem re_c {v : V} {d : D} (h : PE X e (tC v)) (hv : ∀ H, DV X.K p H v d) (hs : ∀ a, v ≠ .ref a) : RE X W p ρ c e (.val d true c) :=
  pe_imp h fun _ H _ ⟨s, k⟩ => k v H (Ext.refl p H) s.pl (hv H) fun _ => New.sc hs
theorem re_int {i : Int} {j : Nat} : RE X W p ρ c (.Constant (.int i) j pos) (.val (.int i) true c) := re_c pe_int (fun _ => .int i) (by intro a h; cases h)
theorem re_bl {i : Bool} {j : Nat} : RE X W p ρ c (.Constant (.bool i) j pos) (.val (.bl i) true c) := re_c pe_bl (fun _ => .bl i) (by intro a h; cases h)
theorem re_non {j : Nat} : RE X W p ρ c (.Constant .none j pos) (.val .non true c) := re_c pe_non (fun _ => .non) (by intro a h; cases h)
theorem re_str {x : Str} {j : Nat} : RE X W p ρ c (.Constant (.str x) j pos) (.val (.str x) true c) := re_c pe_str (fun _ => .str x) (by intro a h; cases h)
theorem re_gint {x : Str} {i : Int} {t : Tok} (hm : X.mg x = some (.int i t)) (hg : Gl X x := by rfl) (hd : (x == ("__debug__" : Str)) = false := by decide) : RE X W p ρ c (.Name x pos) (.val (.int i) true c) :=
  re_c (pe_glob (v := .int i) hg hm ⟨t, rfl⟩ hd) (fun _ => .int i) (by intro a h; cases h)
theorem re_var (i : Nat) {x : Str} (hN : X.N[i]? = some x := by rfl) (hρ : ρ[i]? = some (some d) := by rfl) (hv : Vis X.env.scope x := by first | exact Or.inl rfl | exact Or.inr (Or.inl rfl) | exact Or.inr (Or.inr rfl))
    (hd : (x == ("__debug__" : Str)) = false := by decide) (hcd : (x == ("__classdict__" : Str)) = false := by decide) : RE X W p ρ c (.Name x pos) (.val d false c) :=
  pe_imp (pe_var hN hv hd hcd) fun σ H Q ⟨s, k⟩ => by
    obtain ⟨v, h1, h2⟩ := s.at' i d hρ
    exact ⟨v, h1, k v H (Ext.refl p H) s.pl h2 fun q => nomatch q⟩

/-! ### two in a row -/
/-- what an operation on data gives -/
def OV (K : PySem.W.Frag) (p : HD) (r : R2) (x y z : D) (nw : Bool) (c : PC) : Prop :=
  ∀ (v u : V) (H : Hp) (Q : VK), DV K p H v x → DV K p H u y → PoolAt K p H c → (∀ w H', Ext p H H' → PoolAt K p H' c → DV K p H' w z → (nw = true → New K p H H' c w z) → Q w H') → r v u H Q
theorem two {ta tb : TE} {σ : L2.St} {H : Hp} {R : V → V → Hp → Prop} (s : SR X.K p H σ ρ c) (ha : ta = tE X.K W p ρ c (.val d1 n1 c1)) (hb : tb = tE X.K W p ρ c1 (.val d2 n2 c2))
    (k : ∀ v u H', Ext p H H' → PoolAt X.K p H' c2 → DV X.K p H' v d1 → DV X.K p H' u d2 → R v u H') : ta σ H fun x H1 => tb σ H1 fun y H2 => R x y H2 := by
  subst ha hb
  refine ⟨s, fun v H1 e1 p1 dv _ => ⟨s.mono e1 p1, fun u H2 e2 p2 du _ => k v u H2 (e1.trans e2) p2 (dv.mono e2) du⟩⟩
theorem re_bin {op : Operator} {r : R2} (ho : OpR X (binaryOp op) r) (ha : RE X W p ρ c a (.val d1 n1 c1)) (hb : RE X W p ρ c1 b (.val d2 n2 c2)) (hr : OV X.K p r d1 d2 d nw c2) : RE X W p ρ c (.BinOp a op b pos) (.val d nw c2) :=
  pe_imp (pe_op ho ha hb) fun σ H Q ⟨s, k⟩ => two (W := W) s rfl rfl fun v u H1 e1 p1 dv du => hr v u H1 Q dv du p1 fun w H2 e2 p2 dw hn => k w H2 (e1.trans e2) p2 dw fun q => (hn q).back e1
theorem re_cmp {op : CmpOp} {r : R2} (ho : OpR X (compareOp op) r) (ha : RE X W p ρ c a (.val d1 n1 c1)) (hb : RE X W p ρ c1 b (.val d2 n2 c2)) (hr : OV X.K p r d1 d2 d nw c2)
    (hm : behindInMarks op b = false := by first | rfl | exact nomark _) : RE X W p ρ c (.Compare a [op] [b] pos) (.val d nw c2) :=
  pe_imp (pe_cmpR ho ha hb hm) fun σ H Q ⟨s, k⟩ => two (W := W) s rfl rfl fun v u H1 e1 p1 dv du => hr v u H1 Q dv du p1 fun w H2 e2 p2 dw hn => k w H2 (e1.trans e2) p2 dw fun q => (hn q).back e1
theorem rt_cmp {op : CmpOp} {r : R2} {k : Bool} (ho : OpR X (compareOp op) r) (ha : RE X W p ρ c a (.val d1 n1 c1)) (hb : RE X W p ρ c1 b (.val d2 n2 c2)) (hr : OV X.K p r d1 d2 (.bl k) nw c2)
    (hm : behindInMarks op b = false := by first | rfl | exact nomark _) : RT X W p ρ c (.Compare a [op] [b] pos) (.val k c2) :=
  pt_imp (pt_cmpR ho ha hb hm) fun σ H Q ⟨s, kk⟩ => two (W := W) s rfl rfl fun v u H1 e1 p1 dv du => hr v u H1 _ dv du p1 fun w H2 e2 p2 dw hn => by
    cases dw
    exact ⟨k, rfl, kk H2 (e1.trans e2) p2⟩
/-! answers of operations -/
variable {K : PySem.W.Frag}
theorem ov_I {C : Int → Int → Prop} {g : Int → Int → V} {i j : Int} {z : D} (hc : C i j) (hz : ∀ H, DV K p H (g i j) z) (hs : ∀ a, g i j ≠ .ref a) : OV K p (rI C g) (.int i) (.int j) z true c := fun v u H Q dv du hp k => by
  cases dv
  cases du
  exact ⟨i, j, rfl, rfl, hc, k _ H (Ext.refl p H) hp (hz H) fun _ => New.sc hs⟩
theorem ov_I0 {g : Int → Int → V} {i j : Int} {z : D} (hz : ∀ H, DV K p H (g i j) z) (hs : ∀ a, g i j ≠ .ref a) : OV K p (rI0 g) (.int i) (.int j) z true c := fun v u H Q dv du hp k => by
  cases dv
  cases du
  exact ⟨i, j, rfl, rfl, k _ H (Ext.refl p H) hp (hz H) fun _ => New.sc hs⟩
/-- ints to an int -/
theorem ov_ii {f : Int → Int → Int} {i j : Int} : OV K p (rI0 fun i j => .int (f i j)) (.int i) (.int j) (.int (f i j)) true c := ov_I0 (fun _ => .int _) (by intro a h; cases h)
theorem ov_ib {f : Int → Int → Bool} {i j : Int} : OV K p (rI0 fun i j => .bl (f i j)) (.int i) (.int j) (.bl (f i j)) true c := ov_I0 (fun _ => .bl _) (by intro a h; cases h)
theorem ov_cii {C : Int → Int → Prop} {f : Int → Int → Int} {i j : Int} (hc : C i j) : OV K p (rI C fun i j => .int (f i j)) (.int i) (.int j) (.int (f i j)) true c := ov_I hc (fun _ => .int _) (by intro a h; cases h)
theorem ov_addS {s t : Str} (h : s.length + t.length ≤ sizeLine) : OV K p (fun x y H Q => ∃ i j, x = .str i ∧ y = .str j ∧ i.length + j.length ≤ sizeLine ∧ Q (.str (i ++ j)) H) (.str s) (.str t) (.str (s ++ t)) true c := fun v u H Q dv du hp k => by
  cases dv
  cases du
  exact ⟨s, t, rfl, rfl, h, k _ H (Ext.refl p H) hp (.str _) fun _ => New.sc (by intro a h; cases h)⟩
/-- scalars, as == takes them -/
def scD : D → Option V
  | .non => some .non
  | .bl b => some (.bl b)
  | .int i => some (.int i)
  | .str s => some (.str s)
  | _ => none
theorem dv_sc {H : Hp} {v x : V} {d : D} (h : DV K p H v d) (e : scD d = some x) : v = x := by
  cases h <;> first | exact Option.some.inj e | cases e
theorem ov_eqS {x y : D} {v u : V} (hx : scD x = some v) (hy : scD y = some u) (hs : scal v u = true) : OV K p rEq x y (.bl (decide (v = u))) true c := fun v' u' H Q dv du hp k => by
  have e1 := dv_sc dv hx
  have e2 := dv_sc du hy
  subst e1 e2
  exact ⟨hs, k _ H (Ext.refl p H) hp (.bl _) fun _ => New.sc (by intro a h; cases h)⟩
theorem ov_neS {x y : D} {v u : V} (hx : scD x = some v) (hy : scD y = some u) (hs : scal v u = true) : OV K p rNe x y (.bl (!decide (v = u))) true c := fun v' u' H Q dv du hp k => by
  have e1 := dv_sc dv hx
  have e2 := dv_sc du hy
  subst e1 e2
  exact ⟨hs, k _ H (Ext.refl p H) hp (.bl _) fun _ => New.sc (by intro a h; cases h)⟩
theorem ov_inC {ch : Nat} {z : Str} : OV K p (fun x y H Q => ∃ (c : Nat) (z : Str), x = .str ⟨#[c]⟩ ∧ y = .str z ∧ Q (.bl (decide (c ∈ z.cps.toList))) H) (.str ⟨#[ch]⟩) (.str z) (.bl (decide (ch ∈ z.cps.toList))) true c := fun v u H Q dv du hp k => by
  cases dv
  cases du
  exact ⟨ch, z, rfl, rfl, k _ H (Ext.refl p H) hp (.bl _) fun _ => New.sc (by intro a h; cases h)⟩
theorem ov_niC {ch : Nat} {z : Str} : OV K p (fun x y H Q => ∃ (c : Nat) (z : Str), x = .str ⟨#[c]⟩ ∧ y = .str z ∧ Q (.bl (!decide (c ∈ z.cps.toList))) H) (.str ⟨#[ch]⟩) (.str z) (.bl (!decide (ch ∈ z.cps.toList))) true c := fun v u H Q dv du hp k => by
  cases dv
  cases du
  exact ⟨ch, z, rfl, rfl, k _ H (Ext.refl p H) hp (.bl _) fun _ => New.sc (by intro a h; cases h)⟩
/-- flat data, as in takes it -/
theorem dvs_sc {H : Hp} : ∀ {vs xs : List V} {ds : List D}, DVs K p H vs ds → ds.map scD = xs.map some → vs = xs
  | _, [], _, .nil, _ => rfl
  | _, x :: xs, _, .cons h r, e => by
    rw [List.map_cons, List.map_cons] at e
    injection e with e1 e2
    rw [dv_sc h e1, dvs_sc r e2]
  | _, x :: xs, _, .nil, e => by cases e
  | _, [], _, .cons h r, e => by cases e
theorem ov_inT {x : D} {ds : List D} {v : V} {xs : List V} {neg : Bool} (hx : scD x = some v) (hs : ds.map scD = xs.map some) (fx : flatV v = true) (fs : xs.all flatV = true) :
    OV K p (rIn K neg) x (.tup ds) (.bl (if neg then !inV v xs else inV v xs)) true c := fun v' u' H Q dv du hp k => by
  have e1 := dv_sc dv hx
  subst e1
  cases du with
  | tup h r =>
    have e2 := dvs_sc r hs
    subst e2
    exact ⟨_, _, rfl, .inr (un_sqT h), fx, fs, k _ H (Ext.refl p H) hp (.bl _) fun _ => New.sc (by intro a h; cases h)⟩

/-! ### and, or, not, if -/
theorem re_one {op : BoolOpKind} (h : True) : True := trivial
theorem re_and {rest : List Expr} {k1 k2 : Bool} (ha : RE X W p ρ c a (.val (.bl k1) n1 c1)) (hb : k1 = true → RE X W p ρ c1 (.BoolOp .And (b :: rest) pos) (.val (.bl k2) true c1)) : RE X W p ρ c (.BoolOp .And (a :: b :: rest) pos) (.val (.bl (k1 && k2)) true c1) := by
  cases k1 with
  | true =>
    exact pe_imp (pe_and ha (hb rfl)) fun σ H Q ⟨s, k⟩ => ⟨s, fun v H1 e1 p1 dv _ => by
      cases dv
      exact ⟨true, rfl, s.mono e1 p1, fun u H2 e2 p2 du hn => k u H2 (e1.trans e2) p2 du fun q => (hn q).back e1⟩⟩
  | false =>
    have hN : PE X (.BoolOp .And (b :: rest) pos) (fun _ _ _ => False) := ⟨fun _ _ _ _ _ _ z => z.elim⟩
    exact pe_imp (pe_and ha hN) fun σ H Q ⟨s, k⟩ => ⟨s, fun v H1 e1 p1 dv _ => by
      cases dv
      refine ⟨false, rfl, ?_⟩
      refine iteF ?_
      exact k _ H1 e1 p1 (.bl false) fun _ => New.sc (by intro a h; cases h)⟩
theorem re_and1 {op : BoolOp} (h : RE X W p ρ c a (.val d nw c1)) : RE X W p ρ c (.BoolOp op [a] pos) (.val d nw c1) := pe_one h
theorem re_if {t : Expr} {k : Bool} {o : EO} (ht : RT X W p ρ c t (.val k c1)) (h1 : k = true → RE X W p ρ c1 a o) (h2 : k = false → RE X W p ρ c1 b o) : RE X W p ρ c (.IfExp t a b pos) o := by
  have N : ∀ e, PE X e (fun _ _ _ => False) := fun e => ⟨fun _ _ _ _ _ _ z => z.elim⟩
  cases k with
  | true =>
    refine pe_imp (pe_ifExp ht (h1 rfl) (N b)) fun σ H Q h => ?_
    cases o with
    | val d nw c' => exact ⟨h.1, fun H1 e1 p1 => ⟨h.1.mono e1 p1, fun v H2 e2 p2 dv hn => h.2 v H2 (e1.trans e2) p2 dv fun q => (hn q).back e1⟩⟩
    | ex C fs c' => exact ⟨h.1, fun H1 e1 p1 => ⟨h.1.mono e1 p1, fun dx fv σ' H2 e2 s2 hx hf => h.2 dx fv σ' H2 (e1.trans e2) s2 hx hf⟩⟩
  | false =>
    refine pe_imp (pe_ifExp ht (N a) (h2 rfl)) fun σ H Q h => ?_
    cases o with
    | val d nw c' =>
      refine ⟨h.1, fun H1 e1 p1 => ?_⟩
      refine iteF ?_
      exact ⟨h.1.mono e1 p1, fun v H2 e2 p2 dv hn => h.2 v H2 (e1.trans e2) p2 dv fun q => (hn q).back e1⟩
    | ex C fs c' =>
      refine ⟨h.1, fun H1 e1 p1 => ?_⟩
      refine iteF ?_
      exact ⟨h.1.mono e1 p1, fun dx fv σ' H2 e2 s2 hx hf => h.2 dx fv σ' H2 (e1.trans e2) s2 hx hf⟩
/-- a bool as a test -/
theorem rt_val {k : Bool} (h : RE X W p ρ c e (.val (.bl k) nw c1)) (he : ∀ whole, isTrue e X.env whole = (do let v ← whole; standAt e.pos; holding [v] (truthy v)) := by intro _; rfl) : RT X W p ρ c e (.val k c1) :=
  pt_imp (pt_val h he) fun σ H Q ⟨s, kk⟩ => ⟨s, fun v H1 e1 p1 dv _ => by
    cases dv
    exact ⟨k, rfl, kk H1 e1 p1⟩⟩
theorem rt_ex {C : Addr} {fs : List (Str × D)} (h : RE X W p ρ c e (.ex C fs c1)) (he : ∀ whole, isTrue e X.env whole = (do let v ← whole; standAt e.pos; holding [v] (truthy v)) := by intro _; rfl) : RT X W p ρ c e (.ex C fs c1) :=
  pt_imp (pt_val h he) fun σ H Q q => q
/-- a list's truth -/
theorem rt_lst {g : G} {ds : List D} (h : RE X W p ρ c e (.val (.lst g ds) nw c1)) (he : ∀ whole, isTrue e X.env whole = (do let v ← whole; standAt e.pos; holding [v] (truthy v)) := by intro _; rfl) : RT X W p ρ c e (.val (!ds.isEmpty) c1) :=
  pt_imp (pt_truth h he) fun σ H Q ⟨s, kk⟩ => ⟨s, fun v H1 e1 p1 dv _ => by
    cases dv with
    | lst _ h r =>
      refine ⟨!ds.isEmpty, .inl ⟨_, un_sqL h, ?_⟩, kk H1 e1 p1⟩
      cases r <;> rfl⟩
theorem rt_not {k : Bool} (h : RT X W p ρ c a (.val k c1)) : RT X W p ρ c (.UnaryOp .Not a pos) (.val (!k) c1) :=
  pt_imp (pt_not h) fun σ H Q ⟨s, kk⟩ => ⟨s, fun H1 e1 p1 => kk H1 e1 p1⟩
def RW (X : Cx) (W : WX) (p : HD) (ρ : Rho) (c : PC) (e : Expr) (o : TO) : Prop := PW X e (tT X.K W p ρ c o)
theorem rw_or {rest : List Expr} {k1 k2 : Bool} (ha : RT X W p ρ c a (.val k1 c1)) (hb : k1 = false → RW X W p ρ c1 (.BoolOp .Or (b :: rest) pos) (.val k2 c1)) : RW X W p ρ c (.BoolOp .Or (a :: b :: rest) pos) (.val (k1 || k2) c1) := by
  have N : PW X (.BoolOp .Or (b :: rest) pos) (fun _ _ _ => False) := ⟨fun _ _ _ _ _ _ _ z => z.elim⟩
  cases k1 with
  | true =>
    exact pw_imp (pw_or ha N) fun σ H Q ⟨s, kk⟩ => ⟨s, fun H1 e1 p1 => kk H1 e1 p1⟩
  | false =>
    refine pw_imp (pw_or ha (hb rfl)) fun σ H Q ⟨s, kk⟩ => ⟨s, fun H1 e1 p1 => ?_⟩
    refine iteF ?_
    exact ⟨s.mono e1 p1, fun H2 e2 p2 => kk H2 (e1.trans e2) p2⟩
theorem rw_or1 {k : Bool} (ha : RT X W p ρ c a (.val k c1)) : RW X W p ρ c (.BoolOp .Or [a] pos) (.val k c1) := pw_or1 ha
theorem rw_and {rest : List Expr} {k1 k2 : Bool} (ha : RT X W p ρ c a (.val k1 c1)) (hb : k1 = true → RW X W p ρ c1 (.BoolOp .And (b :: rest) pos) (.val k2 c1)) : RW X W p ρ c (.BoolOp .And (a :: b :: rest) pos) (.val (k1 && k2) c1) := by
  have N : PW X (.BoolOp .And (b :: rest) pos) (fun _ _ _ => False) := ⟨fun _ _ _ _ _ _ _ z => z.elim⟩
  cases k1 with
  | false =>
    refine pw_imp (pw_and ha N) fun σ H Q ⟨s, kk⟩ => ⟨s, fun H1 e1 p1 => ?_⟩
    refine iteF ?_
    exact kk H1 e1 p1
  | true =>
    exact pw_imp (pw_and ha (hb rfl)) fun σ H Q ⟨s, kk⟩ => ⟨s, fun H1 e1 p1 => ⟨s.mono e1 p1, fun H2 e2 p2 => kk H2 (e1.trans e2) p2⟩⟩
theorem rw_and1 {k : Bool} (ha : RT X W p ρ c a (.val k c1)) : RW X W p ρ c (.BoolOp .And [a] pos) (.val k c1) := pw_and1 ha
theorem RW.rt {o : TO} (h : RW X W p ρ c e o) : RT X W p ρ c e o := PW.pt h

/-! ### arguments, displays -/
theorem ra_nil : RA X W p ρ c [] (.val [] c) := pa_imp pa_nil fun σ H Q ⟨s, k⟩ => k [] H (Ext.refl p H) s.pl .nil
theorem ra_cons {ds : List D} (ha : RE X W p ρ c e (.val d nw c1)) (hr : RA X W p ρ c1 es (.val ds c2)) (hs : starEach (e :: es) X.env = (false, eval e X.env) :: starEach es X.env := by rfl) : RA X W p ρ c (e :: es) (.val (d :: ds) c2) :=
  pa_imp (pa_cons ha hr hs) fun σ H Q ⟨s, k⟩ => ⟨s, fun v H1 e1 p1 dv _ => ⟨s.mono e1 p1, fun vs H2 e2 p2 dvs => k (v :: vs) H2 (e1.trans e2) p2 (.cons (dv.mono e2) dvs)⟩⟩
theorem sz_le {n : Nat} (h : n ≤ 100000) : n ≤ sizeLine := Nat.le_trans h (by decide)
theorem sz_lt {n : Nat} (h : n < 100000) : n < sizeLine := Nat.lt_of_lt_of_le h (by decide)
theorem hide_upd {p : HD} {H : Hp} {c : PC} {a : Addr} {o : HO} (hp : PoolAt K p H c) (n : H a = none) : hide p (upd H a o) a = some o := by
  rw [hide_ne (hp.not n), upd_same]
/-- a written list stands behind the run's own objects -/
def tLstB (t : TA) : TE := fun σ H Q => t σ H fun xs H1 => xs.length ≤ sizeLine ∧ ∀ p, H1 p = none → p ≠ sysModules → Q (.ref p) (upd H1 p (.lst xs))
theorem pe_lstB {t : TA} (h : PA X es t) : PE X (.List es pos) (tLstB t) := ⟨fun pins s σ H Q I hq =>
  wpAny_List_spliced (thn (h.run pos pins s σ H _ I hq) fun us sh ⟨vs, H1, J, rv, hz, q⟩ => by
    have nf : H1 sh.heap.objs.size = none := J.hok.fresh (Nat.le_refl _)
    refine ⟨by rw [← rv.length]; exact hz, .ref sh.heap.objs.size, upd H1 sh.heap.objs.size (.lst vs), ?_, rfl, q _ nf (Nat.ne_of_gt J.big)⟩
    exact J.laid (t' := sh.toks) (fun b u y => Heap.get?_push_of_some _ y) (Nat.le_refl _) ⟨hz, us, 0, rv, Heap.get?_push_size _ rfl⟩)⟩
theorem re_lst {ds : List D} (h : RA X W p ρ c es (.val ds c1)) (hl : ds.length ≤ 100000) : RE X W p ρ c (.List es pos) (.val (.lst ⟨true, true⟩ ds) true c1) :=
  pe_imp (pe_lstB h) fun σ H Q ⟨s, k⟩ => ⟨s, fun vs H1 e1 p1 dvs => ⟨by rw [dvs.length]; exact sz_le hl, fun a n hb =>
    k _ _ (e1.trans (Ext.new n)) (p1.upd n) (.lst ⟨fun _ => hb, fun _ => hide_upd p1 n⟩ (.inl (.inl (hide_upd p1 n))) (dvs.mono (Ext.new n))) fun _ => (New.lst p1 n dvs).back e1⟩⟩
theorem re_tup {ds : List D} {x1 : Nat} (h : RA X W p ρ c es (.val ds c1)) (hl : ds.length ≤ 100000) : RE X W p ρ c (.Tuple es x1 pos) (.val (.tup ds) true c1) :=
  pe_imp (pe_tup h) fun σ H Q ⟨s, k⟩ => ⟨s, fun vs H1 e1 p1 dvs => ⟨by rw [dvs.length]; exact sz_le hl, fun a n =>
    k _ _ (e1.trans (Ext.new n)) (p1.upd n) (.tup (.inl (.inl (hide_upd p1 n))) (dvs.mono (Ext.new n))) fun _ => (New.oth p1 n (by intro _ _ z; cases z)).back e1⟩⟩

/-! ### subscripts -/
theorem re_ix {r : R2} (hr : IxR X r) (ha : RE X W p ρ c a (.val d1 n1 c1)) (hb : RE X W p ρ c1 b (.val d2 n2 c2)) (hv : OV X.K p r d1 d2 d nw c2) (hs : PlainIx b := by exact fun _ _ => rfl) : RE X W p ρ c (.Subscript a b pos) (.val d nw c2) :=
  pe_imp (pe_ix hr ha hb hs) fun σ H Q ⟨s, k⟩ => two (W := W) s rfl rfl fun v u H1 e1 p1 dv du => hv v u H1 Q dv du p1 fun w H2 e2 p2 dw hn => k w H2 (e1.trans e2) p2 dw fun q => (hn q).back e1
theorem dvs_atI {H : Hp} {vs : List V} {ds : List D} {i : Int} {j : Nat} {d : D} (r : DVs K p H vs ds) (e : i = (j : Int)) (h : ds[j]? = some d) : ∃ v, atI vs i = some v ∧ DV K p H v d := by
  obtain ⟨v, h1, h2⟩ := r.get h
  exact ⟨v, at_of e h1, h2⟩
theorem ov_ixL {g : G} {ds : List D} {i : Int} {j : Nat} {d : D} (e : i = (j : Int)) (h : ds[j]? = some d) : OV K p (rIx K) (.lst g ds) (.int i) d false c := fun v u H Q dv du hp k => by
  cases dv with
  | lst _ hq r =>
    cases du
    obtain ⟨w, h1, h2⟩ := dvs_atI r e h
    exact .inl ⟨_, _, i, w, rfl, rfl, un_sqL hq, h1, k w H (Ext.refl p H) hp h2 fun q => nomatch q⟩
theorem ov_ixT {ds : List D} {i : Int} {j : Nat} {d : D} (e : i = (j : Int)) (h : ds[j]? = some d) : OV K p (rIx K) (.tup ds) (.int i) d false c := fun v u H Q dv du hp k => by
  cases dv with
  | tup hq r =>
    cases du
    obtain ⟨w, h1, h2⟩ := dvs_atI r e h
    exact .inr (.inl ⟨_, _, i, w, rfl, rfl, un_sqT hq, h1, k w H (Ext.refl p H) hp h2 fun q => nomatch q⟩)
theorem ov_ixS {s : Str} {i : Int} {j : Nat} {ch : Nat} (hz : s.length ≤ sizeLine) (e : i = (j : Int)) (h : s.cps.toList[j]? = some ch) : OV K p (rIx K) (.str s) (.int i) (.str ⟨#[ch]⟩) true c := fun v u H Q dv du hp k => by
  cases dv
  cases du
  exact .inr (.inr ⟨s, i, ch, rfl, rfl, hz, (by rw [e]; exact atI_nat h), k _ H (Ext.refl p H) hp (.str _) fun _ => New.sc (by intro a h; cases h)⟩)

/-! ### calls of built-ins -/
def CV (K : PySem.W.Frag) (p : HD) (r : List V → Hp → VK → Prop) (xs : List D) (z : D) (nw : Bool) (c : PC) : Prop :=
  ∀ (vs : List V) (H : Hp) (Q : VK), DVs K p H vs xs → PoolAt K p H c → (∀ w H', Ext p H H' → PoolAt K p H' c → DV K p H' w z → (nw = true → New K p H H' c w z) → Q w H') → r vs H Q
theorem re_callB {id : String} {x : Str} {ps : Pos} {r : List V → Hp → VK → Prop} {ds : List D} (hc : CallR X (.builtin id) r) (hm : X.mg x = none) (hv : bootBuiltins x = some (.builtin id)) (ha : RA X W p ρ c (e :: es) (.val ds c1)) (hr : CV X.K p r ds d nw c1)
    (hg : Gl X x := by rfl) (hn : x ≠ "__name__" := by decide) (hdb : (x == ("__debug__" : Str)) = false := by decide)
    (he : starEach (e :: es) X.env = (false, eval e X.env) :: starEach es X.env := by rfl) (hpl : (backTo pos (starEach es X.env)).any (·.1) = false := by rfl) : RE X W p ρ c (.Call (.Name x ps) (e :: es) [] pos) (.val d nw c1) :=
  pe_imp (pe_callB hc hg hm hv ha hn hdb he hpl) fun σ H Q ⟨s, k⟩ => ⟨s, fun vs H1 e1 p1 dvs => hr vs H1 Q dvs p1 fun w H2 e2 p2 dw hn => k w H2 (e1.trans e2) p2 dw fun q => (hn q).back e1⟩
theorem re_callT {T : String} {x : Str} {ps : Pos} {r : List V → Hp → VK → Prop} {ds : List D} (hc : CallR X (.type T) r) (hm : X.mg x = none) (hv : bootBuiltins x = some (.type T)) (ha : RA X W p ρ c (e :: es) (.val ds c1)) (hr : CV X.K p r ds d nw c1)
    (hg : Gl X x := by rfl) (hn : x ≠ "__name__" := by decide) (hdb : (x == ("__debug__" : Str)) = false := by decide)
    (he : starEach (e :: es) X.env = (false, eval e X.env) :: starEach es X.env := by rfl) (hpl : (backTo pos (starEach es X.env)).any (·.1) = false := by rfl) : RE X W p ρ c (.Call (.Name x ps) (e :: es) [] pos) (.val d nw c1) :=
  pe_imp (pe_callTy hc hg hm hv ha hn hdb he hpl) fun σ H Q ⟨s, k⟩ => ⟨s, fun vs H1 e1 p1 dvs => hr vs H1 Q dvs p1 fun w H2 e2 p2 dw hn => k w H2 (e1.trans e2) p2 dw fun q => (hn q).back e1⟩
theorem cv_lenS {s : Str} (hz : s.length ≤ sizeLine) : CV K p (fun xs H Q => ∃ z, xs = [.str z] ∧ z.length ≤ sizeLine ∧ Q (.int z.length) H) [.str s] (.int s.length) true c := fun vs H Q dvs hp k => by
  cases dvs with
  | cons h r =>
    cases r
    cases h
    exact ⟨s, rfl, hz, k _ H (Ext.refl p H) hp (.int _) fun _ => New.sc (by intro a h; cases h)⟩
theorem cv_int {i : Int} : CV K p (fun xs H Q => (∃ i, xs = [.int i] ∧ Q (.int i) H) ∨ ∃ k, xs = [.bl k] ∧ Q (.int (if k then 1 else 0)) H) [.int i] (.int i) true c := fun vs H Q dvs hp k => by
  cases dvs with
  | cons h r =>
    cases r
    cases h
    exact .inl ⟨i, rfl, k _ H (Ext.refl p H) hp (.int _) fun _ => New.sc (by intro a h; cases h)⟩
end
end LA

namespace LA
open PySem PySem.Spec PyProof.Rows L2
/-! ### what a def promises -/
abbrev FSpec := List D → PC → EO → Prop
def FO (K : PySem.W.Frag) (p : HD) (H : Hp) (Q : VK) (E : XK) : EO → Prop
  | .val d nw c' => ∀ v H', Ext p H H' → PoolAt K p H' c' → DV K p H' v d → (nw = true → New K p H H' c' v d) → Q v H'
  | .ex C fs c' => ∀ (dx : Addr) (fv : List (Str × V)) (H' : Hp), Ext p H H' → PoolAt K p H' c' → hide p H' dx = some (.xd fv) → DVf K p H' fv fs → E (.ref C) (some dx) H'
def spF (K : PySem.W.Frag) (R : FSpec) : Sp := fun vs H Q E => ∃ (p : HD) (c : PC) (ds : List D) (o : EO), DVs K p H vs ds ∧ PoolAt K p H c ∧ R ds c o ∧ FO K p H Q E o
def startR (N : List Str) (ds : List D) : Rho := ds.map some ++ List.replicate (N.length - ds.length) none
theorem sr_start {K : PySem.W.Frag} {p : HD} {H : Hp} {c : PC} {N : List Str} {vs : List V} {ds : List D} (h : DVs K p H vs ds) (q : PoolAt K p H c) : SR K p H (L2.start N vs) (startR N ds) c := by
  have hl := h.length
  refine ⟨?_, fun i d e => ?_, q⟩
  · unfold L2.start startR
    rw [List.length_append, List.length_append, List.length_map, List.length_map, List.length_replicate, List.length_replicate, hl]
  · unfold startR at e
    by_cases hi : i < ds.length
    · rw [List.getElem?_append_left (by rw [List.length_map]; exact hi), List.getElem?_map] at e
      cases g : ds[i]? with
      | none =>
        rw [g] at e
        cases e
      | some x =>
        rw [g] at e
        have e' : x = d := Option.some.inj (Option.some.inj e)
        subst e'
        obtain ⟨v, h1, h2⟩ := h.get g
        refine ⟨v, ?_, h2⟩
        unfold L2.start
        rw [List.getElem?_append_left (by rw [List.length_map, hl]; exact hi), List.getElem?_map, h1]
        rfl
    · rw [List.getElem?_append_right (by rw [List.length_map]; omega), List.getElem?_replicate] at e
      split at e <;> cases e
section
variable {X : Cx} {W : WX} {p : HD} {ρ ρ1 : Rho} {c c1 c2 c3 : PC} {e a b : Expr} {es : List Expr} {pos : Pos} {d d1 d2 : D} {n1 n2 nw : Bool} {o : EO} {so : SO} {st : Stmt} {rest : List Stmt}
variable {CX : CXT} {k : Nat} {f : Addr} {fd : FuncData} {ps : List Str} {R : FSpec} {x : Str} {xp : Pos} {ds : List D}
/-- a def that raises nothing is called -/
theorem re_call (G : FnOk X.prog X.w X.K X.mg X.base CX0 k f fd ps (spF X.K R)) (hr : Room k X.A) (hm : X.mg x = some (.ref f)) (hk : PySem.W.keepIn X.K (.ref f) = true) (hb : Binds X.K fd ps []) (ha : RA X W p ρ c (e :: es) (.val ds c1)) (ho : R ds c1 (.val d nw c2))
    (hg : Gl X x := by rfl) (hdb : (x == ("__debug__" : Str)) = false := by decide) (he : starEach (e :: es) X.env = (false, eval e X.env) :: starEach es X.env := by rfl) (hpl : (backTo pos (starEach es X.env)).any (·.1) = false := by rfl) :
    RE X W p ρ c (.Call (.Name x xp) (e :: es) [] pos) (.val d nw c2) :=
  pe_imp (pe_call G hr hg hm hk hb .nil pass0 ha hdb he hpl) fun σ H Q ⟨s, kk⟩ => ⟨s, fun vs H1 e1 p1 dvs => by
    show spF X.K R (vs ++ []) H1 Q E0
    rw [List.append_nil]
    exact ⟨p, c1, ds, .val d nw c2, dvs, p1, ho, fun v H2 e2 p2 dv hn => kk v H2 (e1.trans e2) p2 dv fun q => (hn q).back e1⟩⟩
theorem fo_at {K : PySem.W.Frag} {σ : L2.St} {H H1 : Hp} {Q : VK} (h : tE K W p ρ c o σ H Q) (e1 : Ext p H H1) : FO K p H1 Q (WE W σ) o := by
  cases o with
  | val d nw c' => exact fun v H2 e2 p2 dv hn => h.2 v H2 (e1.trans e2) p2 dv fun q => (hn q).back e1
  | ex C fs c' => exact fun dx fv H2 e2 p2 hx hf => h.2 dx fv σ H2 (e1.trans e2) (h.1.mono (e1.trans e2) p2) hx hf
theorem tE_sr {K : PySem.W.Frag} {σ : L2.St} {H : Hp} {Q : VK} (h : tE K W p ρ c o σ H Q) : SR K p H σ ρ c := by
  cases o <;> exact h.1
/-- a def that may raise is called -/
theorem re_callX (tk : Takes X W) (G : FnOk X.prog X.w X.K X.mg X.base (L2.CX X.prog X.w) k f fd ps (spF X.K R)) (hr : Room k X.A) (hm : X.mg x = some (.ref f)) (hk : PySem.W.keepIn X.K (.ref f) = true) (hb : Binds X.K fd ps []) (ha : RA X W p ρ c (e :: es) (.val ds c1)) (ho : R ds c1 o)
    (hg : Gl X x := by rfl) (hdb : (x == ("__debug__" : Str)) = false := by decide) (he : starEach (e :: es) X.env = (false, eval e X.env) :: starEach es X.env := by rfl) (hpl : (backTo pos (starEach es X.env)).any (·.1) = false := by rfl) :
    RE X W p ρ c (.Call (.Name x xp) (e :: es) [] pos) o :=
  pe_imp (pe_callS G hr hg hm hk hb (fun σ => passAt tk σ) ha hdb he hpl) fun σ H Q h => ⟨tE_sr h, fun vs H1 e1 p1 dvs => ⟨p, c1, ds, o, dvs, p1, ho, fo_at h e1⟩⟩
/-! with keywords -/
def tCallKS (n m : Nat) (sp : Sp) (gV : List V → List V → List V) (E : L2.St → XK) (t tk : TA) : TE := fun σ H Q => t σ H fun vs H1 => tk σ H1 fun zs H2 => vs.length = n ∧ zs.length = m ∧ sp (gV vs zs) H2 Q (E σ)
theorem run_fnKS {n : Nat} {ks : List Str} {g : List Value → List Value → List Value} {gV : List V → List V → List V} {sp : Sp} {E : L2.St → XK} {pins : List (Addr × Obj)} {σ : L2.St} {H : Hp} {s : Shared} {Q : VK} {us ws : List Value} {vs zs : List V}
    (F : FnOk X.prog X.w X.K X.mg X.base CX k f fd ps sp) (hr : Room k X.A) (hb : KBn X.K fd ps n ks g gV) (hx : PassesAt CX X σ (E σ))
    (I : Inv X pins σ H s) (r : Vals vs us) (rz : Vals zs ws) (l1 : vs.length = n) (l2 : zs.length = ks.length) (h : sp (gV vs zs) H Q (E σ)) : wpAny (model X.prog X.w) X.A (call (.ref f) us (ks.zip ws)) (EP X pins σ Q) X.xe s := by
  have r2 := hb.rel r rz
  refine wpAny_call (codeAny_mono (F.run X.A X.stack s H ⟨us, ks.zip ws⟩ (g us ws) (gV vs zs) Q (E σ) hr I.env0 (hb.to s us ws I.kIn (r.length.symm.trans l1) (rz.length.symm.trans l2)) r2 h) fun r s' hq => ?_)
  cases r with
  | error e => exact hx pins H s e s' I hq
  | ok fl =>
    cases fl with
    | ret u => exact I.after hq
    | next => exact False.elim hq
    | brk => exact False.elim hq
    | cont => exact False.elim hq
theorem pe_callKS {n : Nat} {ks : List Str} {g : List Value → List Value → List Value} {gV : List V → List V → List V} {sp : Sp} {E : L2.St → XK} {kws : List Keyword} {t tk : TA} (F : FnOk X.prog X.w X.K X.mg X.base CX k f fd ps sp) (hr : Room k X.A) (hg : Gl X x) (hm : X.mg x = some (.ref f)) (hk : PySem.W.keepIn X.K (.ref f) = true) (hb : KBn X.K fd ps n ks g gV) (hx : ∀ σ, PassesAt CX X σ (E σ))
    (ha : PA X (e :: es) t) (hkw : PK X kws tk) (hall : (backToKw pos (keywordEach kws X.env)).all (·.1.isSome) = true := by rfl) (hks : (backToKw pos (keywordEach kws X.env)).filterMap (·.1) = ks := by rfl)
    (hdb : (x == ("__debug__" : Str)) = false := by decide) (he : starEach (e :: es) X.env = (false, eval e X.env) :: starEach es X.env := by rfl)
    (hpl : ((backTo pos (starEach (e :: es) X.env)).any (·.1) || (backToKw pos (keywordEach kws X.env)).any (·.1.isNone)) = false := by rfl) :
    PE X (.Call (.Name x xp) (e :: es) kws pos) (tCallKS n ks.length sp gV E t tk) := by
  refine ⟨fun pins s σ H Q I h => ?_⟩
  refine wpAny_Call_Name_kw (ld_glob I hg hm ?_ hdb)
  refine PySem.W.callWith_KW (h₀ := X.base) I.ok.mod.kin hk hall (thn (ha.run pos pins s σ H _ I h) fun us s1 ⟨vs, H1, I1, r, q⟩ => ?_) hpl he
  refine thn (hkw.run pos pins s1 σ H1 _ I1 q) fun ws s2 ⟨zs, H2, I2, rz, l1, l2, q2⟩ => ⟨I2.kIn, ?_⟩
  rw [hks]
  exact run_fnKS F hr hb (hx σ) I2 r rz l1 l2 q2
theorem pe_callKS0 {ks : List Str} {g : List Value → List Value → List Value} {gV : List V → List V → List V} {sp : Sp} {E : L2.St → XK} {kws : List Keyword} {tk : TA} (F : FnOk X.prog X.w X.K X.mg X.base CX k f fd ps sp) (hr : Room k X.A) (hg : Gl X x) (hm : X.mg x = some (.ref f)) (hk : PySem.W.keepIn X.K (.ref f) = true) (hb : KBn X.K fd ps 0 ks g gV) (hx : ∀ σ, PassesAt CX X σ (E σ))
    (hkw : PK X kws tk) (hall : (backToKw pos (keywordEach kws X.env)).all (·.1.isSome) = true := by rfl) (hks : (backToKw pos (keywordEach kws X.env)).filterMap (·.1) = ks := by rfl)
    (hdb : (x == ("__debug__" : Str)) = false := by decide)
    (hpl : ((backTo pos (starEach [] X.env)).any (·.1) || (backToKw pos (keywordEach kws X.env)).any (·.1.isNone)) = false := by rfl) :
    PE X (.Call (.Name x xp) [] kws pos) (tCallKS 0 ks.length sp gV E tNil tk) := by
  refine ⟨fun pins s σ H Q I h => ?_⟩
  refine wpAny_Call_Name_kw (ld_glob I hg hm ?_ hdb)
  have h : tk σ H fun zs H2 => ([] : List V).length = 0 ∧ zs.length = ks.length ∧ sp (gV [] zs) H2 Q (E σ) := h
  refine PySem.W.callWith_KW0 (h₀ := X.base) I.ok.mod.kin hk hall (thn (hkw.run pos pins s σ H _ I h) fun ws s2 ⟨zs, H2, I2, rz, l1, l2, q2⟩ => ⟨I2.kIn, ?_⟩) hpl
  rw [hks]
  exact run_fnKS F hr hb (hx σ) I2 .nil rz l1 l2 q2
abbrev RK (X : Cx) (W : WX) (p : HD) (ρ : Rho) (c : PC) (ks : List Keyword) (o : AO) : Prop := PK X ks (tA X.K W p ρ c o)
theorem pk_imp {ks : List Keyword} {t t' : TA} (h : PK X ks t) (w : ∀ σ H Q, t' σ H Q → t σ H Q) : PK X ks t' := ⟨fun ps pins s σ H Q I q => h.run ps pins s σ H Q I (w σ H Q q)⟩
theorem rk_nil : RK X W p ρ c [] (.val [] c) := pk_imp pk_nil fun σ H Q ⟨s, k⟩ => k [] H (Ext.refl p H) s.pl .nil
theorem rk_cons {nm : Option Str} {kpos : Pos} {kws : List Keyword} {ds : List D} (ha : RE X W p ρ c e (.val d nw c1)) (hr : RK X W p ρ c1 kws (.val ds c2)) : RK X W p ρ c (⟨nm, e, kpos⟩ :: kws) (.val (d :: ds) c2) :=
  pk_imp (pk_cons ha hr) fun σ H Q ⟨s, k⟩ => ⟨s, fun v H1 e1 p1 dv _ => ⟨s.mono e1 p1, fun vs H2 e2 p2 dvs => k (v :: vs) H2 (e1.trans e2) p2 (.cons (dv.mono e2) dvs)⟩⟩
/-- f(a, .., k = v, ..): one positional value, one keyword, two parameters in that order -/
theorem re_callX1K {n : Nat} {ks : List Str} {g : List Value → List Value → List Value} {gV : List V → List V → List V} {kws : List Keyword} {es' : List D} (tk : Takes X W) (G : FnOk X.prog X.w X.K X.mg X.base (L2.CX X.prog X.w) k f fd ps (spF X.K R)) (hr : Room k X.A) (hm : X.mg x = some (.ref f)) (hk : PySem.W.keepIn X.K (.ref f) = true)
    (hb : KBn X.K fd ps n ks g gV) (ha : RA X W p ρ c (e :: es) (.val ds c1)) (hkw : RK X W p ρ c1 kws (.val es' c2)) (hn1 : ds.length = n) (hn2 : es'.length = ks.length) {gD : List D} (hg' : ∀ {H : Hp} {vs zs : List V}, DVs X.K p H vs ds → DVs X.K p H zs es' → DVs X.K p H (gV vs zs) gD) (ho : R gD c2 o)
    (hg : Gl X x := by rfl) (hall : (backToKw pos (keywordEach kws X.env)).all (·.1.isSome) = true := by rfl) (hks : (backToKw pos (keywordEach kws X.env)).filterMap (·.1) = ks := by rfl)
    (hdb : (x == ("__debug__" : Str)) = false := by decide) (he : starEach (e :: es) X.env = (false, eval e X.env) :: starEach es X.env := by rfl)
    (hpl : ((backTo pos (starEach (e :: es) X.env)).any (·.1) || (backToKw pos (keywordEach kws X.env)).any (·.1.isNone)) = false := by rfl) :
    RE X W p ρ c (.Call (.Name x xp) (e :: es) kws pos) o :=
  pe_imp (pe_callKS G hr hg hm hk hb (fun σ => passAt tk σ) ha hkw hall hks hdb he hpl) fun σ H Q h => ⟨tE_sr h, fun vs H1 e1 p1 dvs => ⟨(tE_sr h).mono e1 p1, fun zs H2 e2 p2 dzs =>
    ⟨by rw [dvs.length]; exact hn1, by rw [dzs.length]; exact hn2, p, c2, gD, o, hg' (dvs.mono e2) dzs, p2, ho, fo_at h (e1.trans e2)⟩⟩⟩
theorem re_callX0K {ks : List Str} {g : List Value → List Value → List Value} {gV : List V → List V → List V} {kws : List Keyword} {es' : List D} (tk : Takes X W) (G : FnOk X.prog X.w X.K X.mg X.base (L2.CX X.prog X.w) k f fd ps (spF X.K R)) (hr : Room k X.A) (hm : X.mg x = some (.ref f)) (hk : PySem.W.keepIn X.K (.ref f) = true)
    (hb : KBn X.K fd ps 0 ks g gV) (hkw : RK X W p ρ c kws (.val es' c2)) (hn2 : es'.length = ks.length) {gD : List D} (hg' : ∀ {H : Hp} {zs : List V}, DVs X.K p H zs es' → DVs X.K p H (gV [] zs) gD) (ho : R gD c2 o)
    (hg : Gl X x := by rfl) (hall : (backToKw pos (keywordEach kws X.env)).all (·.1.isSome) = true := by rfl) (hks : (backToKw pos (keywordEach kws X.env)).filterMap (·.1) = ks := by rfl)
    (hdb : (x == ("__debug__" : Str)) = false := by decide)
    (hpl : ((backTo pos (starEach [] X.env)).any (·.1) || (backToKw pos (keywordEach kws X.env)).any (·.1.isNone)) = false := by rfl) :
    RE X W p ρ c (.Call (.Name x xp) [] kws pos) o :=
  pe_imp (pe_callKS0 G hr hg hm hk hb (fun σ => passAt tk σ) hkw hall hks hdb hpl) fun σ H Q h => ⟨tE_sr h, fun zs H2 e2 p2 dzs =>
    ⟨rfl, by rw [dzs.length]; exact hn2, p, c2, gD, o, hg' dzs, p2, ho, fo_at h e2⟩⟩

/-! ### statements -/
theorem rs_ret (h : RE X W p ρ c e (.val d nw c1)) : RS X W p ρ c (.Return (some e) pos) (.rt d nw c1) := ps_imp (ps_ret h) fun D σ H ⟨s, k⟩ => ⟨s, fun v H1 e1 p1 dv hn => k v H1 e1 p1 dv hn⟩
theorem tS_ex {K : PySem.W.Frag} {C : Addr} {fs : List (Str × D)} {De : Ends} {σ : L2.St} {H : Hp} (h : tSt K W p ρ c (.ex C fs c1) De σ H) (Q : VK) : tE K W p ρ c (.ex C fs c1) σ H Q := ⟨h.1, fun dx fv σ' H1 e1 s1 hx hf => h.2 ρ dx fv σ' H1 e1 s1 rfl hx hf⟩
theorem rs_retX {C : Addr} {fs : List (Str × D)} (h : RE X W p ρ c e (.ex C fs c1)) : RS X W p ρ c (.Return (some e) pos) (.ex C fs c1) := ps_imp (ps_ret h) fun D σ H q => tS_ex q _
theorem rs_exprX {C : Addr} {fs : List (Str × D)} (h : RE X W p ρ c e (.ex C fs c1)) (hs : swapsWith e none pos.line X.env = pure false := by rfl) : RS X W p ρ c (.Expr e pos) (.ex C fs c1) := ps_imp (ps_expr h hs) fun D σ H q => tS_ex q _
theorem rs_expr (h : RE X W p ρ c e (.val d nw c1)) (hs : swapsWith e none pos.line X.env = pure false := by rfl) : RS X W p ρ c (.Expr e pos) (.nx ρ c1) := ps_imp (ps_expr h hs) fun D σ H ⟨s, k⟩ => ⟨s, fun v H1 e1 p1 dv hn => k σ H1 e1 (s.mono e1 p1)⟩
theorem rs_set (i : Nat) {x : Str} {pos' : Pos} (hN : X.N.Nodup) (h : RE X W p ρ c e (.val d nw c1)) (hi : X.N[i]? = some x := by rfl) (hx : Loc X.env.scope x := by first | exact Or.inl rfl | exact Or.inr rfl) (hs : swapsWith e (some (.Name x pos')) pos.line X.env = pure false := by rfl)
    (hf : X.fn x = true ∨ X.env.scope.names.lookup x = some .local := by first | exact .inl rfl | exact .inr rfl) : RS X W p ρ c (.Assign [.Name x pos'] e pos) (.nx (ρ.set i (some d)) c1) :=
  ps_imp (ps_set hN hi hx h hs hf) fun De σ H ⟨s, k⟩ => ⟨s, fun v H1 e1 p1 dv hn => k _ H1 e1 ((s.mono e1 p1).set i dv)⟩
theorem rss_nil : RSs X W p ρ c [] (.nx ρ c) := pss_imp pss_nil fun De σ H ⟨s, k⟩ => k σ H (Ext.refl p H) s
theorem rss_cons (h1 : RS X W p ρ c st (.nx ρ1 c1)) (h2 : RSs X W p ρ1 c1 rest so) (hl : ρ1.length = ρ.length := by rfl) : RSs X W p ρ c (st :: rest) so := by
  refine pss_imp (pss_cons h1 h2) fun De σ H h => ?_
  cases so with
  | nx ρ' c' => exact ⟨h.1, fun σ1 H1 e1 s1 => ⟨s1, fun σ2 H2 e2 s2 => h.2 σ2 H2 (e1.trans e2) s2⟩⟩
  | rt d nw c' => exact ⟨h.1, fun σ1 H1 e1 s1 => ⟨s1, fun v H2 e2 p2 dv hn => h.2 v H2 (e1.trans e2) p2 dv fun q => (hn q).back e1⟩⟩
  | ex C fs c' => exact ⟨h.1, fun σ1 H1 e1 s1 => ⟨s1, fun ρ' dx fv σ2 H2 e2 s2 hl' hx hf => h.2 ρ' dx fv σ2 H2 (e1.trans e2) s2 (hl'.trans hl) hx hf⟩⟩
theorem rss_ret (h1 : RS X W p ρ c st (.rt d nw c1)) : RSs X W p ρ c (st :: rest) (.rt d nw c1) := pss_imp (pss_cons h1 pss_never) fun De σ H h => h
theorem rss_ex {C : Addr} {fs : List (Str × D)} (h1 : RS X W p ρ c st (.ex C fs c1)) : RSs X W p ρ c (st :: rest) (.ex C fs c1) := pss_imp (pss_cons h1 pss_never) fun De σ H h => h
theorem st_at {K : PySem.W.Frag} {De : Ends} {σ : L2.St} {H H1 : Hp} (h : tSt K W p ρ c so De σ H) (e1 : Ext p H H1) (p1 : PoolAt K p H1 c1) : tSt K W p ρ c1 so De σ H1 := by
  cases so with
  | nx ρ' c' => exact ⟨h.1.mono e1 p1, fun σ2 H2 e2 s2 => h.2 σ2 H2 (e1.trans e2) s2⟩
  | rt d nw c' => exact ⟨h.1.mono e1 p1, fun v H2 e2 p2 dv hn => h.2 v H2 (e1.trans e2) p2 dv fun q => (hn q).back e1⟩
  | ex C fs c' => exact ⟨h.1.mono e1 p1, fun ρ' dx fv σ2 H2 e2 s2 hl hx hf => h.2 ρ' dx fv σ2 H2 (e1.trans e2) s2 hl hx hf⟩
theorem st_sr {K : PySem.W.Frag} {De : Ends} {σ : L2.St} {H : Hp} (h : tSt K W p ρ c so De σ H) : SR K p H σ ρ c := by
  cases so <;> exact h.1
theorem rs_if {t : Expr} {A B : List Stmt} {kb : Bool} (ht : RT X W p ρ c t (.val kb c1)) (h1 : kb = true → RSs X W p ρ c1 A so) (h2 : kb = false → RSs X W p ρ c1 B so) : RS X W p ρ c (.If t A B pos) so := by
  cases kb with
  | true => exact ps_imp (ps_if ht (h1 rfl) pss_never) fun De σ H h => ⟨st_sr h, fun H1 e1 p1 => st_at h e1 p1⟩
  | false => exact ps_imp (ps_if ht pss_never (h2 rfl)) fun De σ H h => ⟨st_sr h, fun H1 e1 p1 => iteF (st_at h e1 p1)⟩
theorem rs_ifX {t : Expr} {A B : List Stmt} {C : Addr} {fs : List (Str × D)} (ht : RT X W p ρ c t (.ex C fs c1)) : RS X W p ρ c (.If t A B pos) (.ex C fs c1) :=
  ps_imp (ps_if ht pss_never pss_never) fun De σ H h => ⟨h.1, fun dx fv σ' H1 e1 s1 hx hf => h.2 ρ dx fv σ' H1 e1 s1 rfl hx hf⟩
end

/-! ### a def holds its promise -/
section
variable {P : Program} {w : World} {K : PySem.W.Frag} {mg : Str → Option Value} {base : Heap} {x qual : Str} {st : Stmt} {f : Addr} {fd : FuncData} {N ps : List Str} {k : Nat} {R : FSpec}
abbrev Wf : WX := fun _ _ _ _ => False
def BodyOk (X : Cx) (W : WX) (p : HD) (ρ : Rho) (c : PC) (body : List Stmt) : EO → Prop
  | .val d nw c' => RSs X W p ρ c body (.rt d nw c') ∨ (d = .non ∧ ∃ ρ', RSs X W p ρ c body (.nx ρ' c'))
  | .ex C fs c' => RSs X W p ρ c body (.ex C fs c')
theorem spF_len {vs : List V} {H : Hp} {Q : VK} {E : XK} (hl : ∀ ds c o, R ds c o → ds.length = ps.length) (h : spF K R vs H Q E) : vs.length = ps.length := by
  obtain ⟨p, c, ds, o, h1, _, h3, _⟩ := h
  rw [h1.length]
  exact hl _ _ _ h3
theorem fn_val (F : Fun K x qual st f fd) (S : FnScope N ps (defScope st)) (hl : ∀ ds c o, R ds c o → ds.length = ps.length) (hv : ∀ ds c o, R ds c o → ∃ d nw c', o = .val d nw c')
    (body : ∀ (cdv : Value) (A : Around) (outer : List Env) (s : Shared) (H : Hp) (E : XK), Room k (A.deeper (envOfC qual (defScope st) s.heap.objs.size f cdv)) → ∀ (p : HD) (ds : List D) (c : PC) (o : EO), R ds c o →
      BodyOk (cxOf CX0 P w K mg base N qual (defScope st) f cdv A outer s H E).nox Wf p (startR N ds) c (defBody st) o) : FnOk P w K mg base CX0 (k + 1) f fd ps (spF K R) := by
  refine F.ok S (fun vs H Q E h => spF_len hl h) (fun cdv A outer s H vs Q E hr h => ?_)
  obtain ⟨p, c, ds, o, h1, h2, h3, h4⟩ := h
  have b := body cdv A outer s H E hr p ds c o h3
  obtain ⟨d, nw, c', rfl⟩ := hv _ _ _ h3
  rcases b with b | ⟨rfl, ρ', b⟩
  · exact ⟨_, b, sr_start h1 h2, fun v H1 e1 p1 dv hn => h4 v H1 e1 p1 dv hn⟩
  · exact ⟨_, b, sr_start h1 h2, fun σ' H1 e1 s1 => h4 .non H1 e1 s1.pl .non fun _ => New.sc (by intro a q; cases q)⟩
theorem fn_exc (F : Fun K x qual st f fd) (S : FnScope N ps (defScope st)) (hl : ∀ ds c o, R ds c o → ds.length = ps.length)
    (body : ∀ (cdv : Value) (A : Around) (outer : List Env) (s : Shared) (H : Hp) (E : XK), Room k (A.deeper (envOfC qual (defScope st) s.heap.objs.size f cdv)) → ∀ (p : HD) (ds : List D) (c : PC) (o : EO), R ds c o →
      Takes (cxOf (L2.CX P w) P w K mg base N qual (defScope st) f cdv A outer s H E) (fun cls d _ H => E cls d H) →
      BodyOk (cxOf (L2.CX P w) P w K mg base N qual (defScope st) f cdv A outer s H E) (fun cls d _ H => E cls d H) p (startR N ds) c (defBody st) o) : FnOk P w K mg base (L2.CX P w) (k + 1) f fd ps (spF K R) := by
  refine F.okX S (fun vs H Q E h => spF_len hl h) (fun cdv A outer s H vs Q E hr h => ?_)
  obtain ⟨p, c, ds, o, h1, h2, h3, h4⟩ := h
  have b := body cdv A outer s H E hr p ds c o h3 (takes_of rfl rfl rfl rfl)
  cases o with
  | val d nw c' =>
    rcases b with b | ⟨rfl, ρ', b⟩
    · exact ⟨_, b, sr_start h1 h2, fun v H1 e1 p1 dv hn => h4 v H1 e1 p1 dv hn⟩
    · exact ⟨_, b, sr_start h1 h2, fun σ' H1 e1 s1 => h4 .non H1 e1 s1.pl .non fun _ => New.sc (by intro a q; cases q)⟩
  | ex C fs c' => exact ⟨_, b, sr_start h1 h2, fun ρ' dx fv σ' H1 e1 s1 _ hx hf => h4 dx fv H1 e1 s1.pl hx hf⟩
end
end LA

namespace LA
open PySem PySem.Spec PyProof.Rows L2
/-! ### what is walked -/
/-- pairs, each a new tuple -/
def Itp (n : Nat) (f g : Nat → V) : It :=
  ⟨fun i _ => i < n, fun i H v H' => ∃ T, v = .ref T ∧ H T = none ∧ H' = upd H T (.tup [f i, g i]), fun i _ => i = n⟩
theorem turn_pair {P : Program} {w : World} {K : PySem.W.Frag} {elts : List Expr} {kk : Nat} {tpos : Pos} {it : Addr} {fp wr : List Addr} {n : Nat} {f g : Nat → V} {P1 P2 : Nat → Value → Prop} {St : Nat → Heap → Prop}
    (G : ∀ A : Around, A.handled = none → GoesN P w A (.Tuple elts kk tpos) it fp wr n (fun i h₀ v h => ∃ T x y, v = .ref T ∧ h₀.objs.size ≤ T ∧ P1 i x ∧ P2 i y ∧ h.IsTuple T #[x, y]) St)
    (h1 : ∀ i x, i < n → P1 i x → RelV (f i) x) (h2 : ∀ i x, i < n → P2 i x → RelV (g i) x) (mem : it ∈ fp) (obj : ∀ i h, St i h → ∀ b ∈ fp, ∃ o, h.get? b = some o ∧ ∀ v, o.data ≠ .cell v)
    (hself : ∀ (A : Around) (i : Nat) (s : Shared) (Q : Value → Shared → Prop) (E : Value → Shared → Prop), St i s.heap → Q (.ref it) s → wpAny (model P w) A (pyIter (.ref it)) Q E s) :
    Turn P w K (.Tuple elts kk tpos) (Itp n f g) fp it St where
  mem := mem
  obj := obj
  keep := fun i h h' st k => (G { handled := none, frames := none, guards := none, depth := 0, units := 0 } rfl).frame i h h' st k
  item := by
    intro X hP hw hK hc i pins s σ H E I hf st hg
    subst hP hw hK
    have GA := G X.A (I.ok.hd hc)
    refine wpAny_mono (GA.goes i s (fun v s₂ => ∃ x H', Inv X pins σ H' s₂ ∧ RelV x v ∧ (Itp n f g).yld i H x H' ∧ St (i + 1) s₂.heap ∧ ∀ b ∈ fp, H' b = none) E hg st fun v h' tk hY st' hk _ => ?_) (fun r s1 ⟨v, e, q⟩ => ⟨v, e, q⟩) fun _ _ z => z
    obtain ⟨T, x, y, rfl, hT, p1, p2, ht⟩ := hY
    have new : ObjOk X.prog X.w (upd H T (.tup [f i, g i])) h' T (.tup [f i, g i]) := ⟨by show 2 ≤ sizeLine; decide, [x, y], .cons (h1 i x hg p1) (.cons (h2 i y hg p2) .nil), ht⟩
    have I1 : Inv X pins σ (upd H T (.tup [f i, g i])) { s with heap := h', toks := tk } := I.turnedNew (ch := wr) hk (fun b hb => hf b (GA.sub b hb)) hT new
    refine ⟨.ref T, _, I1, rfl, ⟨T, rfl, I.hok.fresh hT, rfl⟩, st', fun b hb => ?_⟩
    obtain ⟨o, e, _⟩ := obj i s.heap st b hb
    rw [upd_ne (Nat.ne_of_lt (Nat.lt_of_lt_of_le (Heap.lt_size e) hT))]
    exact (hf b hb).1
  done := by
    intro X hP hw hK hc i pins s σ H E I hf st hg
    subst hP hw hK
    have GA := G X.A (I.ok.hd hc)
    have e : i = n := hg
    subst e
    exact wpAny_mono (GA.stops s (fun s1 => Inv X pins σ H s1) E st fun h' tk hk _ => I.turnedL hk fun b hb => hf b (GA.sub b hb)) (fun r s1 q => q) fun _ _ z => z
  self := hself
/-- the i-th sign of a text, as a value -/
def sgn (z : Str) (i : Nat) : V := .str ⟨#[z.cps.toList.getD i 0]⟩
theorem sgn_of {z : Str} {i : Nat} {x : Value} (h : ∃ c u, z.cps[i]? = some c ∧ x = .str ⟨#[c]⟩ u) : RelV (sgn z i) x := by
  obtain ⟨c, u, h1, rfl⟩ := h
  have e : z.cps.toList.getD i 0 = c := by
    rw [List.getD_eq_getElem?_getD, Array.getElem?_toList, h1]
    rfl
  exact ⟨u, by rw [e]⟩
def iZipS (ta : TA) : TI := fun σ H R => ta σ H fun vs H1 => ∃ a b : Str, vs = [.str a, .str b] ∧ R (Itp (min a.cps.size b.cps.size) (sgn a) (sgn b)) H1
theorem pi_zipS {X : Cx} {e e2 : Expr} {ta : TA} {p pos tpos : Pos} {elts : List Expr} {kk : Nat} (hg : Gl X "zip") (hm : X.mg "zip" = none) (ha : PA X [e, e2] ta)
    (hs : starEach [e, e2] X.env = (false, eval e X.env) :: starEach [e2] X.env := by rfl) (hpl : (backTo pos (starEach [e2] X.env)).any (·.1) = false := by rfl) :
    PI X (.Tuple elts kk tpos) (.Call (.Name "zip" p) [e, e2] [] pos) (iZipS ta) := by
  refine ⟨fun pins s σ H R I h => ?_⟩
  refine Call_ (ld_blt I hg hm PyProof.Rows.boot_zip (PyProof.Rows.callWith_type1 (thn (ha.run pos pins s σ H _ I h) fun us s1 ⟨vs, H1, I1, r1, q1⟩ => ?_) hs hpl))
  obtain ⟨a, b, ex, q⟩ := q1
  subst ex
  cases r1 with
  | cons r rr =>
    cases rr with
    | cons r' rr =>
      cases rr
      obtain ⟨t, rfl⟩ := r
      obtain ⟨t', rfl⟩ := r'
      refine zip_begins2 (begins_text a t) (begins_text b t') trivial trivial fun h' hz hTI hTO o1 o2 hsz hk => wpAny_pyIter_zip hz ?_
      have I2 : Inv X pins σ H1 { s1 with heap := h' } := I1.kept (t' := s1.toks) hk
      have SZ := zip_sep2 (N := s1.heap.objs.size) (fp1 := []) (fp2 := []) (fun b hb => by cases hb) (fun b hb => by cases hb)
      refine ⟨s1.heap.objs.size + 4, _, _, _, H1, rfl, I2, turn_pair (fun A hA => GoesN.zip2 SZ (Draws.text (A := A.in1) hA _ a t) (Draws.text (A := A.in1) hA _ b t')) (fun i x _ hx => sgn_of hx) (fun i x _ hx => sgn_of hx) (List.mem_cons_self ..) (fun i h st c hc => ?_) (fun A i s Q E st h => wpAny_pyIter_zip st.1 h),
        ⟨hz, hTI, ⟨_, _, hTO⟩, ⟨_, o1, rfl, rfl⟩, ⟨_, o2, rfl, rfl⟩⟩, fun c hc => ?_, q⟩
      · obtain ⟨hz, hTI, ⟨x, y, hTO⟩, ⟨p1, e1, _, d1⟩, ⟨p2, e2, _, d2⟩⟩ := st
        have e' : c = s1.heap.objs.size + 4 ∨ c = s1.heap.objs.size + 2 ∨ c = s1.heap.objs.size + 3 ∨ c = s1.heap.objs.size ∨ c = s1.heap.objs.size + 1 := by simpa using hc
        rcases e' with q | q | q | q | q
        · rw [q]; exact ⟨_, hz, fun v q => nomatch q⟩
        · rw [q]; exact ⟨_, hTI, fun v q => nomatch q⟩
        · rw [q]; exact ⟨_, hTO, fun v q => nomatch q⟩
        · rw [q]; exact ⟨p1, e1, fun v q => by rw [d1] at q; cases q⟩
        · rw [q]; exact ⟨p2, e2, fun v q => by rw [d2] at q; cases q⟩
      · have e' : c = s1.heap.objs.size + 4 ∨ c = s1.heap.objs.size + 2 ∨ c = s1.heap.objs.size + 3 ∨ c = s1.heap.objs.size ∨ c = s1.heap.objs.size + 1 := by simpa using hc
        have hle : s1.heap.objs.size ≤ c := by
          rcases e' with z | z | z | z | z
          · rw [z]; exact Nat.le_add_right _ _
          · rw [z]; exact Nat.le_add_right _ _
          · rw [z]; exact Nat.le_add_right _ _
          · rw [z]; exact Nat.le_refl _
          · rw [z]; exact Nat.le_add_right _ _
        exact I1.fpOk hle (I1.hok.fresh hle)
end LA

namespace LA
open PySem PySem.Spec PyProof.Rows L2
/-- an iterator that yields the data xs, whatever else is made meanwhile -/
def Yields (K : PySem.W.Frag) (p : HD) (J : It) (xs : List D) (H0 : Hp) : Prop :=
  ∀ (q : HD) (c : PC) (H1 : Hp), q.m = p.m → Sub (hide p H0) (hide q H1) → PoolAt K q H1 c →
    J.stop xs.length H1 ∧ ∀ i d, xs[i]? = some d → J.go i H1 ∧ ∀ x H2, J.yld i H1 x H2 → Ext q H1 H2 ∧ PoolAt K q H2 c ∧ DV K q H2 x d
def tI (K : PySem.W.Frag) (W : WX) (p : HD) (ρ : Rho) (c : PC) (xs : List D) (c' : PC) : TI := fun σ H R => SR K p H σ ρ c ∧ ∀ J H', Ext p H H' → PoolAt K p H' c' → Yields K p J xs H' → R J H'
abbrev RI (X : Cx) (W : WX) (p : HD) (ρ : Rho) (c : PC) (tg it : Expr) (xs : List D) (c' : PC) : Prop := PI X tg it (tI X.K W p ρ c xs c')
theorem pi_imp {X : Cx} {tg e : Expr} {t t' : TI} (h : PI X tg e t) (w : ∀ σ H R, t' σ H R → t σ H R) : PI X tg e t' := ⟨fun pins s σ H Q I q => h.run pins s σ H Q I (w σ H Q q)⟩
section
variable {X : Cx} {W : WX} {p : HD} {ρ ρ1 : Rho} {c c1 c2 c3 : PC} {e e2 tg : Expr} {es : List Expr} {pos : Pos} {d d1 d2 : D} {n1 n2 nw : Bool} {K : PySem.W.Frag}
def chars (z : Str) : List D := z.cps.toList.map fun ch => D.str ⟨#[ch]⟩
theorem ri_str {z : Str} (h : RE X W p ρ c e (.val (.str z) nw c1)) : RI X W p ρ c tg e (chars z) c1 :=
  pi_imp (pi_str h) fun σ H R ⟨s, k⟩ => ⟨s, fun v H1 e1 p1 dv _ => by
    cases dv
    refine ⟨z, rfl, k _ H1 e1 p1 fun q c' H2 _ _ p2 => ⟨?_, fun i d hd => ⟨?_, fun x H3 y => ?_⟩⟩⟩
    · show z.cps.size ≤ (chars z).length
      unfold chars
      rw [List.length_map, Array.length_toList]
      exact Nat.le_refl _
    · have hl := (List.getElem?_eq_some_iff.mp hd).1
      unfold chars at hl
      rw [List.length_map, Array.length_toList] at hl
      exact hl
    · obtain ⟨rfl, ch, h1, rfl⟩ := y
      refine ⟨Ext.refl _ _, p2, ?_⟩
      unfold chars at hd
      rw [List.getElem?_map, Array.getElem?_toList, h1] at hd
      have e' := Option.some.inj hd
      rw [← e']
      exact .str _⟩
theorem ri_lst {g : G} {xs : List D} (h : RE X W p ρ c e (.val (.lst g xs) nw c1)) : RI X W p ρ c tg e xs c1 :=
  pi_imp (pi_list h) fun σ H R ⟨s, k⟩ => ⟨s, fun v H1 e1 p1 dv _ => by
    cases dv with
    | @lst a vs _ _ hb hq r =>
      refine ⟨a, rfl, ⟨vs, un_sqL hq⟩, k _ H1 e1 p1 fun q c' H2 qe qs p2 => ?_⟩
      have hq2 : SqL X.K H2 a vs := un_sqL (qs.sqL hq)
      refine ⟨⟨vs, hq2, Nat.le_of_eq r.length⟩, fun i d hd => ?_⟩
      obtain ⟨v, h1, h2⟩ := r.get hd
      refine ⟨⟨vs, v, hq2, h1⟩, fun x H3 y => ?_⟩
      obtain ⟨rfl, h3⟩ := y
      have e' : x = v := Option.some.inj ((h3 vs hq2).symm.trans h1)
      subst e'
      exact ⟨Ext.refl _ _, p2, h2.sub qs (fun i a z => by rw [qe]; exact z)⟩⟩
def intsD (n : Nat) : List D := (List.range n).map fun i => D.int ((i : Nat) : Int)
theorem ri_range {ps : Pos} {n : Int} (hm : X.mg "range" = none) (h : RE X W p ρ c e (.val (.int n) nw c1)) (h1 : -(2 ^ 62) ≤ n) (h2 : n < 2 ^ 62) (hg : Gl X "range" := by rfl) (hs : starEach [e] X.env = [(false, eval e X.env)] := by rfl) : RI X W p ρ c tg (.Call (.Name "range" ps) [e] [] pos) (intsD n.toNat) c1 :=
  pi_imp (pi_range1 hg hm (ra_cons (W := W) h (ra_nil (W := W)) (by rw [hs]; rfl)) hs) fun σ H R ⟨s, k⟩ => ⟨s, fun vs H1 e1 p1 dvs => by
    cases dvs with
    | cons hv hr =>
      cases hr
      cases hv
      refine ⟨n, rfl, h1, h2, k _ H1 e1 p1 fun q c' H2 qe qs p2 => ⟨?_, fun i d hd => ⟨?_, fun x H3 y => ?_⟩⟩⟩
      · show n.toNat ≤ (intsD n.toNat).length
        unfold intsD
        rw [List.length_map, List.length_range]
        exact Nat.le_refl _
      · have hl := (List.getElem?_eq_some_iff.mp hd).1
        unfold intsD at hl
        rw [List.length_map, List.length_range] at hl
        exact hl
      · obtain ⟨rfl, rfl⟩ := y
        refine ⟨Ext.refl _ _, p2, ?_⟩
        have hl := (List.getElem?_eq_some_iff.mp hd).1
        unfold intsD at hd hl
        rw [List.length_map, List.length_range] at hl
        rw [List.getElem?_map, List.getElem?_range hl] at hd
        have e' := Option.some.inj hd
        rw [← e', Int.zero_add]
        exact .int _⟩
/-- pairs of signs -/
def zips (a b : Str) : List D := (List.range (min a.cps.size b.cps.size)).map fun i => D.tup [.str ⟨#[a.cps.toList.getD i 0]⟩, .str ⟨#[b.cps.toList.getD i 0]⟩]
theorem ri_zipS {ps tpos : Pos} {elts : List Expr} {kk : Nat} {a b : Str} (hm : X.mg "zip" = none) (h : RA X W p ρ c [e, e2] (.val [.str a, .str b] c1)) (hg : Gl X "zip" := by rfl)
    (hs : starEach [e, e2] X.env = (false, eval e X.env) :: starEach [e2] X.env := by rfl) (hpl : (backTo pos (starEach [e2] X.env)).any (·.1) = false := by rfl) :
    RI X W p ρ c (.Tuple elts kk tpos) (.Call (.Name "zip" ps) [e, e2] [] pos) (zips a b) c1 :=
  pi_imp (pi_zipS hg hm h hs hpl) fun σ H R ⟨s, k⟩ => ⟨s, fun vs H1 e1 p1 dvs => by
    cases dvs with
    | cons hv hr =>
      cases hr with
      | cons hv2 hr =>
        cases hr
        cases hv
        cases hv2
        refine ⟨a, b, rfl, k _ H1 e1 p1 fun q c' H2 qe qs p2 => ⟨?_, fun i d hd => ⟨?_, fun x H3 y => ?_⟩⟩⟩
        · show (zips a b).length = min a.cps.size b.cps.size
          unfold zips
          rw [List.length_map, List.length_range]
        · have hl := (List.getElem?_eq_some_iff.mp hd).1
          unfold zips at hl
          rw [List.length_map, List.length_range] at hl
          exact hl
        · obtain ⟨T, rfl, hT, rfl⟩ := y
          have hl := (List.getElem?_eq_some_iff.mp hd).1
          unfold zips at hd hl
          rw [List.length_map, List.length_range] at hl
          rw [List.getElem?_map, List.getElem?_range hl] at hd
          have e' := Option.some.inj hd
          rw [← e']
          exact ⟨Ext.new hT, p2.upd hT, .tup (.inl (.inl (hide_upd p2 hT))) (.cons (.str _) (.cons (.str _) .nil))⟩⟩

/-! ### list comprehensions -/
theorem wipe_get {σ : L2.St} {i : Nat} : ∀ {vs : List Nat}, i ∈ vs → i < σ.length → (wipe σ vs)[i]? = some none
  | v :: vs, h, hl => by
    unfold wipe
    by_cases e : v = i
    · subst e
      rw [List.getElem?_set_self (by rw [wipe_length]; exact hl)]
    · rw [List.getElem?_set_ne e]
      exact wipe_get ((List.mem_cons.mp h).resolve_left fun z => e z.symm) hl
theorem wipe_ext {σ τ : L2.St} {vs : List Nat} (hl : σ.length = τ.length) (h : ∀ i, i ∉ vs → σ[i]? = τ[i]?) : wipe σ vs = wipe τ vs := by
  refine List.ext_getElem? fun i => ?_
  by_cases hi : i ∈ vs
  · by_cases hn : i < σ.length
    · rw [wipe_get hi hn, wipe_get hi (by rw [← hl]; exact hn)]
    · rw [List.getElem?_eq_none (by rw [wipe_length]; omega), List.getElem?_eq_none (by rw [wipe_length]; omega)]
  · rw [wipe_out hi, wipe_out hi, h i hi]
theorem wipe_wipe {σ : L2.St} {vs : List Nat} : wipe (wipe σ vs) vs = wipe σ vs := wipe_ext (wipe_length σ vs) fun i hi => wipe_out hi
theorem wipe_set {σ : L2.St} {vs : List Nat} {j : Nat} {x : Option V} (hj : j ∈ vs) : wipe (σ.set j x) vs = wipe σ vs := wipe_ext (List.length_set) fun i hi => List.getElem?_set_ne (fun z => hi (by rw [← z]; exact hj))
/-- the slots vs of the frame forgotten -/
def wipeR (ρ : Rho) : List Nat → Rho
  | [] => ρ
  | v :: vs => (wipeR ρ vs).set v none
theorem wipeR_len (ρ : Rho) : ∀ vs : List Nat, (wipeR ρ vs).length = ρ.length
  | [] => rfl
  | v :: vs => by unfold wipeR; rw [List.length_set, wipeR_len ρ vs]
theorem wipeR_some {ρ : Rho} {i : Nat} {d : D} : ∀ {vs : List Nat}, (wipeR ρ vs)[i]? = some (some d) → ρ[i]? = some (some d) ∧ i ∉ vs
  | [], h => ⟨h, by simp⟩
  | v :: vs, h => by
    unfold wipeR at h
    by_cases hi : v = i
    · subst hi
      rw [List.getElem?_set] at h
      split at h
      · split at h <;> cases h
      · exact absurd rfl ‹¬ _›
    · rw [List.getElem?_set_ne hi] at h
      obtain ⟨h1, h2⟩ := wipeR_some h
      exact ⟨h1, fun m => (List.mem_cons.mp m).elim (fun z => hi z.symm) h2⟩
theorem SR.wipe {H : Hp} {σ : L2.St} (s : SR K p H σ ρ c) (vs : List Nat) : SR K p H (L2.wipe σ vs) (wipeR ρ vs) c :=
  s.weak (by rw [wipe_length, wipeR_len]; exact s.len) (fun i d h => (wipeR_some h).1) fun i v d h1 h2 => by
    rw [wipe_out (wipeR_some h1).2]
    exact h2
/-- what a target does with a datum: the slots it sets -/
structure TgOk (K : PySem.W.Frag) (g : TG) (vs : List Nat) (d : D) (ρ ρ' : Rho) : Prop where
  run : ∀ (q : HD) (c : PC) (x : V) (σ : L2.St) (H : Hp) (Q : L2.St → Hp → Prop), DV K q H x d → SR K q H σ ρ c → PoolAt K q H c → (∀ σ2, SR K q H σ2 ρ' c → L2.wipe σ2 vs = L2.wipe σ vs → Q σ2 H) → g x σ H Q
theorem tg_name {j : Nat} {vs : List Nat} (hj : j ∈ vs) : TgOk K (gName j) vs d ρ (ρ.set j (some d)) := ⟨fun q c x σ H Q dv s hp k => k _ (s.set j dv) (wipe_set hj)⟩
theorem tg_two {i j : Nat} {vs : List Nat} (hi : i ∈ vs) (hj : j ∈ vs) : TgOk K (gTup K 2 (gCons (gName i) (gCons (gName j) gNil))) vs (.tup [d1, d2]) ρ ((ρ.set i (some d1)).set j (some d2)) :=
  ⟨fun q c x σ H Q dv s hp k => by
    cases dv with
    | tup hq r =>
      cases r with
      | cons h1 r =>
        cases r with
        | cons h2 r =>
          cases r
          exact ⟨_, _, rfl, un_sqT hq, rfl, _, _, rfl, _, _, rfl, rfl, k _ ((s.set i h1).set j h2) ((wipe_set hj).trans (wipe_set hi))⟩⟩
/-- what is collected over n turns -/
def coll (b : Nat → Bool) (y : Nat → D) : Nat → List D
  | 0 => []
  | n + 1 => coll b y n ++ if b n then [y n] else []
theorem coll_len (b : Nat → Bool) (y : Nat → D) : ∀ n, (coll b y n).length ≤ n
  | 0 => Nat.le_refl _
  | n + 1 => by
    have h := coll_len b y n
    show (coll b y n ++ if b n then [y n] else []).length ≤ n + 1
    rw [List.length_append]
    split
    · show _ + 1 ≤ _
      omega
    · show _ + 0 ≤ _
      omega
theorem ext_also {p : HD} {a : Addr} {H H' : Hp} (e : Ext p H H') : Ext (p.also a) H H' := e
/-- what the tests and the element of a list comprehension are read by -/
def ttU (K : PySem.W.Frag) (xs : List D) (b : Nat → Bool) (cs cm : Nat → PC) (ρt : Nat → Rho) : TT := fun σ H Q => ∃ (q : HD) (i : Nat) (d : D), xs[i]? = some d ∧ tT K Wf q (ρt i) (cs i) (.val (b i) (cm i)) σ H Q
def teU (K : PySem.W.Frag) (xs : List D) (b : Nat → Bool) (y : Nat → D) (cs cm : Nat → PC) (ρt : Nat → Rho) (nws : Nat → Bool) : TE := fun σ H Q => ∃ (q : HD) (i : Nat) (d : D), xs[i]? = some d ∧ b i = true ∧ tE K Wf q (ρt i) (cm i) (.val (y i) (nws i) (cs (i + 1))) σ H Q
theorem lc_read {xs : List D} {g : TG} {vs : List Nat} {b : Nat → Bool} {y : Nat → D} {cs cm : Nat → PC} {ρt : Nat → Rho} {nws : Nat → Bool}
    (htg : ∀ i d, xs[i]? = some d → TgOk K g vs d (wipeR ρ vs) (ρt i))
    (hno : ∀ i d, xs[i]? = some d → b i = false → cs (i + 1) = cm i) (hz : xs.length ≤ 100000) : ∀ σ H Q, tE K W p ρ c (.val (.lst ⟨false, true⟩ (coll b y xs.length)) true (cs xs.length)) σ H Q → tLc (tI K W p ρ c xs (cs 0)) g (ttU K xs b cs cm ρt) (teU K xs b y cs cm ρt nws) vs σ H Q := by
  refine fun σ H Q ⟨s, k⟩ => ⟨s, fun J H1 e1 p1 yl L nL => ?_⟩
  -- the invariant
  have yl' := yl (p.also L)
  have hsub : Sub (hide p H1) (hide (p.also L) H1) := also_sub nL
  have s1 : SR K p H1 σ ρ (cs 0) := s.mono e1 p1
  have s2 : SR K (p.also L) H1 σ ρ (cs 0) → True := fun _ => trivial
  refine ⟨fun i m H2 => m = xs.length - i ∧ i ≤ xs.length ∧ Ext p H1 H2 ∧ (∃ vs, H2 L = some (.lst vs) ∧ DVs K (p.also L) H2 vs (coll b y i)) ∧ PoolAt K (p.also L) H2 (cs i), ⟨xs.length, by simp, Nat.zero_le _, Ext.new nL, ⟨[], upd_same, .nil⟩, p1.also nL⟩, ?_⟩
  rintro i m H2 ⟨rfl, hi', e2, ⟨vs, hL, dvs⟩, pq⟩
  have p2 := pq.less
  have nLp : L ∉ p.m := fun z => p1.not nL (.inl z)
  obtain ⟨hstop, hgo⟩ := yl' (cs i) H2 rfl (fun b o y => (ext_also e2).hide b o (hsub b o y)) pq
  by_cases hlt : i < xs.length
  · have hd : xs[i]? = some xs[i] := List.getElem?_eq_getElem hlt
    obtain ⟨g1, g2⟩ := hgo i _ hd
    refine .inr ⟨g1, fun H' => ∃ vs, H' L = some (.lst vs) ∧ DVs K (p.also L) H' vs (coll b y (i + 1)) ∧ Ext p H1 H' ∧ PoolAt K (p.also L) H' (cs (i + 1)), fun H' ⟨vs', a1, a2, a3, a4⟩ => ⟨xs.length - (i + 1), by omega, rfl, hlt, a3, ⟨vs', a1, a2⟩, a4⟩, fun x H3 hy => ?_⟩
    obtain ⟨e3, p3, dx⟩ := g2 x H3 hy
    have sH : SR K (p.also L) H3 σ ρ (cs i) := ⟨s.len, fun j d hj => by
      obtain ⟨v, h1, h2⟩ := s1.at' j d hj
      exact ⟨v, h1, ((h2.also nL).mono (ext_also e2)).mono e3⟩, p3⟩
    refine (htg i _ hd).run (p.also L) (cs i) x _ H3 _ dx (sH.wipe _) p3 fun σ2 s2 hw => ⟨hw.trans wipe_wipe, p.also L, i, _, hd, s2, fun H4 e4 p4 => ?_⟩
    have hL4 : H4 L = some (.lst vs) := e4 L _ nLp (e3 L _ nLp hL)
    have e24 : Ext p H2 H4 := fun a o n h => e4 a o n (e3 a o n h)
    cases hb : b i with
    | false =>
      refine iteF ⟨vs, hL4, ?_, e2.trans e24, ?_⟩
      · show DVs K (p.also L) H4 vs (coll b y i ++ if b i then [y i] else [])
        rw [hb, if_neg Bool.false_ne_true, List.append_nil]
        exact dvs.mono (ext_also e24)
      · rw [hno i _ hd hb]
        exact p4
    | true =>
      refine iteT ⟨p.also L, i, _, hd, hb, s2.mono e4 p4, fun v H5 e5 p5 dv _ => ?_⟩
      have hL5 : H5 L = some (.lst vs) := e5 L _ nLp hL4
      have e25 : Ext p H2 H5 := fun a o n h => e5 a o n (e24 a o n h)
      have up : ∀ a o, a ≠ L → H5 a = some o → upd H5 L (.lst (vs ++ [v])) a = some o := fun a o n h => by
        rw [upd_ne n]
        exact h
      have sb : Sub (hide (p.also L) H5) (hide (p.also L) (upd H5 L (.lst (vs ++ [v])))) := fun a o h => by
        obtain ⟨h1, h2⟩ := hide_some h
        have hn : a ≠ L := fun z => h2 (.inr (by rw [z]; exact List.mem_cons_self))
        rw [hide_ne h2]
        exact up a o hn h1
      refine ⟨vs, hL5, ?_, vs ++ [v], upd_same, ?_, ?_, ?_⟩
      · have := coll_len b y i
        rw [dvs.length]
        exact sz_lt (by omega)
      · show DVs K (p.also L) _ (vs ++ [v]) (coll b y i ++ if b i then [y i] else [])
        rw [hb, if_pos rfl]
        exact DVs.app ((dvs.mono (ext_also e25)).sub sb fun _ _ z => z) (.cons (dv.sub sb fun _ _ z => z) .nil)
      · refine fun a o n h => ?_
        have hn : a ≠ L := ne_of_none h nL
        exact up a o hn (e25 a o n (e2 a o n h))
      · exact p5.other List.mem_cons_self nLp
  · have e : i = xs.length := by omega
    subst e
    have hh : hide p H2 L = some (.lst vs) := by
      rw [hide_ne (p1.not nL)]
      exact hL
    exact .inl ⟨hstop, k (.ref L) H2 (e1.trans e2) p2 (.lst ⟨(fun z => nomatch z), fun _ => hh⟩ (.inl (.inl hh)) (dvs.sub sub_also fun _ _ z => z)) fun _ => New.back e1 fun b z => by
      cases z
      exact ⟨⟨nL, nLp⟩, pq, fun g ds z => by
        cases z
        exact ⟨vs, hL, dvs⟩⟩⟩
theorem re_lc {elt iter : Expr} {ifs : List Expr} {scope : Scope} {own : List (Str × Nat)} {xs : List D} {g : TG} (b : Nat → Bool) (y : Nat → D) (cs cm : Nat → PC) (ρt : Nat → Rho) (nws : Nat → Bool) (hc : X.calm = true) (hN : X.N.Nodup) (hi : RI X W p ρ c tg iter xs (cs 0)) (ok : BlkOk X.N X.env.scope scope own)
    (hg : ∀ (s : Shared) (H : Hp) (C : Addr) (cl : List (Str × Addr)) (fp : List Addr), PG (X.blk s H scope (compEnvC scope cl C X.env) fp) tg g)
    (htg : ∀ i d, xs[i]? = some d → TgOk X.K g (own.map (·.2)) d (wipeR ρ (own.map (·.2))) (ρt i))
    (ht : ∀ i d, xs[i]? = some d → ∀ (q : HD) (s : Shared) (H : Hp) (C : Addr) (cl : List (Str × Addr)) (fp : List Addr), PTs (X.blk s H scope (compEnvC scope cl C X.env) fp) ifs (tT X.K Wf q (ρt i) (cs i) (.val (b i) (cm i))))
    (he : ∀ i d, xs[i]? = some d → b i = true → ∀ (q : HD) (s : Shared) (H : Hp) (C : Addr) (cl : List (Str × Addr)) (fp : List Addr), RE (X.blk s H scope (compEnvC scope cl C X.env) fp) Wf q (ρt i) (cm i) elt (.val (y i) (nws i) (cs (i + 1))))
    (hno : ∀ i d, xs[i]? = some d → b i = false → cs (i + 1) = cm i) (hz : xs.length ≤ 100000)
    (hs : ∀ x, foldedSetIterable iter X.env x = pure x := by intro _; rfl) : RE X W p ρ c (.ListComp elt [⟨tg, iter, ifs, 0⟩] scope pos) (.val (.lst ⟨false, true⟩ (coll b y xs.length)) true (cs xs.length)) :=
  pe_imp (pe_lc (tt := ttU X.K xs b cs cm ρt) (te := teU X.K xs b y cs cm ρt nws) hc hN hi ok hg (fun s H C cl fp => ⟨fun pins s' σ H' Q I ⟨q, i, d, hd, h⟩ => (ht i d hd q s H C cl fp).run pins s' σ H' Q I h⟩)
    (fun s H C cl fp => ⟨fun pins s' σ H' Q I ⟨q, i, d, hd, hb, h⟩ => (he i d hd hb q s H C cl fp).run pins s' σ H' Q I h⟩) hs) (lc_read htg hno hz)
/-- name = [..] -/
theorem rs_lc {elt iter : Expr} {ifs : List Expr} {scope : Scope} {own : List (Str × Nat)} {xs : List D} {g : TG} {yn : Str} {py spos : Pos} (j : Nat) (b : Nat → Bool) (y : Nat → D) (cs cm : Nat → PC) (ρt : Nat → Rho) (nws : Nat → Bool) (hc : X.calm = true) (hN : X.N.Nodup) (hi : RI X W p ρ c tg iter xs (cs 0)) (ok : BlkOk X.N X.env.scope scope own)
    (hg : ∀ (s : Shared) (H : Hp) (C : Addr) (cl : List (Str × Addr)) (fp : List Addr), PG (X.blk s H scope (compEnvC scope cl C X.env) fp) tg g)
    (htg : ∀ i d, xs[i]? = some d → TgOk X.K g (own.map (·.2)) d (wipeR ρ (own.map (·.2))) (ρt i))
    (ht : ∀ i d, xs[i]? = some d → ∀ (q : HD) (s : Shared) (H : Hp) (C : Addr) (cl : List (Str × Addr)) (fp : List Addr), PTs (X.blk s H scope (compEnvC scope cl C X.env) fp) ifs (tT X.K Wf q (ρt i) (cs i) (.val (b i) (cm i))))
    (he : ∀ i d, xs[i]? = some d → b i = true → ∀ (q : HD) (s : Shared) (H : Hp) (C : Addr) (cl : List (Str × Addr)) (fp : List Addr), RE (X.blk s H scope (compEnvC scope cl C X.env) fp) Wf q (ρt i) (cm i) elt (.val (y i) (nws i) (cs (i + 1))))
    (hno : ∀ i d, xs[i]? = some d → b i = false → cs (i + 1) = cm i) (hz : xs.length ≤ 100000) (hy : X.N[j]? = some yn := by rfl) (hyl : X.env.scope.names.lookup yn = some .local := by rfl) (hsw : swapsWith (.ListComp elt [⟨tg, iter, ifs, 0⟩] scope pos) (some (.Name yn py)) spos.line X.env = pure true := by exact sw_true rfl rfl rfl (by decide +kernel))
    (hs : ∀ x, foldedSetIterable iter X.env x = pure x := by intro _; rfl) : RS X W p ρ c (.Assign [.Name yn py] (.ListComp elt [⟨tg, iter, ifs, 0⟩] scope pos) spos) (.nx (ρ.set j (some (.lst ⟨false, true⟩ (coll b y xs.length)))) (cs xs.length)) :=
  ps_imp (ps_setLc (tt := ttU X.K xs b cs cm ρt) (te := teU X.K xs b y cs cm ρt nws) hc hN hy hyl hsw hi ok hg (fun s H C cl fp => ⟨fun pins s' σ H' Q I ⟨q, i, d, hd, h⟩ => (ht i d hd q s H C cl fp).run pins s' σ H' Q I h⟩)
    (fun s H C cl fp => ⟨fun pins s' σ H' Q I ⟨q, i, d, hd, hb, h⟩ => (he i d hd hb q s H C cl fp).run pins s' σ H' Q I h⟩) hs) fun De σ H h => lc_read htg hno hz σ H _ ⟨h.1, fun v H1 e1 p1 dv _ => h.2 _ H1 e1 ((h.1.mono e1 p1).set j dv)⟩
end
end LA

namespace LA
open PySem PySem.Spec PyProof.Rows L2
/-! ### data as the model's own data; repr -/
mutual
def toPy : D → PyData
  | .non => .none
  | .bl b => .bool b
  | .int i => .int i
  | .str s => .str s
  | .lst _ xs => .list (toPys xs)
  | .tup xs => .tuple (toPys xs)
  | .dct kvs => .dict (toPyk kvs)
  | .mut _ => .none
  | .ty _ => .none
  | .cls _ => .none
  | .exn _ _ _ => .none
  | .obj _ _ => .none
def toPys : List D → List PyData
  | [] => []
  | d :: r => toPy d :: toPys r
def toPyk : List (Key × D) → List (PyData × PyData)
  | [] => []
  | (k, d) :: r => ((match k with | .inl i => .int i | .inr x => .str x), toPy d) :: toPyk r
end
/-! no pool within, and every list, if big, behind the run's own objects -/
mutual
def okD (big : Bool) : D → Bool
  | .lst g xs => (g.s || !big) && okDs big xs
  | .tup xs => okDs big xs
  | .dct kvs => okDk big kvs
  | .mut _ => false
  | .ty _ => false
  | .cls _ => false
  | .exn _ _ _ => false
  | .obj _ _ => false
  | _ => true
def okDs (big : Bool) : List D → Bool
  | [] => true
  | d :: r => okD big d && okDs big r
def okDk (big : Bool) : List (Key × D) → Bool
  | [] => true
  | (_, d) :: r => okD big d && okDk big r
end
def NoSys (big : Bool) (as : List Addr) : Prop := big = true → sysModules ∉ as
theorem NoSys.app {big : Bool} {as bs : List Addr} (h1 : NoSys big as) (h2 : NoSys big bs) : NoSys big (as ++ bs) := fun b m => (List.mem_append.mp m).elim (h1 b) (h2 b)
section
variable {X : Cx} {pins : List (Addr × Obj)} {σ : L2.St} {H : Hp} {s : Shared} {p : HD}
theorem keys_read {P : Program} {w : World} {h : Heap} : ∀ {es : List DictEntry} {vs : List (Key × Value)}, Pairs (mixKind P w) es vs → ∀ {kvs : List (Key × V)} {ds : List (Key × D)} {K : PySem.W.Frag}, KV kvs vs → DVk K p H kvs ds → ReadsAll h (es.map (·.key)) ((toPyk ds).map (·.1)) [] ∧ Vals (kvs.map (·.2)) (es.map (·.val))
  | _, _, .nil, _, _, _, .nil, .nil => ⟨.nil, .nil⟩
  | e :: es, (k, u) :: vs, .cons h1 h2 h3, (k', v) :: kvs, _, _, .cons r t, .cons (d := d) hd hk => by
    obtain ⟨a1, a2⟩ := keys_read (h := h) h3 t hk
    obtain ⟨r1, r2⟩ := r
    have r1 : k' = k := r1
    have h2 : e.val = u := h2
    subst r1 h2
    refine ⟨?_, .cons r2 a2⟩
    have hkey : keyIs k' e.key = true := h1
    rcases keyIs_shape hkey with ⟨i, t, e1, e2⟩ | ⟨x, t, e1, e2⟩
    · subst e1
      show ReadsAll _ (e.key :: es.map (·.key)) (.int i :: (toPyk _).map (·.1)) ([] ++ [])
      rw [e2]
      exact .cons (.int i t) a1
    · subst e1
      show ReadsAll _ (e.key :: es.map (·.key)) (.str x :: (toPyk _).map (·.1)) ([] ++ [])
      rw [e2]
      exact .cons (.str x t) a1
mutual
theorem reads_of {big : Bool} (I : Inv X pins σ H s) : ∀ (d : D) (v : V) (u : Value), DV X.K p H v d → okD big d = true → RelV v u → ∃ as, Reads s.heap u (toPy d) as ∧ NoSys big as
  | .non, _, _, h, _, r => by
    cases h
    cases r
    exact ⟨[], by unfold toPy; exact .none, fun _ m => nomatch m⟩
  | .bl b, _, _, h, _, r => by
    cases h
    cases r
    exact ⟨[], by unfold toPy; exact .bool b, fun _ m => nomatch m⟩
  | .int i, _, _, h, _, r => by
    cases h
    obtain ⟨t, rfl⟩ := r
    exact ⟨[], by unfold toPy; exact .int i t, fun _ m => nomatch m⟩
  | .str x, _, _, h, _, r => by
    cases h
    obtain ⟨t, rfl⟩ := r
    exact ⟨[], by unfold toPy; exact .str x t, fun _ m => nomatch m⟩
  | .lst g ds, _, _, .lst (a := a) hb hq ha, o, r => by
    obtain rfl := (show _ = Value.ref a from r)
    unfold okD at o
    obtain ⟨o1, o2⟩ := Bool.and_eq_true_iff.mp o
    obtain ⟨its, rv, ⟨ob, n, ho, hc, _, hd⟩, _⟩ := I.list (un_sqL hq)
    obtain ⟨as, q1, q2⟩ := readss_of (big := big) I ds _ its ha o2 rv
    refine ⟨_, by unfold toPy; exact Reads.list ho hc hd q1, fun b m => ?_⟩
    rcases List.mem_cons.mp m with m | m
    · subst b
      have hg : g.s = true := by simpa using o1
      exact hb.1 hg m.symm
    · exact q2 b m
  | .tup ds, _, _, .tup (a := a) hq ha, o, r => by
    obtain rfl := (show _ = Value.ref a from r)
    unfold okD at o
    obtain ⟨its, rv, ⟨ob, ho, hc, n, hd⟩, _⟩ := I.tuple (un_sqT hq)
    obtain ⟨as, q1, q2⟩ := readss_of (big := big) I ds _ its ha o rv
    exact ⟨_, by unfold toPy; exact Reads.tuple ho hc hd q1, q2⟩
  | .dct ds, _, _, .dct (a := a) hq hk, o, r => by
    obtain rfl := (show _ = Value.ref a from r)
    unfold okD at o
    obtain ⟨hz, hs, vs, rel, ob, es, ep, ho, hx, hd, _, hp, _⟩ := dk_rd I.hok (un_rd hq)
    obtain ⟨k1, k2⟩ := keys_read (h := s.heap) hp rel hk
    obtain ⟨bs, q1, q2⟩ := readsk_of (big := big) I ds _ _ hk o k2
    refine ⟨_, by unfold toPy; exact Reads.dict ho hx.1 hd k1 q1, fun b m => ?_⟩
    rcases List.mem_cons.mp m with m | m
    · rw [← m] at hs
      exact absurd hs (by decide)
    · exact q2 b m
  | .mut _, _, _, _, o, _ => by cases o
  | .ty _, _, _, _, o, _ => by cases o
  | .cls _, _, _, _, o, _ => by cases o
  | .exn _ _ _, _, _, _, o, _ => by cases o
  | .obj _ _, _, _, _, o, _ => by cases o
theorem readss_of {big : Bool} (I : Inv X pins σ H s) : ∀ (ds : List D) (vs : List V) (us : List Value), DVs X.K p H vs ds → okDs big ds = true → Vals vs us → ∃ as, ReadsAll s.heap us (toPys ds) as ∧ NoSys big as
  | [], _, _, h, _, r => by
    cases h
    cases r
    exact ⟨[], by unfold toPys; exact .nil, fun _ m => nomatch m⟩
  | d :: ds, _, _, .cons h1 h2, o, r => by
    unfold okDs at o
    obtain ⟨o1, o2⟩ := Bool.and_eq_true_iff.mp o
    cases r with
    | cons r1 r2 =>
      obtain ⟨as, q1, n1⟩ := reads_of (big := big) I d _ _ h1 o1 r1
      obtain ⟨bs, q2, n2⟩ := readss_of (big := big) I ds _ _ h2 o2 r2
      exact ⟨_, by unfold toPys; exact .cons q1 q2, n1.app n2⟩
theorem readsk_of {big : Bool} (I : Inv X pins σ H s) : ∀ (ds : List (Key × D)) (kvs : List (Key × V)) (us : List Value), DVk X.K p H kvs ds → okDk big ds = true → Vals (kvs.map (·.2)) us → ∃ as, ReadsAll s.heap us ((toPyk ds).map (·.2)) as ∧ NoSys big as
  | [], _, _, h, _, r => by
    cases h
    cases r
    exact ⟨[], by unfold toPyk; exact .nil, fun _ m => nomatch m⟩
  | (k, d) :: ds, _, _, .cons h1 h2, o, r => by
    unfold okDk at o
    obtain ⟨o1, o2⟩ := Bool.and_eq_true_iff.mp o
    cases r with
    | cons r1 r2 =>
      obtain ⟨as, q1, n1⟩ := reads_of (big := big) I d _ _ h1 o1 r1
      obtain ⟨bs, q2, n2⟩ := readsk_of (big := big) I ds _ _ h2 o2 r2
      exact ⟨_, by unfold toPyk; exact .cons q1 q2, n1.app n2⟩
end
/-- what repr asks of a datum: big where a dict stands within -/
structure Shows (d : D) : Prop where
  ok : okD (toPy d).hasDict d = true
  sh : (toPy d).showable = true
  dp : (toPy d).depth ≤ 60
  sz : (toPy d).shown.length ≤ sizeLine
theorem shown_int (i : Int) : PyData.shown (.int i) = toString i := by unfold PyData.shown; rfl
def rRep (K : PySem.W.Frag) : List V → Hp → VK → Prop := fun xs H Q => ∃ (p : HD) (v : V) (d : D), xs = [v] ∧ DV K p H v d ∧ Shows d ∧ Q (.str (toPy d).shown) H
theorem call_repr (hg : X.A.guards = some []) (hu : X.A.units + 70 < cLine) : CallR X (.builtin "repr") (rRep X.K) := by
  intro pins s σ H xs us Q I r h
  obtain ⟨p, v, d, rfl, dv, S, q⟩ := h
  obtain ⟨u, rfl, ru⟩ := vals1 r
  have sz := S.sz
  have byref : ∀ a, v = .ref a → wpAny (model X.prog X.w) X.A (call (.builtin "repr") [u]) (EP X pins σ Q) X.xe s := fun a e => by
    subst e
    obtain rfl : u = Value.ref a := ru
    obtain ⟨as, q1, q2⟩ := reads_of (big := (toPy d).hasDict) I d _ _ dv S.ok rfl
    exact repr_of_reads' q1 S.sh q2 hg (by have := S.dp; omega) (fun _ _ e => e) (fun h' u tk hk => ⟨.str _, H, I.kept (t' := tk) hk, ⟨u, rfl⟩, q⟩) sz
  cases dv with
  | non =>
    cases ru
    refine PySem.P.repr_of_none ⟨.str _, H, I.tok _, ⟨_, rfl⟩, ?_⟩
    unfold toPy PyData.shown at q
    exact q
  | bl b =>
    cases ru
    refine PySem.P.repr_of_bool ⟨.str _, H, I.tok _, ⟨_, rfl⟩, ?_⟩
    unfold toPy PyData.shown at q
    exact q
  | int i =>
    obtain ⟨t, rfl⟩ := ru
    have hs := S.sh
    unfold toPy PyData.showable at hs
    refine PySem.P.repr_of_int (of_decide_eq_true hs) ⟨.str _, H, I.tok _, ⟨_, rfl⟩, ?_⟩
    unfold toPy PyData.shown at q
    exact q
  | str x =>
    obtain ⟨t, rfl⟩ := ru
    unfold toPy PyData.shown at sz
    refine PySem.P.repr_of_str ⟨.str _, H, I.tok _, ⟨_, rfl⟩, ?_⟩ sz
    unfold toPy PyData.shown at q
    exact q
  | lst _ _ _ => exact byref _ rfl
  | tup _ _ => exact byref _ rfl
  | dct _ _ => exact byref _ rfl
  | «mut» _ => exact absurd S.ok (by unfold okD; exact Bool.false_ne_true)
  | ty _ => exact absurd S.ok (by unfold okD; exact Bool.false_ne_true)
  | cls _ => exact absurd S.ok (by unfold okD; exact Bool.false_ne_true)
  | exn _ _ => exact absurd S.ok (by unfold okD; exact Bool.false_ne_true)
  | obj _ _ => exact absurd S.ok (by unfold okD; exact Bool.false_ne_true)
end
section
variable {K : PySem.W.Frag} {p : HD} {c : PC}
theorem cv_repr {d : D} (h : Shows d) : CV K p (rRep K) [d] (.str (toPy d).shown) true c := fun vs H Q dvs hp k => by
  cases dvs with
  | cons hv r =>
    cases r
    exact ⟨p, _, d, rfl, hv, h, k _ H (Ext.refl p H) hp (.str _) fun _ => New.sc (by intro a h; cases h)⟩
/-! ### all, isinstance, join, list(range) -/
theorem of_bools {H : Hp} : ∀ {vs : List V} {bs : List Bool}, DVs K p H vs (bs.map D.bl) → vs = bs.map V.bl
  | _, [], .nil => rfl
  | _, b :: r, .cons h t => by
    cases h
    rw [of_bools t]
    rfl
theorem cv_all {g : G} {bs : List Bool} : CV K p (rAll K) [.lst g (bs.map D.bl)] (.bl (bs.all id)) true c := fun vs H Q dvs hp k => by
  cases dvs with
  | cons hv r =>
    cases r
    cases hv with
    | lst _ hq ha =>
      rw [of_bools ha] at hq
      exact ⟨_, bs, rfl, un_sqL hq, k _ H (Ext.refl p H) hp (.bl _) fun _ => New.sc (by intro a h; cases h)⟩
/-- the built-in type of a datum -/
def tyD : D → Option String
  | .non => some "NoneType"
  | .bl _ => some "bool"
  | .int _ => some "int"
  | .str _ => some "str"
  | .lst _ _ => some "list"
  | .tup _ => some "tuple"
  | .dct _ => some "dict"
  | .mut _ => none
  | .ty _ => none
  | .cls _ => none
  | .exn _ _ _ => none
  | .obj _ _ => none
end
end LA

namespace LA
open PySem PySem.Spec PyProof.Rows L2
section
variable {X : Cx} {W : WX} {p : HD} {ρ ρ1 : Rho} {c c1 c2 c3 : PC} {e e2 a b o tg : Expr} {es : List Expr} {pos apos : Pos} {d d1 d2 : D} {n1 n2 nw : Bool} {K : PySem.W.Frag}
/-! ### isinstance -/
theorem tyx_of {H : Hp} {v : V} {d : D} {t : String} (h : DV K p H v d) (e : tyD d = some t) : TyX K H v (.type t) := by
  cases h with
  | non => cases e; exact .base .non
  | bl b => cases e; exact .base (.bl b)
  | int i => cases e; exact .base (.int i)
  | str x => cases e; exact .base (.str x)
  | lst _ hq _ =>
    cases e
    rcases un_sqL hq with (h | ⟨o, h⟩) | ⟨o, its, n, hk, hc, _⟩
    · exact .base (.lst h)
    · exact .base (.frz h)
    · exact .kList hk hc
  | tup hq _ =>
    cases e
    rcases un_sqT hq with (h | ⟨o, h⟩) | ⟨o, its, n, hk, hc, _⟩
    · exact .base (.tup h)
    · exact .fTuple h
    · exact .kTuple hk hc
  | dct hq _ =>
    cases e
    rcases un_rd hq with h | ⟨o, h⟩
    · exact .base (.dK h)
    · exact .fDict h
  | «mut» _ => cases e
  | obj _ _ => cases e
  | ty _ => cases e
  | cls _ => cases e
  | exn _ _ => cases e
theorem cv_isi {t n : String} {k : Bool} (hd : tyD d = some t) (hk : kitB t n = some k) : CV K p (rIsi K) [d, .ty n] (.bl k) true c := fun vs H Q dvs hp kk => by
  cases dvs with
  | cons hv r =>
    cases r with
    | cons hv2 r =>
      cases r
      cases hv2
      exact ⟨_, _, _, _, k, rfl, .ty n, tyx_of hv hd, kit_ty hk, kk _ H (Ext.refl p H) hp (.bl _) fun _ => New.sc (by intro a h; cases h)⟩
theorem re_ty {x : Str} {n : String} (hm : X.mg x = none) (hv : bootBuiltins x = some (.type n)) (hg : Gl X x := by rfl) (hn : x ≠ "__name__" := by decide) (hd : (x == ("__debug__" : Str)) = false := by decide) : RE X W p ρ c (.Name x pos) (.val (.ty n) true c) :=
  re_c (pe_bltn (v := .ty n) hg hm hv rfl hn hd) (fun _ => .ty n) (by intro a h; cases h)
/-! ### sep.join(list of texts) -/
theorem re_join {g : G} {sep : Str} {ss : List Str} (ho : RE X W p ρ c o (.val (.str sep) n1 c1)) (he : RE X W p ρ c1 e (.val (.lst g (ss.map D.str)) n2 c2)) (hz : (ss.map (·.length)).sum + ss.length * sep.length ≤ 16777216)
    (hs : starEach [e] X.env = [(false, eval e X.env)] := by rfl) (hbase : attributeBase o "join" X.env (eval o X.env) = eval o X.env := by rfl) (hline : (apos.endLine == pos.line) = true := by rfl) :
    RE X W p ρ c (.Call (.Attribute o "join" apos) [e] [] pos) (.val (.str (Txt.join sep ss)) true c2) :=
  pe_imp (pe_join ho he hs hbase hline) fun σ H Q ⟨s, k⟩ => ⟨s, fun v H1 e1 p1 dv _ => by
    cases dv
    refine ⟨⟨sep, rfl⟩, s.mono e1 p1, fun u H2 e2 p2 du _ => ?_⟩
    cases du with
    | lst _ hq ha =>
      rw [of_strs ha] at hq
      exact ⟨sep, _, ss, rfl, rfl, .inl (un_sqL hq), hz, k _ H2 (e1.trans e2) p2 (.str _) fun _ => New.sc (by intro a h; cases h)⟩⟩
/-! ### list(range(n)) -/
theorem dvs_ints {H : Hp} : ∀ (l : List Nat), DVs K p H (l.map fun i => V.int ((0 : Int) + (i : Nat))) (l.map fun i => D.int ((i : Nat) : Int))
  | [] => .nil
  | i :: r => .cons (by
    show DV K p H (.int ((0 : Int) + (i : Nat))) (.int ((i : Nat) : Int))
    rw [Int.zero_add]
    exact .int _) (dvs_ints r)
theorem re_listRg {pl pr : Pos} {n : Int} (hc : X.calm = true) (ha : RE X W p ρ c e (.val (.int n) nw c1)) (h0 : 0 ≤ n) (h1 : n ≤ 100000) (hm : X.mg "range" = none) (hml : X.mg "list" = none) (hg : Gl X "range" := by rfl) (hgl : Gl X "list" := by rfl)
    (na : starEach [e] X.env = (false, eval e X.env) :: starEach [] X.env := by rfl)
    (nb : starEach [.Call (.Name "range" pr) [e] [] pos] X.env = (false, eval (.Call (.Name "range" pr) [e] [] pos) X.env) :: starEach [] X.env := by rfl) :
    RE X W p ρ c (.Call (.Name "list" pl) [.Call (.Name "range" pr) [e] [] pos] [] apos) (.val (.lst ⟨false, true⟩ (intsD n.toNat)) true c1) :=
  pe_imp (pe_listRg hc hgl hml (prg_1 hg hm ha na) nb) fun σ H Q ⟨s, k⟩ => ⟨s, fun v H1 e1 p1 dv _ => by
    cases dv
    refine ⟨n, rfl, RgOk.of_le (by decide) (by omega) (by decide) h0, fun q hq => ?_⟩
    have dv : DVs X.K p H1 (rgV 0 n) (intsD n.toNat) := by
      unfold rgV intsD
      rw [Int.sub_zero]
      exact dvs_ints _
    exact k _ _ (e1.trans (Ext.new hq)) (p1.upd hq) (.lst ⟨(fun z => nomatch z), fun _ => hide_upd p1 hq⟩ (.inl (.inl (hide_upd p1 hq))) (dv.mono (Ext.new hq))) fun _ => (New.lst p1 hq dv).back e1⟩
/-! ### {k: v}, the key a written text -/
theorem re_dct1 {x : Str} {j : Nat} {kp : Pos} (hv : ∀ q : HD, RE X W q ρ c e (.val d nw c1)) : RE X W p ρ c (.Dict [some (.Constant (.str x) j kp)] [e] pos) (.val (.dct [(.inr x, d)]) true c1) := by
  have N : ∀ (trs : List (TE × TE)), trs = [(tC (.str x), fun σ H Q => ∃ q : HD, tE X.K W q ρ c (.val d nw c1) σ H Q)] → PPs X pos [some (.Constant (.str x) j kp)] [e] trs := fun trs h => by
    subst h
    exact pps_cons pe_str ⟨fun pins s σ H Q I ⟨q, h⟩ => (hv q).run pins s σ H Q I h⟩ pps_nil
  refine pe_imp (pe_disp (N _ rfl) (by rfl) (by rfl) (fun z => by cases z) (by show 1 ≤ 15; decide)) fun σ H Q ⟨s, k⟩ => ?_
  intro L nL
  have pq : PoolAt X.K (p.also L) (upd H L (.dK [])) c := s.pl.also nL
  have nLp : L ∉ p.m := fun z => s.pl.not nL (.inl z)
  refine ⟨p.also L, ⟨s.len, fun i d hd => ?_, pq⟩, fun v H2 e2 p2 dv _ => ?_⟩
  · obtain ⟨v, h1, h2⟩ := s.at' i d hd
    exact ⟨v, h1, (h2.also nL).mono (Ext.new nL)⟩
  · have hL : H2 L = some (.dK []) := e2 L _ nLp upd_same
    have sb : Sub (hide (p.also L) H2) (hide p (upd H2 L (.dK (mergeK [] [(.inr x, v)])))) := fun a o h => by
      obtain ⟨h1, h2⟩ := hide_some h
      have hn : a ≠ L := fun z => h2 (.inr (by rw [z]; exact List.mem_cons_self))
      rw [hide_ne (show ¬ p.hid a from fun z => h2 (z.elim .inl fun m => .inr (List.mem_cons_of_mem _ m))), upd_ne hn]
      exact h1
    refine ⟨hL, [(.inr x, v)], rfl, by show 1 ≤ 15; decide, ?_⟩
    have e1 : Ext p H (upd H2 L (.dK (mergeK [] [(.inr x, v)]))) := fun a o n h => by
      rw [upd_ne (ne_of_none h nL)]
      exact e2 a o n (by rw [upd_ne (ne_of_none h nL)]; exact h)
    refine k _ _ e1 (p2.other List.mem_cons_self nLp).less (.dct (.inl ?_) (.cons (dv.sub sb fun _ _ z => z) .nil)) fun _ => (fun b z => by
      cases z
      exact ⟨⟨nL, nLp⟩, p2.other List.mem_cons_self nLp, fun g ds z => nomatch z⟩)
    rw [hide_ne (s.pl.not nL), upd_same]
    rfl
end
end LA

namespace LA
open PySem PySem.Spec PyProof.Rows L2
/-! ### try with several clauses, each with or without a name -/
/-- a clause: its class, the slot of its name, what its suite reads -/
structure Cl where
  c : Value
  i : Option Nat
  ts : Addr → Value → Option Addr → TS
def inSlot : Option Nat → V → L2.St → L2.St
  | none, _, σ => σ
  | some i, v, σ => σ.set i (some v)
def outSlot : Option Nat → L2.St → L2.St
  | none, σ => σ
  | some i, σ => σ.set i none
def Ends.behind (D : Ends) (i : Option Nat) : Ends := { nx := fun σ' H' => D.nx (outSlot i σ') H', rt := D.rt, bk := fun σ' H' => D.bk (outSlot i σ') H', ct := fun σ' H' => D.ct (outSlot i σ') H' }
def wCl (K : PySem.W.Frag) (Wo : WX) (D : Ends) : List Cl → WX
  | [] => Wo
  | l :: r => fun cls d σ H => ∃ b, PySem.W.exmOne K cls l.c = some b ∧ (b = true → ∀ a, H a = none → l.ts a cls d (Ends.behind D l.i) (inSlot l.i (.ref a) σ) H) ∧ (b = false → wCl K Wo D r cls d σ H)
inductive ClsOk (X : Cx) : List ExceptHandler → List Cl → Prop
  | nil : ClsOk X [] []
  | bare {x : Str} {c : Value} {ts : Addr → Value → Option Addr → TS} {b0 : Stmt} {su : List Stmt} {np hp : Pos} {hs : List ExceptHandler} {l : List Cl} (nm : Names X x c)
      (run : ∀ (a : Addr) (oe : Obj) (cls : Value) (d : Option Addr) (pn : List (Addr × Obj)), Zc cls d oe → (∃ vs, oe.data = .fields vs) → PSs (X.suite a ((a, oe) :: pn)) (b0 :: su) (ts a cls d)) (r : ClsOk X hs l) :
      ClsOk X (.ExceptHandler (some (.Name x np)) none (b0 :: su) hp :: hs) (⟨c, none, ts⟩ :: l)
  | named {x n : Str} {c : Value} {i : Nat} {ts : Addr → Value → Option Addr → TS} {b0 : Stmt} {su : List Stmt} {np hp : Pos} {hs : List ExceptHandler} {l : List Cl} (nm : Names X x c) (hi : X.N[i]? = some n) (hl : X.env.kindOf n = some .local)
      (run : ∀ (a : Addr) (oe : Obj) (cls : Value) (d : Option Addr) (pn : List (Addr × Obj)), Zc cls d oe → (∃ vs, oe.data = .fields vs) → PSs (X.suite a ((a, oe) :: pn)) (b0 :: su) (ts a cls d)) (r : ClsOk X hs l) :
      ClsOk X (.ExceptHandler (some (.Name x np)) (some n) (b0 :: su) hp :: hs) (⟨c, some i, ts⟩ :: l)
section
variable {X : Cx} {body : List Stmt} {h0 : ExceptHandler} {hs : List ExceptHandler} {l : List Cl} {pos : Pos} {tb : WX → TS} {Wo : WX}
theorem ps_tryCl (hst : X.stack = X.env :: X.outer) (hfr : X.env.frame = some X.env.locals) (hN : X.N.Nodup) (tk : Takes X Wo)
    (hb : ∀ (W : WX) (pn : List (Addr × Obj)) (xe : Value → Shared → Prop), Takes (X.tr pn xe) W → PassesOwn (model X.prog X.w) X.A X.env xe → PSs (X.tr pn xe) body (tb W))
    (hh : ClsOk X (h0 :: hs) l) : PS X (.Try body (h0 :: hs) [] [] pos) (fun D σ H => tb (wCl X.K Wo D l) D σ H) := by
  refine ⟨fun pins s σ H D I hw => ?_⟩
  have OK := I.ok
  have fr2 : X.A.frames = some (X.env :: X.outer) := OK.frames.trans (by rw [hst])
  refine wpAny_Try_except (wpAny_mono ((hb (wCl X.K Wo D l) (X.pn ++ pins) (fun ev sa => wpAny (model X.prog X.w) X.A (noteFrame ev X.env) (fun _ sb => wpAny (model X.prog X.w) X.A (setFlight ev none) (fun _ sc =>
    wpAny (model X.prog X.w) X.A (handleBy ev X.env (h0 :: hs)) (SP X pins D) X.xe sc) X.xe sb) X.xe sa) (fun u sr xx => ?_) PassesOwn.looking).run [] s σ H D (I.toTry _) hw) (fun fl sr q => ?_) fun ev sr q => q)
  · obtain ⟨a, B, sI, pins', σ1, H1, cls, d, rfl, J1, nb, up, sky, na, os, ag, wish⟩ := xx
    have JA : Inv X pins σ1 H1 sI := J1.ofTry OK
    have skyA : Sky B (X.env :: X.outer) a (Zc cls d) X.env.locals sr.heap := by
      rw [← hst]
      exact sky
    show wpAny (model X.prog X.w) X.A (noteFrame (.ref a) X.env) _ _ _
    refine Sky.land Zc.steady fr2 hfr skyA fun hp3 fly upB => ?_
    have JB : Inv X pins σ1 H1 { sr with heap := hp3 } := JA.landed nb fly.1 (up.trans upB) os ag
    obtain ⟨ob, fv, g1, g2, g3⟩ := fly.there
    have notIn : ∀ {hp : Heap} {o : Obj} {ws : Array Value}, hp.FunFrames B (X.env :: X.outer) → hp.get? a = some o → o.data = .fields ws → a ∉ frs (X.env :: X.outer) := fun {hp o ws} ff y z m => by
      obtain ⟨_, o2, y2, nf⟩ := ff.mem m
      rw [y] at y2
      cases y2
      exact nf _ z
    have nAll := notIn fly.2.2.1 g1 g3
    have nLoc : a ≠ X.env.locals := fun z => nAll (List.mem_filterMap.mpr ⟨X.env, List.mem_cons_self, by rw [hfr, z]⟩)
    have nFs : a ∉ X.fs := fun m => by
      obtain ⟨en, hen, z⟩ := List.mem_filterMap.mp m
      exact nAll (List.mem_filterMap.mpr ⟨en, List.mem_cons_of_mem _ hen, z⟩)
    have SB := JB.suite g1 g3 na nLoc nFs
    have seen : ∀ {x : Str} {np : Pos} {c : Value} {Q : Value → Shared → Prop} {E : Value → Shared → Prop}, Names X x c → Q c { sr with heap := hp3 } → wpAny (model X.prog X.w) (X.A.mark (some (.ref a))) (eval (.Name x np) X.env) Q E { sr with heap := hp3 } := fun {x np c Q E} nm q => by
      obtain ⟨hg, hd, hm | ⟨hm, hv, hnn⟩⟩ := nm
      · exact ld_glob (X := X.suite a ((a, ob) :: (X.pn ++ pins))) SB hg hm q hd
      · exact ld_blt (X := X.suite a ((a, ob) :: (X.pn ++ pins))) SB hg hm hv q hnn hd
    have walk : ∀ {hs' : List ExceptHandler} {l' : List Cl}, ClsOk X hs' l' → wCl X.K Wo D l' cls d σ1 H1 → wpAny (model X.prog X.w) X.A (handleBy (.ref a) X.env hs') (SP X pins D) X.xe { sr with heap := hp3 } := by
      intro hs' l' ck
      induction ck with
      | nil =>
        intro wz
        refine wpAny_handleBy_nil ?_
        obtain ⟨z1, z2, z3, oe, vs, T, oT, tz, ho, hz, hdat, hf1, hrst⟩ := id fly
        unfold PySem.passOn
        refine wpAny_bind (wpAny_field ho hdat hf1 ?_)
        rw [if_neg (show ¬ ((Value.ref T == Value.none) = true) by simp)]
        have onw : wpAny (model X.prog X.w) X.A (setFlight (.ref a) X.env.frame) (fun _ sd => wpAny (model X.prog X.w) X.A (throw (.ref a) : Sem Flow) (SP X pins D) X.xe sd) X.xe { sr with heap := hp3 } := by
          rw [hfr]
          refine HandSPX.setFlight_upZ fly fun hp4 held upC => wpAny_throw (tk _ _ ?_)
          exact ⟨a, B, sI, pins, σ1, H1, cls, d, rfl, JA, nb, (up.trans upB).trans upC, .inr (.inr (by rw [hst]; exact held)), na, os, ag, wz⟩
        first
          | exact wpAny_bind (wpAny_pure (wpAny_bind onw))
          | exact wpAny_bind onw
      | @bare x c ts b0 su np hp hs2 l2 nm run r ih =>
        intro wz
        obtain ⟨b, hb1, yes, no⟩ := wz
        refine wpAny_handleBy_cons (codeAny_handlers_test ?_) (by intro z; cases z)
        have LT : PySem.W.Looks (model X.prog X.w) hp3 (typeOf (.ref a)) cls := fun A Q E s' kp q => wpAny_typeOf_ref (kp _ _ g1) (by rw [g2.1]; exact q)
        refine seen nm ((PySem.W.exm_one (M := model X.prog X.w) JB.kIn LT hb1).here ?_)
        cases b with
        | false =>
          show wpAny _ X.A (handleBy (.ref a) X.env hs2) _ _ _
          exact ih (no rfl)
        | true =>
          refine codeAny_handlers_suite ?_
          refine HandSPX.lands_againZ fly fun hp4 fly4 upC => ?_
          have JC : Inv X pins σ1 H1 { sr with heap := hp4 } := JA.landed nb fly4.1 ((up.trans upB).trans upC) os ag
          obtain ⟨o4, w4, y4, z4, d4⟩ := fly4.there
          refine wpAny_mono ((run a o4 cls d (X.pn ++ pins) z4 ⟨_, d4⟩).run [] _ _ H1 _ (JC.suite y4 d4 na nLoc nFs) (yes rfl a na)) (fun fl st q => ?_) fun _ _ z => False.elim z
          cases fl with
          | next => obtain ⟨σ6, H6, S6, q6⟩ := q; exact ⟨σ6, H6, S6.unsuite OK, q6⟩
          | brk => obtain ⟨σ6, H6, S6, q6⟩ := q; exact ⟨σ6, H6, S6.unsuite OK, q6⟩
          | cont => obtain ⟨σ6, H6, S6, q6⟩ := q; exact ⟨σ6, H6, S6.unsuite OK, q6⟩
          | ret u => obtain ⟨v6, σ6, H6, S6, r6, q6⟩ := q; exact ⟨v6, σ6, H6, S6.unsuite OK, r6, q6⟩
      | @named x n c i ts b0 su np hp hs2 l2 nm hi hl run r ih =>
        intro wz
        obtain ⟨b, hb1, yes, no⟩ := wz
        refine wpAny_handleBy_cons (codeAny_handlers_test ?_) (by intro z; cases z)
        have LT : PySem.W.Looks (model X.prog X.w) hp3 (typeOf (.ref a)) cls := fun A Q E s' kp q => wpAny_typeOf_ref (kp _ _ g1) (by rw [g2.1]; exact q)
        refine seen nm ((PySem.W.exm_one (M := model X.prog X.w) JB.kIn LT hb1).here ?_)
        cases b with
        | false =>
          show wpAny _ X.A (handleBy (.ref a) X.env hs2) _ _ _
          exact ih (no rfl)
        | true =>
          refine codeAny_handlers_suite_as ?_
          refine HandSPX.lands_againZ fly fun hp4 fly4 upC => ?_
          have JC : Inv X pins σ1 H1 { sr with heap := hp4 } := JA.landed nb fly4.1 ((up.trans upB).trans upC) os ag
          obtain ⟨o4, w4, y4, z4, d4⟩ := fly4.there
          refine store_ok (X := X.suite a ((a, o4) :: (X.pn ++ pins))) (v := .ref a) (JC.suite y4 d4 na nLoc nFs) hN hi (.inl hl) rfl (fun s5 S5 => ?_) (.inr hl)
          refine wpAny_mono ((run a o4 cls d (X.pn ++ pins) z4 ⟨_, d4⟩).run [] s5 _ H1 _ S5 (yes rfl a na)) (fun fl st q => ?_) fun _ _ z => False.elim z
          have close : ∀ {σ6 : L2.St} {H6 : Hp} {Q : Shared → Prop}, Inv (X.suite a ((a, o4) :: (X.pn ++ pins))) [] σ6 H6 st → (∀ s7, Inv X pins (σ6.set i none) H6 s7 → Q s7) →
              wpAny (model X.prog X.w) X.A (do bindName X.env n .none; unbindBehindTheSuite X.env n hp) (fun _ s7 => Q s7) X.xe st := fun {σ6 H6 Q} S6 hq => gone_ok (S6.unsuite OK) hN hi hl hq
          cases fl with
          | next => obtain ⟨σ6, H6, S6, q6⟩ := q; exact close S6 fun s7 J7 => ⟨_, H6, J7, q6⟩
          | brk => obtain ⟨σ6, H6, S6, q6⟩ := q; exact close S6 fun s7 J7 => ⟨_, H6, J7, q6⟩
          | cont => obtain ⟨σ6, H6, S6, q6⟩ := q; exact close S6 fun s7 J7 => ⟨_, H6, J7, q6⟩
          | ret u => obtain ⟨v6, σ6, H6, S6, r6, q6⟩ := q; exact close S6 fun s7 J7 => ⟨v6, _, H6, J7, r6, q6⟩
    exact walk hh wish
  · cases fl with
    | next => obtain ⟨σ6, H6, J6, q6⟩ := q; exact wpAny_execs_nil ⟨σ6, H6, J6.ofTry OK, q6⟩
    | brk => obtain ⟨σ6, H6, J6, q6⟩ := q; exact ⟨σ6, H6, J6.ofTry OK, q6⟩
    | cont => obtain ⟨σ6, H6, J6, q6⟩ := q; exact ⟨σ6, H6, J6.ofTry OK, q6⟩
    | ret u => obtain ⟨v6, σ6, H6, J6, r6, q6⟩ := q; exact ⟨v6, σ6, H6, J6.ofTry OK, r6, q6⟩
end
end LA

namespace LA
open PySem PySem.Spec PyProof.Rows L2
/-! ### exceptions with fields -/
/-- __init__(self, y): self.f = y -/
def spIni1 (K : PySem.W.Frag) (f : Str) : Sp := fun vs H Q _ => ∃ (a C : Addr) (y : V), vs = [.ref a, y] ∧ OexC K C ∧ PySem.W.findIn K (.ref C) f = some none ∧ H a = some (exo a C none) ∧
  ∀ dx, H dx = none → dx ≠ a → Q .non (upd (upd H dx (exd dx [(f, y)])) a (exo a C (some dx)))
/-- __init__(self, y, z): self.f = y; self.g = z -/
def spIni2 (K : PySem.W.Frag) (f g : Str) : Sp := fun vs H Q _ => ∃ (a C : Addr) (y z : V), vs = [.ref a, y, z] ∧ OexC K C ∧ PySem.W.findIn K (.ref C) f = some none ∧ PySem.W.findIn K (.ref C) g = some none ∧ H a = some (exo a C none) ∧
  ∀ dx, H dx = none → dx ≠ a → Q .non (upd (upd (upd H dx (exd dx [(f, y)])) a (exo a C (some dx))) dx (exd dx [(g, z), (f, y)]))
section
variable {P : Program} {w : World} {K : PySem.W.Frag} {mg : Str → Option Value} {base : Heap} {qual : Str} {st : Stmt} {fI : Addr} {fd : FuncData}
theorem vis_of {N ps : List Str} {sc : Scope} (S : FnScope N ps sc) {x : Str} (h : x ∈ ps) : Vis sc x := (S.par x h).elim .inl fun z => .inr (.inl z)
theorem ok_ini1 {f pn : Str} {q1 q2 q3 q4 : Pos} (F : Fun K "__init__" qual st fI fd) (S : FnScope ["self", pn] ["self", pn] (defScope st)) (hb : defBody st = [.Assign [.Attribute (.Name "self" q1) f q2] (.Name pn q3) q4])
    (h1 : (pn == ("__debug__" : Str)) = false) (h2 : (pn == ("__classdict__" : Str)) = false) : FnOk P w K mg base CX0 1 fI fd ["self", pn] (spIni1 K f) := by
  refine F.ok S (fun vs H Q E h => ?_) (fun cdv A outer s H vs Q E hr h => ?_)
  · obtain ⟨a, C, y, rfl, _⟩ := h
    rfl
  · obtain ⟨a, C, y, rfl, T, hno, ha, k⟩ := h
    rw [hb]
    refine ⟨_, pss_one (ps_ost (pv 0 (hv := vis_of S (List.mem_cons_self ..))) (pv 1 (hN := rfl) (hv := vis_of S (List.mem_cons_of_mem _ (List.mem_cons_self ..))) (hd := h1) (hcd := h2))), ?_⟩
    exact ⟨y, rfl, .ref a, rfl, a, C, rfl, T, hno, .inl ⟨ha, fun dx n ne => k dx n ne⟩⟩
theorem ok_ini2 {f g pn pm : Str} {q1 q2 q3 q4 r1 r2 r3 r4 : Pos} (F : Fun K "__init__" qual st fI fd) (S : FnScope ["self", pn, pm] ["self", pn, pm] (defScope st))
    (hb : defBody st = [.Assign [.Attribute (.Name "self" q1) f q2] (.Name pn q3) q4, .Assign [.Attribute (.Name "self" r1) g r2] (.Name pm r3) r4])
    (h1 : (pn == ("__debug__" : Str)) = false) (h2 : (pn == ("__classdict__" : Str)) = false) (h3 : (pm == ("__debug__" : Str)) = false) (h4 : (pm == ("__classdict__" : Str)) = false) : FnOk P w K mg base CX0 1 fI fd ["self", pn, pm] (spIni2 K f g) := by
  refine F.ok S (fun vs H Q E h => ?_) (fun cdv A outer s H vs Q E hr h => ?_)
  · obtain ⟨a, C, y, z, rfl, _⟩ := h
    rfl
  · obtain ⟨a, C, y, z, rfl, T, hno, hno2, ha, k⟩ := h
    rw [hb]
    have m1 : pn ∈ (["self", pn, pm] : List Str) := List.mem_cons_of_mem _ (List.mem_cons_self ..)
    have m2 : pm ∈ (["self", pn, pm] : List Str) := List.mem_cons_of_mem _ (List.mem_cons_of_mem _ (List.mem_cons_self ..))
    refine ⟨_, pss_cons (ps_ost (pv 0 (hv := vis_of S (List.mem_cons_self ..))) (pv 1 (hN := rfl) (hv := vis_of S m1) (hd := h1) (hcd := h2)))
      (pss_one (ps_ost (pv 0 (hv := vis_of S (List.mem_cons_self ..))) (pv 2 (hN := rfl) (hv := vis_of S m2) (hd := h3) (hcd := h4)))), ?_⟩
    refine ⟨y, rfl, .ref a, rfl, a, C, rfl, T, hno, .inl ⟨ha, fun dx n ne => ?_⟩⟩
    exact ⟨z, rfl, .ref a, rfl, a, C, rfl, T, hno2, .inr ⟨dx, [(f, y)], upd_same, by rw [upd_ne ne]; exact upd_same, (by show 1 ≤ 900; decide), k dx n ne⟩⟩
end
section
variable {X : Cx} {W : WX} {p : HD} {ρ : Rho} {c c1 c2 : PC} {e e2 : Expr} {pos pos2 xp : Pos} {d d2 : D} {n1 n2 : Bool} {x f g pn pm : Str} {C fI : Addr} {fd : FuncData} {k : Nat}
/-- the heap when the exception has left, by what it has in sight -/
theorem fin_ex {K : PySem.W.Frag} {H1 G : Hp} {a dx : Addr} {fs : List (Str × V)} (na : H1 a = none) (nd : H1 dx = none) (hG : ∀ b, b ≠ a → b ≠ dx → G b = H1 b) (hp : PoolAt K p H1 c) : Ext p H1 (upd (L2.del G a) dx (.xd fs)) ∧ PoolAt K p (upd (L2.del G a) dx (.xd fs)) c ∧ hide p (upd (L2.del G a) dx (.xd fs)) dx = some (.xd fs) := by
  have at' : ∀ b, b ≠ a → b ≠ dx → upd (L2.del G a) dx (.xd fs) b = H1 b := fun b h1 h2 => by
    rw [upd_ne h2, del_ne h1, hG b h1 h2]
  have e : Ext p H1 (upd (L2.del G a) dx (.xd fs)) := fun b o _ h => by
    rw [at' b (ne_of_none h na) (ne_of_none h nd)]
    exact h
  refine ⟨e, ⟨⟨hp.1.1, hp.1.2.1, fun i b x h1 h2 => ?_⟩, fun b z => ?_⟩, ?_⟩
  · obtain ⟨o, q⟩ := hp.ex (List.mem_of_getElem? h1)
    exact (hp.1.2.2 i b x h1 h2).sub e.hide (at' b (ne_of_none q na) (ne_of_none q nd))
  · obtain ⟨o, q⟩ := hp.2 b z
    exact ⟨o, by rw [at' b (ne_of_none q na) (ne_of_none q nd)]; exact q⟩
  · rw [hide_ne (hp.not nd), upd_same]
theorem rs_raise1 (hc : X.calm = true) (tk : Takes X W) (T : OexC X.K C) (hno : PySem.W.findIn X.K (.ref C) f = some none) (iC : PySem.W.findIn X.K (.ref C) "__init__" = some (some (.ref fI))) (tI : PySem.W.typeIn X.K (.ref fI) = some (.type "function"))
    (F1 : FnOk X.prog X.w X.K X.mg X.base CX0 k fI fd ["self", pn] (spIni1 X.K f)) (hr : Room (k + 1) X.A) (hb : Binds X.K fd ["self", pn] []) (hm : X.mg x = some (.ref C)) (he : RE X W p ρ c e (.val d n1 c1)) (hg : Gl X x := by rfl)
    (hdb : (x == ("__debug__" : Str)) = false := by decide) (hs : starEach (e :: []) X.env = (false, eval e X.env) :: starEach [] X.env := by rfl) (hpl : (backTo pos (starEach [] X.env)).any (·.1) = false := by rfl) :
    RS X W p ρ c (.Raise (some (.Call (.Name x xp) [e] [] pos)) none pos2) (.ex C [(f, d)] c1) :=
  ps_imp (ps_raise hc tk (pmk_oex T iC tI F1 hr hb .nil pass0 hg hm (ra_cons (W := W) he (ra_nil (W := W)) hs) hdb hs hpl)) fun De σ H h => ⟨h.1, fun vs H1 e1 p1 dvs => by
    cases dvs with
    | @cons y _ _ _ dy r =>
      cases r
      refine ⟨by show 1 ≤ 1000; decide, fun a na => ⟨a, C, y, rfl, T, hno, upd_same, fun dx n ne => ⟨rfl, dx, [(f, y)], upd_same, by rw [upd_ne ne]; exact upd_same, ?_, ?_⟩⟩⟩
      · rw [upd_ne ne] at n
        exact n
      · have nd : H1 dx = none := by
          rw [upd_ne ne] at n
          exact n
        obtain ⟨q1, q2, q3⟩ := fin_ex (p := p) (fs := [(f, y)]) na nd (G := upd (upd (upd H1 a (exo a C none)) dx (exd dx [(f, y)])) a (exo a C (some dx))) (fun b h1 h2 => by rw [upd_ne h1, upd_ne h2, upd_ne h1]) p1
        exact h.2 ρ dx [(f, y)] σ _ (e1.trans q1) (h.1.mono (e1.trans q1) q2) rfl q3 (.cons (dy.mono q1) .nil)⟩
theorem rs_raise2 (hc : X.calm = true) (tk : Takes X W) (T : OexC X.K C) (hno : PySem.W.findIn X.K (.ref C) f = some none) (hno2 : PySem.W.findIn X.K (.ref C) g = some none) (iC : PySem.W.findIn X.K (.ref C) "__init__" = some (some (.ref fI))) (tI : PySem.W.typeIn X.K (.ref fI) = some (.type "function"))
    (F1 : FnOk X.prog X.w X.K X.mg X.base CX0 k fI fd ["self", pn, pm] (spIni2 X.K f g)) (hr : Room (k + 1) X.A) (hb : Binds X.K fd ["self", pn, pm] []) (hm : X.mg x = some (.ref C)) (he : RE X W p ρ c e (.val d n1 c1)) (he2 : RE X W p ρ c1 e2 (.val d2 n2 c2)) (hg : Gl X x := by rfl)
    (hdb : (x == ("__debug__" : Str)) = false := by decide) (hs : starEach (e :: [e2]) X.env = (false, eval e X.env) :: starEach [e2] X.env := by rfl) (hs2 : starEach (e2 :: []) X.env = (false, eval e2 X.env) :: starEach [] X.env := by rfl) (hpl : (backTo pos (starEach [e2] X.env)).any (·.1) = false := by rfl) :
    RS X W p ρ c (.Raise (some (.Call (.Name x xp) [e, e2] [] pos)) none pos2) (.ex C [(g, d2), (f, d)] c2) :=
  ps_imp (ps_raise hc tk (pmk_oex T iC tI F1 hr hb .nil pass0 hg hm (ra_cons (W := W) he (ra_cons (W := W) he2 (ra_nil (W := W)) hs2) hs) hdb hs hpl)) fun De σ H h => ⟨h.1, fun vs H1 e1 p1 dvs => by
    cases dvs with
    | @cons y _ _ _ dy r =>
      cases r with
      | @cons z _ _ _ dz r =>
        cases r
        refine ⟨by show 2 ≤ 1000; decide, fun a na => ⟨a, C, y, z, rfl, T, hno, hno2, upd_same, fun dx n ne => ?_⟩⟩
        have nd : H1 dx = none := by
          rw [upd_ne ne] at n
          exact n
        refine ⟨rfl, dx, [(g, z), (f, y)], by rw [upd_ne (Ne.symm ne)]; exact upd_same, upd_same, nd, ?_⟩
        obtain ⟨q1, q2, q3⟩ := fin_ex (p := p) (fs := [(g, z), (f, y)]) na nd (G := upd (upd (upd (upd H1 a (exo a C none)) dx (exd dx [(f, y)])) a (exo a C (some dx))) dx (exd dx [(g, z), (f, y)])) (fun b h1 h2 => by rw [upd_ne h2, upd_ne h1, upd_ne h2, upd_ne h1]) p1
        exact h.2 ρ dx _ σ _ (e1.trans q1) (h.1.mono (e1.trans q1) q2) rfl q3 (.cons (dz.mono q1) (.cons (dy.mono q1) .nil))⟩
end
/-! ### the field of a caught exception -/
theorem re_xf {X : Cx} {a C dx : Addr} {oe : Obj} {cls : Value} {pn : List (Addr × Obj)} {e : Expr} {pos : Pos} {n : Str} {p : HD} {ρ : Rho} {c c1 : PC} {fs : List (Str × D)} {d : D} {nw : Bool} {W : WX} (T : XfC X.K C) (hno : PySem.W.findIn X.K (.ref C) n = some none) (hz : Zc cls (some dx) oe) (hf : ∃ vs, oe.data = .fields vs) (hc : cls = .ref C)
    (he : RE (X.suite a ((a, oe) :: pn)) W p ρ c e (.val (.exn a dx fs) nw c1)) (hl : fs.lookup n = some d) (hb : attributeBase e n X.env (eval e X.env) = eval e X.env := by rfl) : RE (X.suite a ((a, oe) :: pn)) W p ρ c (.Attribute e n pos) (.val d false c1) :=
  pe_imp (pe_xf T hno hz hf he hb) fun σ H Q ⟨s, k⟩ => ⟨s, fun v H1 e1 p1 dv _ => by
    cases dv with
    | exn hx hfv =>
      obtain ⟨y, h1, h2⟩ := hfv.get hl
      exact ⟨rfl, hc, dx, _, y, rfl, (hide_some hx).1, h1, k y H1 e1 p1 h2 fun q => nomatch q⟩⟩
end LA

namespace LA
open PySem PySem.Spec PyProof.Rows L2
/-! ### for over an iterator of data -/
section
variable {X : Cx} {W : WX} {p : HD} {ρ : Rho} {c : PC} {tg it : Expr} {body : List Stmt} {pos : Pos} {xs : List D} {g : TG} {vs : List Nat}
/-- n turns go on, then the end or a turn that returns -/
theorem rs_for (n : Nat) (ρs ρt : Nat → Rho) (cs : Nat → PC) (o : SO) (hp : PassesOwn (model X.prog X.w) X.A X.env X.xe) (hc : X.calm = true) (h0 : ρs 0 = ρ) (hi : RI X W p ρ c tg it xs (cs 0)) (hg : PG X tg g)
    (htg : ∀ i d, xs[i]? = some d → i ≤ n → TgOk X.K g vs d (ρs i) (ρt i))
    (hb : ∀ i d, xs[i]? = some d → i < n → RSs X W p (ρt i) (cs i) body (.nx (ρs (i + 1)) (cs (i + 1))))
    (hend : (n = xs.length ∧ o = .nx (ρs n) (cs n)) ∨ ∃ d dd nw cc, xs[n]? = some d ∧ o = .rt dd nw cc ∧ RSs X W p (ρt n) (cs n) body o)
    (hs : ∀ x, foldedSetIterable it X.env x = pure x := by intro _; rfl) : RS X W p ρ c (.For tg it body [] pos) o := by
  subst h0
  have hn : n ≤ xs.length := by
    rcases hend with ⟨h, _⟩ | ⟨d, _, _, _, h, _⟩
    · omega
    · have := (List.getElem?_eq_some_iff.mp h).1
      omega
  have PU : PSs X body (fun De σ H => ∃ (i : Nat) (so : SO), RSs X W p (ρt i) (cs i) body so ∧ tSt X.K W p (ρt i) (cs i) so De σ H) := ⟨fun pins s σ H De I ⟨i, so, h1, h2⟩ => h1.run pins s σ H De I h2⟩
  refine ps_imp (ps_for hp hc hi hg PU hs) fun De σ H h => ?_
  refine ⟨st_sr h, fun J H1 e1 p1 yl => ?_⟩
  refine ⟨fun i m σ2 H2 => m = xs.length - i ∧ i ≤ n ∧ Ext p H1 H2 ∧ SR X.K p H2 σ2 (ρs i) (cs i), ⟨xs.length, by simp, Nat.zero_le _, Ext.refl _ _, (st_sr h).mono e1 p1⟩, ?_⟩
  rintro i m σ2 H2 ⟨rfl, hi', e2, s2⟩
  obtain ⟨hstop, hgo⟩ := yl p (cs i) H2 rfl e2.hide s2.pl
  by_cases hlt : i < n
  · have hd : xs[i]? = some (xs[i]'(Nat.lt_of_lt_of_le hlt hn)) := List.getElem?_eq_getElem _
    obtain ⟨g1, g2⟩ := hgo i _ hd
    refine .inr ⟨g1, fun σ' H' => Ext p H1 H' ∧ SR X.K p H' σ' (ρs (i + 1)) (cs (i + 1)), fun σ' H' ⟨a1, a2⟩ => ⟨xs.length - (i + 1), by omega, rfl, hlt, a1, a2⟩, fun x H3 hy => ?_⟩
    obtain ⟨e3, p3, dx⟩ := g2 x H3 hy
    refine (htg i _ hd hi').run p (cs i) x _ H3 _ dx (s2.mono e3 p3) p3 fun σ3 s3 _ => ⟨i, _, hb i _ hd hlt, s3, fun σ4 H4 e4 s4 => ⟨(e2.trans e3).trans e4, s4⟩⟩
  · have e : i = n := by omega
    subst e
    rcases hend with ⟨h1, h2⟩ | ⟨d, dd, nw, cc, h1, h2, h3⟩
    · subst h2
      rw [← h1] at hstop
      exact .inl ⟨hstop, h.2 σ2 H2 (e1.trans e2) s2⟩
    · subst h2
      obtain ⟨g1, g2⟩ := hgo i _ h1
      refine .inr ⟨g1, fun _ _ => False, fun _ _ z => z.elim, fun x H3 hy => ?_⟩
      obtain ⟨e3, p3, dx⟩ := g2 x H3 hy
      refine (htg i _ h1 hi').run p (cs i) x _ H3 _ dx (s2.mono e3 p3) p3 fun σ3 s3 _ => ⟨i, _, h3, s3, fun v H4 e4 p4 dv hn' => ?_⟩
      have e04 : Ext p H H4 := e1.trans (e2.trans (e3.trans e4))
      exact h.2 v H4 e04 p4 dv fun q => (hn' q).back (e1.trans (e2.trans e3))
theorem rs_for_all (ρs ρt : Nat → Rho) (cs : Nat → PC) (hp : PassesOwn (model X.prog X.w) X.A X.env X.xe) (hc : X.calm = true) (h0 : ρs 0 = ρ) (hi : RI X W p ρ c tg it xs (cs 0)) (hg : PG X tg g)
    (htg : ∀ i d, xs[i]? = some d → TgOk X.K g vs d (ρs i) (ρt i))
    (hb : ∀ i d, xs[i]? = some d → RSs X W p (ρt i) (cs i) body (.nx (ρs (i + 1)) (cs (i + 1))))
    (hs : ∀ x, foldedSetIterable it X.env x = pure x := by intro _; rfl) : RS X W p ρ c (.For tg it body [] pos) (.nx (ρs xs.length) (cs xs.length)) :=
  rs_for xs.length ρs ρt cs _ hp hc h0 hi hg (fun i d h _ => htg i d h) (fun i d h _ => hb i d h) (.inl ⟨rfl, rfl⟩) hs
end
/-! ### try -/
inductive Picks (K : PySem.W.Frag) (c : Value) : List Cl → Cl → Prop
  | here {l : Cl} {r : List Cl} : PySem.W.exmOne K c l.c = some true → Picks K c (l :: r) l
  | there {l m : Cl} {r : List Cl} : PySem.W.exmOne K c l.c = some false → Picks K c r m → Picks K c (l :: r) m
theorem wCl_of {K : PySem.W.Frag} {Wo : WX} {De : Ends} {cls : Value} {d : Option Addr} {σ : L2.St} {H : Hp} {m : Cl} : ∀ {l : List Cl}, Picks K cls l m → (∀ a, H a = none → m.ts a cls d (Ends.behind De m.i) (inSlot m.i (.ref a) σ) H) → wCl K Wo De l cls d σ H
  | _, .here h, k => ⟨true, h, (fun _ => k), fun z => nomatch z⟩
  | _, .there h r, k => ⟨false, h, (fun z => nomatch z), fun _ => wCl_of r k⟩
def blank (n : Nat) : Rho := List.replicate n none
theorem SR.blank {K : PySem.W.Frag} {p : HD} {H : Hp} {σ : L2.St} {ρ : Rho} {c : PC} (s : SR K p H σ ρ c) {n : Nat} (hn : ρ.length = n) : SR K p H σ (LA.blank n) c :=
  ⟨by unfold LA.blank; rw [List.length_replicate, ← hn]; exact s.len, (fun i d h => by
    unfold LA.blank at h
    rw [List.getElem?_replicate] at h
    split at h
    · cases h
    · cases h), s.pl⟩
section
variable {X : Cx} {W : WX} {p : HD} {ρ : Rho} {c c1 c2 : PC} {body : List Stmt} {h0 : ExceptHandler} {hs : List ExceptHandler} {l : List Cl} {pos : Pos} {o : SO} {d : D} {nw : Bool} {C : Addr} {fs : List (Str × D)}
/-- what a suite with the exception in slot i is read by -/
def tsD (K : PySem.W.Frag) (W : WX) (p : HD) (n : Nat) (C : Addr) (fs : List (Str × D)) (c1 : PC) (i : Option Nat) (o : SO) : Addr → Value → Option Addr → TS := fun a cls dd De σ H =>
  cls = .ref C ∧ ∃ dx, dd = some dx ∧ tSt K W p (match i with | none => blank n | some i => (blank n).set i (some (.exn a dx fs))) c1 o De σ H
theorem rs_try (hst : X.stack = X.env :: X.outer) (hfr : X.env.frame = some X.env.locals) (hN : X.N.Nodup) (tk : Takes X W)
    (hb : ∀ (W' : WX) (pn : List (Addr × Obj)) (xe : Value → Shared → Prop), Takes (X.tr pn xe) W' → PassesOwn (model X.prog X.w) X.A X.env xe → RSs (X.tr pn xe) W' p ρ c body (.rt d nw c1))
    (hh : ClsOk X (h0 :: hs) l) : RS X W p ρ c (.Try body (h0 :: hs) [] [] pos) (.rt d nw c1) :=
  ps_imp (ps_tryCl (tb := fun W' => tSt X.K W' p ρ c (.rt d nw c1)) hst hfr hN tk hb hh) fun De σ H h => h
theorem rs_tryX {i : Nat} (hst : X.stack = X.env :: X.outer) (hfr : X.env.frame = some X.env.locals) (hN : X.N.Nodup) (tk : Takes X W)
    (hb : ∀ (W' : WX) (pn : List (Addr × Obj)) (xe : Value → Shared → Prop), Takes (X.tr pn xe) W' → PassesOwn (model X.prog X.w) X.A X.env xe → RSs (X.tr pn xe) W' p ρ c body (.ex C fs c1))
    (hh : ClsOk X (h0 :: hs) l) {cv : Value} (pk : Picks X.K (.ref C) l ⟨cv, some i, tsD X.K W p ρ.length C fs c1 (some i) (.rt d nw c2)⟩) : RS X W p ρ c (.Try body (h0 :: hs) [] [] pos) (.rt d nw c2) :=
  ps_imp (ps_tryCl (tb := fun W' => tSt X.K W' p ρ c (.ex C fs c1)) hst hfr hN tk hb hh) fun De σ H h => ⟨h.1, fun ρ' dx fv σ1 H1 e1 s1 hl hx hf => wCl_of pk fun a na =>
    ⟨rfl, dx, rfl, (s1.blank hl).set i (.exn hx hf), fun v H2 e2 p2 dv hn => h.2 v H2 (e1.trans e2) p2 dv fun q => (hn q).back e1⟩⟩
/-- the suites of the clauses: one that is never come to -/
theorem cl_no {x n : Str} {cv : Value} {i : Nat} {b0 : Stmt} {su : List Stmt} {np hp : Pos} (nm : Names X x cv) (hi : X.N[i]? = some n) (hl : X.env.kindOf n = some .local) (r : ClsOk X hs l) :
    ClsOk X (.ExceptHandler (some (.Name x np)) (some n) (b0 :: su) hp :: hs) (⟨cv, some i, fun _ _ _ => tNever⟩ :: l) := .named nm hi hl (fun _ _ _ _ _ _ _ => pss_never) r
theorem cl_no0 {x : Str} {cv : Value} {b0 : Stmt} {su : List Stmt} {np hp : Pos} (nm : Names X x cv) (r : ClsOk X hs l) :
    ClsOk X (.ExceptHandler (some (.Name x np)) none (b0 :: su) hp :: hs) (⟨cv, none, fun _ _ _ => tNever⟩ :: l) := .bare nm (fun _ _ _ _ _ _ _ => pss_never) r
theorem cl_yes {x n : Str} {cv : Value} {i m : Nat} {b0 : Stmt} {su : List Stmt} {np hp : Pos} (nm : Names X x cv) (hi : X.N[i]? = some n) (hl : X.env.kindOf n = some .local)
    (run : ∀ (a dx : Addr) (oe : Obj) (pn : List (Addr × Obj)), Zc (.ref C) (some dx) oe → (∃ vs, oe.data = .fields vs) → RSs (X.suite a ((a, oe) :: pn)) W p ((blank m).set i (some (.exn a dx fs))) c1 (b0 :: su) o) (r : ClsOk X hs l) :
    ClsOk X (.ExceptHandler (some (.Name x np)) (some n) (b0 :: su) hp :: hs) (⟨cv, some i, tsD X.K W p m C fs c1 (some i) o⟩ :: l) :=
  .named nm hi hl (fun a oe cls dd pn z f => ⟨fun pins s σ H De I ⟨h1, dx, h2, h3⟩ => by
    subst h1 h2
    exact (run a dx oe pn z f).run pins s σ H De I h3⟩) r
end
/-! ### a new list that is changed: the rest of a block with it out of sight -/
def scB (d : D) : Bool := (scD d).isSome
theorem scB_ref {K : PySem.W.Frag} {p : HD} {H : Hp} {a : Addr} {d : D} (h : DV K p H (.ref a) d) (e : scB d = true) : False := by
  cases h <;> cases e
inductive LowR (n : Nat) : Rho → Prop
  | nil : LowR n []
  | non {r : Rho} : LowR n r → LowR n (none :: r)
  | one {d : D} {r : Rho} : lowD n d = true → LowR n r → LowR n (some d :: r)
theorem LowR.get {n : Nat} : ∀ {r : Rho}, LowR n r → ∀ (i : Nat) (d : D), r[i]? = some (some d) → lowD n d = true
  | _, .nil, _, _, h => by simp at h
  | _, .non _, 0, _, h => by cases h
  | _, .one h _, 0, _, z => by
    cases Option.some.inj (Option.some.inj z)
    exact h
  | _, .non h, i + 1, d, z => LowR.get h i d z
  | _, .one _ h, i + 1, d, z => LowR.get h i d z
/-- an outcome within, and without -/
inductive Outs (n : Nat) : SO → SO → Prop
  | nx {ρ : Rho} {c c' : PC} : LowR n ρ → c.take n = c' → Outs n (.nx ρ c) (.nx ρ c')
  | rt {d : D} {nw : Bool} {c c' : PC} : lowD n d = true → c.take n = c' → Outs n (.rt d nw c) (.rt d nw c')
  | ex {C : Addr} {fs : List (Str × D)} {c c' : PC} : lowDf n fs = true → c.take n = c' → Outs n (.ex C fs c) (.ex C fs c')
section
variable {K : PySem.W.Frag} {p : HD} {H H1 H2 : Hp} {a : Addr} {c c1 : PC}
theorem mut_at {i : Nat} {b : Addr} (h : p.m[i]? = some b) : (p.mut a).m[i]? = some b := by
  show (p.m ++ [a])[i]? = some b
  rw [List.getElem?_append_left (List.getElem?_eq_some_iff.mp h).1]
  exact h
theorem at_mut {i : Nat} {b : Addr} (l : i < p.m.length) (h : (p.mut a).m[i]? = some b) : p.m[i]? = some b := by
  have h : (p.m ++ [a])[i]? = some b := h
  rw [List.getElem?_append_left l] at h
  exact h
theorem mut_hid {b : Addr} : (p.mut a).hid b ↔ p.hid b ∨ b = a := by
  show b ∈ p.m ++ [a] ∨ b ∈ p.z ↔ (b ∈ p.m ∨ b ∈ p.z) ∨ b = a
  rw [List.mem_append, List.mem_singleton]
  constructor
  · rintro ((h | h) | h)
    · exact .inl (.inl h)
    · exact .inr h
    · exact .inl (.inr h)
  · rintro ((h | h) | h)
    · exact .inl (.inl h)
    · exact .inr h
    · exact .inl (.inr h)
theorem sub_mut : Sub (hide (p.mut a) H) (hide p H) := fun b o h => by
  obtain ⟨h1, h2⟩ := hide_some h
  rw [hide_ne (fun z => h2 (mut_hid.mpr (.inl z)))]
  exact h1
theorem also_mut : Sub (hide (p.also a) H) (hide (p.mut a) H) := fun b o h => by
  obtain ⟨h1, h2⟩ := hide_some h
  rw [hide_ne (show ¬ (p.mut a).hid b from fun z => h2 ((mut_hid.mp z).elim (fun q => q.elim .inl fun q => .inr (List.mem_cons_of_mem _ q)) fun q => .inr (by rw [q]; exact List.mem_cons_self)))]
  exact h1
theorem sub_new (n : H a = none) (e : Ext p H H1) : Sub (hide p H) (hide (p.mut a) H1) := fun b o h => by
  obtain ⟨h1, h2⟩ := hide_some h
  rw [hide_ne (fun z => (mut_hid.mp z).elim h2 fun q => by rw [q, n] at h1; cases h1)]
  exact e b o (fun z => h2 (.inl z)) h1
/-- in -/
theorem PoolAt.in' {x : Cell} (h : PoolAt K (p.also a) H c) (nm : a ∉ p.m) (hx : CellAt K (p.mut a) H a x) : PoolAt K (p.mut a) H (c ++ [x]) := by
  have hl : p.m.length = c.length := h.1.2.1
  refine ⟨⟨?_, ?_, fun i b y hi hy => ?_⟩, fun b m => h.2 b (List.mem_cons_of_mem _ m)⟩
  · show (p.m ++ [a]).Nodup
    rw [List.nodup_append]
    refine ⟨h.1.1, by simp, fun x hx y hy => ?_⟩
    rw [List.mem_singleton.mp hy]
    exact fun z => nm (by rw [← z]; exact hx)
  · show (p.m ++ [a]).length = (c ++ [x]).length
    rw [List.length_append, List.length_append, hl]
    rfl
  · by_cases l : i < p.m.length
    · rw [List.getElem?_append_left (by rw [← hl]; exact l)] at hy
      exact (h.1.2.2 i b y (at_mut l hi) hy).sub also_mut rfl
    · have hi' : (p.m ++ [a])[i]? = some b := hi
      rw [List.getElem?_append_right (by omega)] at hi' hy
      have li := (List.getElem?_eq_some_iff.mp hi').1
      have e : i - p.m.length = 0 := by
        have : i - p.m.length < 1 := li
        omega
      rw [e] at hi'
      rw [show i - c.length = 0 by omega] at hy
      cases hi'
      cases hy
      exact hx
/-- out -/
theorem PoolAt.out (h : PoolAt K (p.mut a) H c) : PoolAt K p H (c.take p.m.length) := by
  have hl : (p.m ++ [a]).length = c.length := h.1.2.1
  rw [List.length_append] at hl
  have hl : p.m.length + 1 = c.length := hl
  refine ⟨⟨?_, ?_, fun i b y hi hy => ?_⟩, fun b m => h.2 b m⟩
  · have q : (p.m ++ [a]).Nodup := h.1.1
    exact (List.nodup_append.mp q).1
  · rw [List.length_take]
    omega
  · have l := (List.getElem?_eq_some_iff.mp hi).1
    rw [List.getElem?_take_of_lt l] at hy
    exact (h.1.2.2 i b y (mut_at hi) hy).sub sub_mut rfl
theorem also_out {b : Addr} (h : PoolAt K ((p.mut a).also b) H c) : PoolAt K (p.also b) H (c.take p.m.length) := PoolAt.out (p := p.also b) (a := a) h
theorem SR.out {σ : L2.St} {ρ : Rho} {n : Nat} (s : SR K (p.mut a) H σ ρ c) (hn : p.m.length = n) (l : LowR n ρ) : SR K p H σ ρ (c.take n) :=
  ⟨s.len, fun i d h => by
    obtain ⟨v, h1, h2⟩ := s.at' i d h
    exact ⟨v, h1, h2.low sub_mut (fun i b li hi => at_mut (by rw [hn]; exact li) hi) (l.get i d h)⟩, by rw [← hn]; exact s.pl.out⟩
theorem sub_also_mut {b : Addr} : Sub (hide ((p.mut a).also b) H) (hide (p.also b) H) := fun x o h => by
  obtain ⟨h1, h2⟩ := hide_some h
  rw [hide_ne (show ¬ (p.also b).hid x from fun z => h2 (z.elim (fun q => .inl (List.mem_append.mpr (.inl q))) .inr))]
  exact h1
theorem New.out {v : V} {d : D} {n : Nat} (hn : p.m.length = n) (l : lowD n d = true) (h : New K (p.mut a) H H1 c v d) : New K p H H1 (c.take n) v d := fun b e => by
  obtain ⟨⟨h1, h2⟩, h3, h4⟩ := h b e
  subst hn
  refine ⟨⟨h1, fun z => h2 (List.mem_append.mpr (.inl z))⟩, also_out h3, fun g ds e' => ?_⟩
  obtain ⟨vs, q1, q2⟩ := h4 g ds e'
  subst e'
  unfold lowD at l
  exact ⟨vs, q1, q2.low (n := p.m.length) sub_also_mut (fun i b li hi => at_mut li hi) l⟩
end
/-! more than one -/
def HD.muts (p : HD) : List Addr → HD
  | [] => p
  | a :: r => (HD.muts p r).mut a
section
variable {K : PySem.W.Frag} {p : HD} {H H1 H2 : Hp} {c c1 : PC}
theorem muts_len : ∀ (as : List Addr), (p.muts as).m.length = p.m.length + as.length
  | [] => rfl
  | a :: r => by
    show ((p.muts r).m ++ [a]).length = _
    rw [List.length_append, muts_len r]
    rfl
theorem muts_mem {b : Addr} : ∀ {as : List Addr}, b ∈ (p.muts as).m → b ∈ p.m ∨ b ∈ as
  | [], h => .inl h
  | a :: r, h => by
    rcases List.mem_append.mp (show b ∈ (p.muts r).m ++ [a] from h) with h | h
    · exact (muts_mem h).elim .inl fun z => .inr (List.mem_cons_of_mem _ z)
    · exact .inr (by rw [List.mem_singleton.mp h]; exact List.mem_cons_self)
theorem sub_muts : ∀ {as : List Addr}, Sub (hide (p.muts as) H) (hide p H)
  | [] => sub_refl _
  | a :: r => Sub.trans sub_mut (sub_muts (as := r))
theorem at_muts {i : Nat} {b : Addr} (l : i < p.m.length) : ∀ {as : List Addr}, (p.muts as).m[i]? = some b → p.m[i]? = some b
  | [], h => h
  | a :: r, h => at_muts l (as := r) (at_mut (by rw [muts_len]; omega) h)
theorem PoolAt.outs : ∀ {as : List Addr} {c : PC}, PoolAt K (p.muts as) H c → PoolAt K p H (c.take p.m.length)
  | [], c, h => by
    have e : c.length ≤ p.m.length := Nat.le_of_eq h.1.2.1.symm
    rw [List.take_of_length_le e]
    exact h
  | a :: r, c, h => by
    have q := PoolAt.outs (as := r) (PoolAt.out (p := p.muts r) h)
    rw [List.take_take, Nat.min_eq_left (by rw [muts_len]; omega)] at q
    exact q
theorem sub_alsos {b : Addr} : ∀ {as : List Addr}, Sub (hide ((p.muts as).also b) H) (hide (p.also b) H)
  | [] => sub_refl _
  | a :: r => Sub.trans (sub_also_mut (p := p.muts r)) (sub_alsos (as := r))
theorem also_outs {b : Addr} : ∀ {as : List Addr} {c : PC}, PoolAt K ((p.muts as).also b) H c → PoolAt K (p.also b) H (c.take p.m.length)
  | [], c, h => by
    have e : c.length ≤ p.m.length := Nat.le_of_eq h.1.2.1.symm
    rw [List.take_of_length_le e]
    exact h
  | a :: r, c, h => by
    have q := also_outs (as := r) (also_out (p := p.muts r) h)
    rw [List.take_take, Nat.min_eq_left (by rw [muts_len]; omega)] at q
    exact q
theorem New.outs {v : V} {d : D} {n : Nat} {as : List Addr} (hn : p.m.length = n) (l : lowD n d = true) (h : New K (p.muts as) H H1 c v d) : New K p H H1 (c.take n) v d := fun b e => by
  obtain ⟨⟨h1, h2⟩, h3, h4⟩ := h b e
  subst hn
  refine ⟨⟨h1, fun z => h2 ?_⟩, also_outs h3, fun g ds e' => ?_⟩
  · have key : ∀ (as : List Addr), b ∈ (p.muts as).m := fun as => by
      induction as with
      | nil => exact z
      | cons a r ih => exact List.mem_append.mpr (.inl ih)
    exact key as
  · obtain ⟨vs, q1, q2⟩ := h4 g ds e'
    subst e'
    unfold lowD at l
    exact ⟨vs, q1, q2.low (n := p.m.length) sub_alsos (fun i b li hi => at_muts (p := p) li hi) l⟩
end
section
variable {X : Cx} {W : WX} {p : HD} {as : List Addr} {ρ ρ1 ρ' : Rho} {c c1 c2 c3 : PC} {e : Expr} {st : Stmt} {sts rest : List Stmt} {pos pos' : Pos} {g : G} {ds ds2 : List D} {so so' : SO} {d : D}
/-- within, with what is wanted without -/
def tSo (K : PySem.W.Frag) (W : WX) (p : HD) (as : List Addr) (ρ : Rho) (c : PC) (so : SO) : TS := fun De σ H => ∃ (H0 : Hp) (σ0 : L2.St) (ρ0 : Rho) (c0 : PC), (∀ a ∈ as, H0 a = none ∧ a ∉ p.m) ∧ Ext p H0 H ∧ tSt K W p ρ0 c0 so De σ0 H0 ∧ ρ.length = ρ0.length ∧ SR K (p.muts as) H σ ρ c
abbrev RSo (X : Cx) (W : WX) (p : HD) (as : List Addr) (ρ : Rho) (c : PC) (sts : List Stmt) (so : SO) : Prop := PSs X sts (tSo X.K W p as ρ c so)
theorem ext_muts {H0 H H1 : Hp} (na : ∀ a ∈ as, H0 a = none ∧ a ∉ p.m) (e1 : Ext p H0 H) (e2 : Ext (p.muts as) H H1) : Ext p H0 H1 := fun b o n q => by
  refine e2 b o (fun z => ?_) (e1 b o n q)
  rcases muts_mem z with z | z
  · exact n z
  · rw [(na b z).1] at q
    cases q
theorem tSo_st {K : PySem.W.Frag} {De : Ends} {σ : L2.St} {H : Hp} (ho : Outs p.m.length so' so) (h : tSo K W p as ρ c so De σ H) : tSt K W (p.muts as) ρ c so' De σ H := by
  obtain ⟨H0, σ0, ρ0, c0, na, e1, h, hl, s⟩ := h
  cases ho with
  | nx hl' hc =>
    subst hc
    exact ⟨s, fun σ' H2 e2 s2 => h.2 σ' H2 (ext_muts na e1 e2) ⟨s2.len, fun i d q => by
      obtain ⟨v, h1, h2⟩ := s2.at' i d q
      exact ⟨v, h1, h2.low sub_muts (fun i b li hi => at_muts li hi) (hl'.get i d q)⟩, s2.pl.outs⟩⟩
  | rt hl' hc =>
    subst hc
    exact ⟨s, fun v H2 e2 p2 dv hw => h.2 v H2 (ext_muts na e1 e2) p2.outs (dv.low sub_muts (fun i b li hi => at_muts li hi) hl') fun q => New.back e1 (New.outs rfl hl' (hw q))⟩
  | ex hl' hc =>
    subst hc
    refine ⟨s, fun ρ2 dx fv σ2 H2 e2 s2 l2 hx hf => ?_⟩
    refine h.2 (List.replicate ρ2.length none) dx fv σ2 H2 (ext_muts na e1 e2) ⟨by rw [List.length_replicate]; exact s2.len, fun i d q => ?_, s2.pl.outs⟩ (by rw [List.length_replicate, l2, hl]) (sub_muts dx _ hx) (hf.low (n := p.m.length) sub_muts (fun i b li hi => at_muts li hi) hl')
    rw [List.getElem?_replicate] at q
    split at q <;> cases q
theorem rso_of (h : RSo X W p [] ρ c sts so) : RSs X W p ρ c sts so := pss_imp h fun De σ H q => ⟨H, σ, ρ, c, (fun _ m => nomatch m), Ext.refl _ _, q, rfl, st_sr q⟩
theorem rso_in (h : RSs X W p ρ c sts so) : RSo X W p [] ρ c sts so := pss_imp h fun De σ H ⟨H0, σ0, ρ0, c0, na, e1, q, hl, s⟩ => by
  cases so with
  | nx ρ' c' => exact ⟨s, fun σ2 H2 e2 s2 => q.2 σ2 H2 (e1.trans e2) s2⟩
  | rt d nw c' => exact ⟨s, fun v H2 e2 p2 dv hn => q.2 v H2 (e1.trans e2) p2 dv fun z => (hn z).back e1⟩
  | ex C fs c' => exact ⟨s, fun ρ' dx fv σ2 H2 e2 s2 hl' hx hf => q.2 ρ' dx fv σ2 H2 (e1.trans e2) s2 (hl'.trans hl) hx hf⟩
/-- the rest within, to its end; c0 of them stand without -/
theorem rso_end (n : Nat) (h : RSs X W (p.muts as) ρ c sts so') (ho : Outs n so' so) (hn : n + as.length = c.length) : RSo X W p as ρ c sts so := pss_imp h fun De σ H q => by
  have e : p.m.length = n := by
    obtain ⟨H0, σ0, ρ0, c0, na, e1, h, hl, s⟩ := q
    have := s.pl.1.2.1
    rw [muts_len] at this
    omega
  exact tSo_st (by rw [e]; exact ho) q
theorem rso_cons (h1 : RS X W (p.muts as) ρ c st (.nx ρ1 c1)) (h2 : RSo X W p as ρ1 c1 rest so) (hl : ρ1.length = ρ.length := by rfl) : RSo X W p as ρ c (st :: rest) so := by
  refine pss_imp (pss_cons h1 h2) fun De σ H ⟨H0, σ0, ρ0, c0, na, e1, h, hl', s⟩ => ⟨s, fun σ1 H1 e2 s1 => ⟨H0, σ0, ρ0, c0, na, ext_muts na e1 e2, h, hl.trans hl', s1⟩⟩
/-- the frame once a new list has been put out of sight -/
theorem SR.in' {a : Addr} {σ : L2.St} {H H1 : Hp} {K : PySem.W.Frag} {i : Nat} (s : SR K p H σ ρ c) (na : H a = none) (nm : a ∉ p.m) (e1 : Ext p H H1) (pa : PoolAt K (p.also a) H1 c1) {vs : List V} (hv : H1 a = some (.lst vs)) (dvs : DVs K (p.also a) H1 vs ds) (hds : lowDs 0 ds = true) :
    SR K (p.mut a) H1 (σ.set i (some (.ref a))) (ρ.set i (some (.mut c1.length))) (c1 ++ [.lst ds]) := by
  have hl : p.m.length = c1.length := pa.1.2.1
  have p1 : PoolAt K (p.mut a) H1 (c1 ++ [.lst ds]) := pa.in' nm ⟨vs, hv, dvs.low (n := 0) (fun b o y => by rw [hide_flat]; exact also_mut b o y) (fun i b li _ => absurd li (Nat.not_lt_zero _)) hds⟩
  refine SR.set ⟨s.len, fun j d q => ?_, p1⟩ i (.mut ?_)
  · obtain ⟨x, q1, q2⟩ := s.at' j d q
    exact ⟨x, q1, q2.sub (sub_new na e1) fun i b hi => mut_at hi⟩
  · show (p.m ++ [a])[c1.length]? = some a
    rw [← hl, List.getElem?_append_right (Nat.le_refl _)]
    simp
/-- a name becomes a new object -/
def tN (K : PySem.W.Frag) (p : HD) (ρ : Rho) (c : PC) (i : Nat) (d : D) (c1 : PC) : TS := fun De σ H => SR K p H σ ρ c ∧ ∀ v H', Ext p H H' → PoolAt K p H' c1 → DV K p H' v d → New K p H H' c1 v d → De.nx (σ.set i (some v)) H'
abbrev RN (X : Cx) (p : HD) (ρ : Rho) (c : PC) (st : Stmt) (i : Nat) (d : D) (c1 : PC) : Prop := PS X st (tN X.K p ρ c i d c1)
theorem rn_set (i : Nat) {x : Str} (hN : X.N.Nodup) (h : RE X W p ρ c e (.val d true c1))
    (hi : X.N[i]? = some x := by rfl) (hx : Loc X.env.scope x := by first | exact Or.inl rfl | exact Or.inr rfl) (hs : swapsWith e (some (.Name x pos')) pos.line X.env = pure false := by rfl)
    (hf : X.fn x = true ∨ X.env.scope.names.lookup x = some .local := by first | exact .inl rfl | exact .inr rfl) : RN X p ρ c (.Assign [.Name x pos'] e pos) i d c1 :=
  ps_imp (ps_set hN hi hx h hs hf) fun De σ H ⟨s, k⟩ => ⟨s, fun v H1 e1 p1 dv hn => k v H1 e1 p1 dv (hn rfl)⟩
/-- x = a new list, out of sight from then on -/
theorem rso_new (i : Nat) (h : RN X (p.muts as) ρ c st i (.lst g ds) c1) (hds : lowDs 0 ds = true)
    (hr : ∀ a, RSo X W p (a :: as) (ρ.set i (some (.mut c1.length))) (c1 ++ [.lst ds]) rest so) : RSo X W p as ρ c (st :: rest) so := by
  have PU : PSs X rest (fun De σ H => ∃ a, tSo X.K W p (a :: as) (ρ.set i (some (.mut c1.length))) (c1 ++ [.lst ds]) so De σ H) := ⟨fun pins s σ H De I ⟨a, h2⟩ => (hr a).run pins s σ H De I h2⟩
  refine pss_imp (pss_cons h PU) fun De σ H ⟨H0, σ0, ρ0, c0, na, e1, q, hl, s⟩ => ⟨s, fun v H1 e2 p1 dv hn => ?_⟩
  cases dv with
  | @lst a vs _ _ hb hq r =>
    obtain ⟨⟨nA, nm⟩, pa, hc⟩ := hn a rfl
    obtain ⟨vs', hv, dvs⟩ := hc _ _ rfl
    have n0 : H0 a = none ∧ a ∉ p.m := by
      have nmp : a ∉ p.m := fun z => nm (by
        have key : ∀ (as : List Addr), a ∈ (p.muts as).m := fun as => by
          induction as with
          | nil => exact z
          | cons b r ih => exact List.mem_append.mpr (.inl ih)
        exact key as)
      refine ⟨?_, nmp⟩
      cases q0 : H0 a with
      | none => rfl
      | some o =>
        rw [e1 a o nmp q0] at nA
        cases nA
    exact ⟨a, H0, σ0, ρ0, c0, fun b m => (List.mem_cons.mp m).elim (fun z => by rw [z]; exact n0) (na b), ext_muts na e1 e2, q, by rw [List.length_set]; exact hl, s.in' nA nm e2 pa hv dvs hds⟩
/-- it comes into sight again -/
theorem rso_frz (i : Nat) {a : Addr} (h : RSo X W p as (ρ.set i (some (.lst ⟨false, true⟩ ds))) c rest so) (hi : ρ[i]? = some (some (.mut c.length))) (hlow : LowR c.length (ρ.set i none)) : RSo X W p (a :: as) ρ (c ++ [.lst ds]) rest so := by
  refine pss_imp h fun De σ H ⟨H0, σ0, ρ0, c0, na, e1, q, hl, s⟩ => ⟨H0, σ0, ρ0, c0, fun b m => na b (List.mem_cons_of_mem _ m), e1, q, by rw [List.length_set]; exact hl, ?_⟩
  have hn : (p.muts as).m.length = c.length := by
    have := s.pl.1.2.1
    rw [List.length_append] at this
    have e : ((p.muts as).m ++ [a]).length = c.length + 1 := this
    rw [List.length_append] at e
    exact Nat.succ.inj e
  have hnm : (p.muts as).m.length = c.length := hn
  have po : PoolAt X.K (p.muts as) H c := by
    have z := PoolAt.out (p := p.muts as) s.pl
    rw [hn, List.take_left'] at z
    · exact z
    · rfl
  have ha : ((p.muts as).m ++ [a])[c.length]? = some a := by
    rw [← hn, List.getElem?_append_right (Nat.le_refl _)]
    simp
  have nda : a ∉ (p.muts as).m := fun z => by
    have nd : ((p.muts as).m ++ [a]).Nodup := s.pl.1.1
    exact (List.nodup_append.mp nd).2.2 a z a (List.mem_singleton.mpr rfl) rfl
  obtain ⟨vs, hv, dvs⟩ : CellAt X.K ((p.muts as).mut a) H a (.lst ds) := s.pl.1.2.2 c.length a (.lst ds) ha (by simp)
  have vis : hide (p.muts as) H a = some (.lst vs) := by
    rw [hide_ne]
    · exact hv
    · rintro (z | z)
      · exact nda z
      · have zz : ∀ (as : List Addr), (p.muts as).z = p.z := fun as => by
          induction as with
          | nil => rfl
          | cons b r ih => exact ih
        rw [zz as] at z
        obtain ⟨o, ho⟩ := (st_sr q).pl.2 a z
        rw [(na a List.mem_cons_self).1] at ho
        cases ho
  refine ⟨?_, fun j d q => ?_, po⟩
  · rw [List.length_set]
    exact s.len
  · by_cases e : i = j
    · subst e
      have lt : i < ρ.length := (List.getElem?_eq_some_iff.mp hi).1
      rw [List.getElem?_set_self lt] at q
      cases q
      obtain ⟨v, h1, h2⟩ := s.at' i _ hi
      refine ⟨v, h1, ?_⟩
      generalize hm : D.mut c.length = dm at h2
      cases h2 <;> cases hm
      rename_i b hb
      have eb : b = a := by
        have hb' : ((p.muts as).m ++ [a])[c.length]? = some b := hb
        rw [ha] at hb'
        exact (Option.some.inj hb').symm
      subst eb
      exact .lst ⟨(fun z => nomatch z), fun _ => vis⟩ (.inl (.inl vis)) (dvs.sub (fun b o y => by rw [hide_flat] at y; exact sub_mut b o y) fun i b z => by simp [HD.flat] at z)
    · have q' := q
      rw [List.getElem?_set_ne e] at q
      obtain ⟨v, h1, h2⟩ := s.at' j d q
      exact ⟨v, h1, h2.low (n := c.length) sub_mut (fun i b li hi => at_mut (by rw [hn]; exact li) hi) (hlow.get j d (by rw [List.getElem?_set_ne e]; exact q))⟩
/-- it is forgotten -/
theorem rso_drop {a : Addr} {x : Cell} (h : RSo X W p as ρ' c rest so) (hw : ∀ (i : Nat) (d : D), ρ'[i]? = some (some d) → ρ[i]? = some (some d)) (hl' : ρ'.length = ρ.length) (hlow : LowR c.length ρ') : RSo X W p (a :: as) ρ (c ++ [x]) rest so := by
  refine pss_imp h fun De σ H ⟨H0, σ0, ρ0, c0, na, e1, q, hl, s⟩ => ⟨H0, σ0, ρ0, c0, fun b m => na b (List.mem_cons_of_mem _ m), e1, q, by rw [hl']; exact hl, ?_⟩
  have hn : (p.muts as).m.length = c.length := by
    have := s.pl.1.2.1
    rw [List.length_append] at this
    have e : ((p.muts as).m ++ [a]).length = c.length + 1 := this
    rw [List.length_append] at e
    exact Nat.succ.inj e
  have po : PoolAt X.K (p.muts as) H c := by
    have z := PoolAt.out (p := p.muts as) s.pl
    rw [hn, List.take_left'] at z
    · exact z
    · rfl
  refine ⟨by rw [hl']; exact s.len, fun j d q => ?_, po⟩
  obtain ⟨v, h1, h2⟩ := s.at' j d (hw j d q)
  exact ⟨v, h1, h2.low (n := c.length) sub_mut (fun i b li hi => at_mut (by rw [hn]; exact li) hi) (hlow.get j d q)⟩
end
end LA

namespace LA
open PySem PySem.Spec PyProof.Rows L2
section
variable {X : Cx} {W : WX} {p : HD} {ρ : Rho} {c c1 c2 : PC} {e ei : Expr} {pos xp jp sp apos cpos : Pos} {d : D} {nw nw2 : Bool} {K : PySem.W.Frag} {x : Str} {k : Nat} {ds : List D}
/-! ### changing lists read and written -/
theorem DV.unflat {H : Hp} {v : V} {d : D} (h : DV K p.flat H v d) : DV K p H v d := h.sub (fun b o y => by rw [hide_flat] at y; exact y) fun i b z => by simp [HD.flat] at z
theorem DVs.unflat {H : Hp} {v : List V} {d : List D} (h : DVs K p.flat H v d) : DVs K p H v d := h.sub (fun b o y => by rw [hide_flat] at y; exact y) fun i b z => by simp [HD.flat] at z
theorem DV.flat {H : Hp} {v : V} {d : D} (h : DV K p H v d) (l : lowD 0 d = true) : DV K p.flat H v d := h.low (fun b o y => by rw [hide_flat]; exact y) (fun i b li _ => absurd li (Nat.not_lt_zero _)) l
theorem DVs.flat {H : Hp} {v : List V} {d : List D} (h : DVs K p H v d) (l : lowDs 0 d = true) : DVs K p.flat H v d := h.low (fun b o y => by rw [hide_flat]; exact y) (fun i b li _ => absurd li (Nat.not_lt_zero _)) l
theorem mut_lst {H : Hp} {v : V} (h : DV K p H v (.mut k)) (hp : PoolAt K p H c) (hc : c[k]? = some (.lst ds)) : ∃ a vs, v = .ref a ∧ p.m[k]? = some a ∧ H a = some (.lst vs) ∧ DVs K p.flat H vs ds := by
  cases h with
  | «mut» ha =>
    obtain ⟨vs, h1, h2⟩ := hp.1.2.2 k _ _ ha hc
    exact ⟨_, vs, rfl, ha, h1, h2⟩
theorem DVs.set {q : HD} {H : Hp} {v : V} {d : D} (h : DV K q H v d) : ∀ {us : List V} {ds : List D} {j : Nat}, DVs K q H us ds → DVs K q H (us.set j v) (ds.set j d)
  | _, _, _, .nil => .nil
  | _, _, 0, .cons _ r => .cons h r
  | _, _, j + 1, .cons h' r => .cons h' (DVs.set h (j := j) r)
theorem ov_ixM {i : Int} {j : Nat} (hc : c[k]? = some (.lst ds)) (e : i = (j : Int)) (h : ds[j]? = some d) : OV K p (rIx K) (.mut k) (.int i) d false c := fun v u H Q dv du hp kk => by
  obtain ⟨a, vs, rfl, _, hv, dvs⟩ := mut_lst dv hp hc
  cases du
  obtain ⟨w, h1, h2⟩ := dvs_atI dvs e h
  exact .inl ⟨_, vs, _, w, rfl, rfl, .inl (.inl hv), h1, kk w H (Ext.refl p H) hp h2.unflat fun q => nomatch q⟩
/-- x[j], written -/
theorem re_mix (i k j : Nat) {n : Nat} (hc : c[k]? = some (.lst ds)) (h : ds[j]? = some d) (hρ : ρ[i]? = some (some (.mut k)) := by rfl) (hN : X.N[i]? = some x := by rfl) (hv : Vis X.env.scope x := by first | exact Or.inl rfl | exact Or.inr (Or.inl rfl) | exact Or.inr (Or.inr rfl))
    (hd : (x == ("__debug__" : Str)) = false := by decide) (hcd : (x == ("__classdict__" : Str)) = false := by decide) : RE X W p ρ c (.Subscript (.Name x xp) (.Constant (.int (j : Nat)) n jp) sp) (.val d false c) :=
  re_ix ix_seq (re_var i hN hρ hv hd hcd) re_int (ov_ixM hc rfl h)
theorem ext_upd {H : Hp} {a : Addr} {o : HO} (m : a ∈ p.m) : Ext p H (upd H a o) := fun b u n y => by
  rw [upd_ne (fun z => n (by rw [z]; exact m))]
  exact y
theorem upd_msub {H : Hp} {a : Addr} {o : HO} (m : a ∈ p.m) : Sub (hide p H) (hide p (upd H a o)) := (ext_upd m).hide
/-- x[idx] = e -/
theorem rs_mst (i k j : Nat) (he : RE X W p ρ c e (.val d nw c1)) (hi : RE X W p ρ c1 ei (.val (.int (j : Nat)) nw2 c2)) (hc : c2[k]? = some (.lst ds)) (hj : j < ds.length) (hl : lowD 0 d = true) (hρ : ρ[i]? = some (some (.mut k)) := by rfl) (hN : X.N[i]? = some x := by rfl) (hv : Vis X.env.scope x := by first | exact Or.inl rfl | exact Or.inr (Or.inl rfl) | exact Or.inr (Or.inr rfl))
    (hd : (x == ("__debug__" : Str)) = false := by decide) (hcd : (x == ("__classdict__" : Str)) = false := by decide)
    (hs : swapsWithSole [.Subscript (.Name x xp) ei sp] e pos.line X.env = pure false := by rfl) (hw : swappedStores [.Subscript (.Name x xp) ei sp] e X.env = pure none := by rfl)
    (h1 : (assignEach [.Subscript (.Name x xp) ei sp] X.env).map (·.2) = [assign (.Subscript (.Name x xp) ei sp) X.env] := by rfl)
    (ha : ∀ v, assign (.Subscript (.Name x xp) ei sp) X.env v = (do
      let ov ← holding [v] (eval (.Name x xp) X.env)
      let iv ← holding [v, ov] (eval ei X.env)
      standAt sp
      holding [v, ov, iv] (setItem ov iv v)
      release [v, ov, iv] []) := by intro _; rfl) :
    RS X W p ρ c (.Assign [.Subscript (.Name x xp) ei sp] e pos) (.nx ρ (c2.set k (.lst (ds.set j d)))) :=
  ps_imp (ps_asg he (pg_sub (pe_var hN hv hd hcd) hi set_list ha) hs hw h1) fun De σ H h => ⟨h.1, fun v H1 e1 p1 dv _ => by
    have s1 := h.1.mono e1 p1
    obtain ⟨o, q1, q2⟩ := s1.at' i _ hρ
    refine ⟨o, q1, s1, fun w H2 e2 p2 dw _ => ?_⟩
    cases dw
    obtain ⟨a, vs, rfl, ha, hv', dvs⟩ := mut_lst (q2.mono e2) p2 hc
    have m : a ∈ p.m := List.mem_of_getElem? ha
    refine ⟨a, vs, (j : Nat), j, rfl, rfl, hv', ?_, ?_⟩
    · unfold ixN
      have : j < vs.length := by rw [dvs.length]; exact hj
      simp [this]
    · refine h.2 σ _ ((e1.trans e2).trans (ext_upd m)) ((s1.mono e2 p2).mono (ext_upd m) (p2.put ha ⟨_, upd_same, ?_⟩))
      have sb : Sub (hide p.flat H2) (hide p.flat (upd H2 a (.lst (vs.set j v)))) := by
        rw [hide_flat, hide_flat]
        exact upd_msub m
      exact DVs.set (((dv.mono e2).flat hl).sub sb fun _ _ z => z) (dvs.sub sb fun _ _ z => z)⟩
theorem re_old (h : RE X W p ρ c e (.val d nw c1)) : RE X W p ρ c e (.val d false c1) := pe_imp h fun σ H Q ⟨s, k⟩ => ⟨s, fun v H1 e1 p1 dv _ => k v H1 e1 p1 dv fun z => nomatch z⟩
/-! ### len of a list -/
theorem cv_lenL {g : G} {ds : List D} : CV K p (fun xs H Q => ∃ x n, xs = [x] ∧ LenV K x H n ∧ Q (.int n) H) [.lst g ds] (.int (ds.length : Nat)) true c := fun vs H Q dvs hp k => by
  cases dvs with
  | cons h r =>
    cases r
    cases h with
    | lst _ hq ha =>
      refine ⟨_, ds.length, rfl, .inl ⟨_, un_sqL hq, ha.length.symm⟩, k _ H (Ext.refl p H) hp (.int _) fun _ => New.sc (by intro a h; cases h)⟩
theorem cv_lenM (hc : c[k]? = some (.lst ds)) : CV K p (fun xs H Q => ∃ x n, xs = [x] ∧ LenV K x H n ∧ Q (.int n) H) [.mut k] (.int (ds.length : Nat)) true c := fun vs H Q dvs hp kk => by
  cases dvs with
  | cons h r =>
    cases r
    obtain ⟨a, us, rfl, _, hv, du⟩ := mut_lst h hp hc
    exact ⟨_, ds.length, rfl, .inl ⟨_, .inl (.inl hv), du.length.symm⟩, kk _ H (Ext.refl p H) hp (.int _) fun _ => New.sc (by intro a h; cases h)⟩
/-- x.append(e) -/
theorem rs_app (i k : Nat) (he : RE X W p ρ c e (.val d nw c1)) (hc0 : ∃ ds0, c[k]? = some (.lst ds0)) (hc : c1[k]? = some (.lst ds)) (hz : ds.length < 100000) (hl : lowD 0 d = true) (hρ : ρ[i]? = some (some (.mut k)) := by rfl) (hN : X.N[i]? = some x := by rfl) (hv : Vis X.env.scope x := by first | exact Or.inl rfl | exact Or.inr (Or.inl rfl) | exact Or.inr (Or.inr rfl))
    (hd : (x == ("__debug__" : Str)) = false := by decide) (hcd : (x == ("__classdict__" : Str)) = false := by decide) (hline : (apos.endLine == cpos.line) = true := by rfl) (hsw : swapsWith (.Call (.Attribute (.Name x xp) "append" apos) [e] [] cpos) none pos.line X.env = pure false := by rfl)
    (hbase : attributeBase (.Name x xp) "append" X.env (eval (.Name x xp) X.env) = eval (.Name x xp) X.env := by rfl) (hst : starEach [e] X.env = (false, eval e X.env) :: starEach [] X.env := by rfl)
    (hfew : ((backTo cpos (starEach [e] X.env)).all (fun x => !x.1) && (backToKw cpos (keywordEach [] X.env)).all (fun x => x.1.isSome)
      && decide (([e] : List Expr).length + ([] : List Keyword).length + (if ([] : List Keyword).isEmpty then 0 else 1) < 30)) = true := by rfl) :
    RS X W p ρ c (.Expr (.Call (.Attribute (.Name x xp) "append" apos) [e] [] cpos) pos) (.nx ρ (c1.set k (.lst (ds ++ [d])))) := by
  have PB := pe_bm (cpos := cpos) (apos := apos) PySem.F.plainAttrs_list PySem.F.slot_list_append PySem.F.type_list_append mt_append (pe_var (pos := xp) hN hv hd hcd) (pa_cons he (pa_nil (X := X)) hst) hbase hfew hline hst
  refine ps_imp (ps_expr PB hsw) fun De σ H h => ?_
  obtain ⟨o, q1, q2⟩ := h.1.at' i _ hρ
  obtain ⟨ds0, hc0⟩ := hc0
  obtain ⟨a, vs0, rfl, ha, hv0, _⟩ := mut_lst q2 h.1.pl hc0
  have m : a ∈ p.m := List.mem_of_getElem? ha
  refine ⟨_, q1, .inl ⟨rfl, _, .inl (.inl hv0)⟩, h.1, fun v H1 e1 p1 dv _ => ?_⟩
  obtain ⟨b, vs, eb, hb, hv1, dvs⟩ := mut_lst (q2.mono e1) p1 hc
  cases eb
  refine ⟨a, vs, v, rfl, rfl, hv1, by rw [dvs.length]; exact sz_lt hz, ?_⟩
  have sb : Sub (hide p.flat H1) (hide p.flat (upd H1 a (.lst (vs ++ [v])))) := by
    rw [hide_flat, hide_flat]
    exact upd_msub m
  exact h.2 σ _ (e1.trans (ext_upd m)) ((h.1.mono e1 p1).mono (ext_upd m) (p1.put ha ⟨_, upd_same, DVs.app (dvs.sub sb fun _ _ z => z) (.cons ((dv.flat hl).sub sb fun _ _ z => z) .nil)⟩))
theorem dvs_erase {q : HD} {H : Hp} : ∀ {us : List V} {es : List D} (j : Nat), DVs K q H us es → DVs K q H (us.eraseIdx j) (es.eraseIdx j)
  | _, _, _, .nil => .nil
  | _, _, 0, .cons _ r => r
  | _, _, j + 1, .cons h r => .cons h (dvs_erase j r)
/-- x.pop(e) -/
theorem re_pop (i k j : Nat) (he : RE X W p ρ c e (.val (.int (j : Nat)) nw c1)) (hc0 : ∃ ds0, c[k]? = some (.lst ds0)) (hc : c1[k]? = some (.lst ds)) (hj : ds[j]? = some d) (hz : ds.length < 100000) (hρ : ρ[i]? = some (some (.mut k)) := by rfl) (hN : X.N[i]? = some x := by rfl) (hv : Vis X.env.scope x := by first | exact Or.inl rfl | exact Or.inr (Or.inl rfl) | exact Or.inr (Or.inr rfl))
    (hd : (x == ("__debug__" : Str)) = false := by decide) (hcd : (x == ("__classdict__" : Str)) = false := by decide) (hline : (apos.endLine == cpos.line) = true := by rfl)
    (hbase : attributeBase (.Name x xp) "pop" X.env (eval (.Name x xp) X.env) = eval (.Name x xp) X.env := by rfl) (hst : starEach [e] X.env = (false, eval e X.env) :: starEach [] X.env := by rfl)
    (hfew : ((backTo cpos (starEach [e] X.env)).all (fun x => !x.1) && (backToKw cpos (keywordEach [] X.env)).all (fun x => x.1.isSome)
      && decide (([e] : List Expr).length + ([] : List Keyword).length + (if ([] : List Keyword).isEmpty then 0 else 1) < 30)) = true := by rfl) :
    RE X W p ρ c (.Call (.Attribute (.Name x xp) "pop" apos) [e] [] cpos) (.val d false (c1.set k (.lst (ds.eraseIdx j)))) := by
  have PB := pe_bm (cpos := cpos) (apos := apos) PySem.F.plainAttrs_list PySem.F.slot_list_pop PySem.F.type_list_pop mt_popAt (pe_var (pos := xp) hN hv hd hcd) (pa_cons he (pa_nil (X := X)) hst) hbase hfew hline hst
  refine pe_imp PB fun σ H Q h => ?_
  obtain ⟨o, q1, q2⟩ := h.1.at' i _ hρ
  obtain ⟨ds0, hc0⟩ := hc0
  obtain ⟨a, vs0, rfl, ha, hv0, _⟩ := mut_lst q2 h.1.pl hc0
  have m : a ∈ p.m := List.mem_of_getElem? ha
  refine ⟨_, q1, .inl ⟨rfl, _, .inl (.inl hv0)⟩, h.1, fun v H1 e1 p1 dv _ => ?_⟩
  cases dv
  obtain ⟨b, vs, eb, hb, hv1, dvs⟩ := mut_lst (q2.mono e1) p1 hc
  cases eb
  obtain ⟨w, hw, dw⟩ := dvs.get hj
  have lj : j < ds.length := (List.getElem?_eq_some_iff.mp hj).1
  refine ⟨a, vs, (j : Nat), j, w, rfl, rfl, hv1, by omega, by omega, ?_, hw, ?_⟩
  · unfold seqIndex?
    have : j < vs.length := by rw [dvs.length]; exact lj
    simp [this]
    try omega
  · have sb : Sub (hide p.flat H1) (hide p.flat (upd H1 a (.lst (vs.eraseIdx j)))) := by
      rw [hide_flat, hide_flat]
      exact upd_msub m
    exact h.2 w _ (e1.trans (ext_upd m)) (p1.put ha ⟨_, upd_same, (dvs_erase j dvs).sub sb fun _ _ z => z⟩) (dw.sub sb fun _ _ z => z).unflat fun q => nomatch q
end
end LA

namespace LA
open PySem PySem.Spec PyProof.Rows L2
/-! ### texts by their signs -/
def tx (l : List Nat) : Str := ⟨l.toArray⟩
theorem tx_list (l : List Nat) : (tx l).cps.toList = l := by unfold tx; simp
theorem tx_len (l : List Nat) : (tx l).length = l.length := by
  show (tx l).cps.size = _
  unfold tx
  simp
theorem str_tx (s : Str) : ∃ l, s = tx l := ⟨s.cps.toList, by unfold tx; simp⟩
def chr1 (n : Nat) : Str := ⟨#[n]⟩
theorem chars_tx (l : List Nat) : chars (tx l) = l.map fun n => D.str (chr1 n) := by
  unfold chars
  rw [tx_list]
  rfl
theorem tx_app (a b : List Nat) : tx a ++ tx b = tx (a ++ b) := by
  show (⟨(tx a).cps ++ (tx b).cps⟩ : Str) = _
  unfold tx
  simp
theorem tx_inj {a b : List Nat} (h : tx a = tx b) : a = b := by rw [← tx_list a, ← tx_list b, h]
theorem join_nil : ∀ l : List Nat, Txt.join (Str.ofString "") (l.map chr1) = tx l := by
  intro l
  unfold Txt.join
  rw [StrLaws.glued_eq_join]
  have e0 : (Str.ofString "") = tx [] := by decide
  rw [e0]
  induction l with
  | nil => rfl
  | cons a r ih =>
    cases r with
    | nil => rfl
    | cons b r =>
      show chr1 a ++ tx [] ++ Str.join (tx []) ((b :: r).map chr1) = _
      rw [ih]
      show tx [a] ++ tx [] ++ tx (b :: r) = _
      rw [tx_app, tx_app]
      rfl
theorem sum_sgn : ∀ l : List Nat, ((l.map chr1).map (·.length)).sum = l.length
  | [] => rfl
  | a :: r => by
    have := sum_sgn r
    simp only [List.map_cons, List.sum_cons, List.length_cons] at this ⊢
    rw [this]
    show 1 + r.length = _
    omega
/-! ### collected lists -/
theorem coll_all (y : Nat → D) : ∀ n, coll (fun _ => true) y n = (List.range n).map y
  | 0 => rfl
  | n + 1 => by
    show coll (fun _ => true) y n ++ (if true then [y n] else []) = _
    rw [coll_all y n, List.range_succ, List.map_append]
    rfl
theorem coll_some (b : Nat → Bool) (y : Nat → D) : ∀ n, coll b y n = ((List.range n).filter b).map y
  | 0 => rfl
  | n + 1 => by
    show coll b y n ++ (if b n then [y n] else []) = _
    rw [coll_some b y n, List.range_succ, List.filter_append, List.map_append]
    cases h : b n <;> simp [h]
section
variable {X : Cx} {W : WX} {p : HD} {ρ : Rho} {c c1 c2 c3 : PC} {e a : Expr} {pos : Pos} {d : D} {nw : Bool} {K : PySem.W.Frag}
/-- text * count -/
theorem op_mulS : OpR X (binaryOp .Mult) (fun x y H Q => ∃ z n, x = .str z ∧ y = .int n ∧ MulOk z n ∧ Q (.str (Txt.mul z n)) H) := by
  intro pins s σ H x y v u Q I rx ry h
  obtain ⟨z, n, rfl, rfl, hok, q⟩ := h
  obtain ⟨t, rfl⟩ := rx
  obtain ⟨t', rfl⟩ := ry
  exact SB.mul hok fun t2 k => ⟨.str _, H, I.tok _, ⟨_, rfl⟩, q⟩
theorem ov_mulS {z : Str} {n : Int} (h : MulOk z n) : OV K p (fun x y H Q => ∃ z n, x = .str z ∧ y = .int n ∧ MulOk z n ∧ Q (.str (Txt.mul z n)) H) (.str z) (.int n) (.str (Txt.mul z n)) true c := fun v u H Q dv du hp k => by
  cases dv
  cases du
  exact ⟨z, n, rfl, rfl, h, k _ H (Ext.refl p H) hp (.str _) fun _ => New.sc (by intro a h; cases h)⟩
theorem re_neg {i : Int} (ha : RE X W p ρ c a (.val (.int i) nw c1)) : RE X W p ρ c (.UnaryOp .USub a pos) (.val (.int (-i)) true c1) :=
  pe_imp (pe_un un_neg ha) fun σ H Q ⟨s, k⟩ => ⟨s, fun v H1 e1 p1 dv _ => by
    cases dv
    exact ⟨i, rfl, k _ H1 e1 p1 (.int _) fun _ => New.sc (by intro a h; cases h)⟩⟩
end
end LA
namespace LA
open PySem PySem.Spec PyProof.Rows L2
/-! ### equality of ints and of texts -/
section
variable {p : HD} {c : PC} {K : PySem.W.Frag}
theorem dec_v {α : Type} {a b : α} [DecidableEq α] {f : α → V} (hf : ∀ x y, f x = f y → x = y) : decide (f a = f b) = decide (a = b) := by
  by_cases h : a = b
  · subst h
    simp
  · rw [decide_eq_false h, decide_eq_false fun z => h (hf _ _ z)]
theorem ov_eqI {i j : Int} : OV K p rEq (.int i) (.int j) (.bl (decide (i = j))) true c := by
  have h := ov_eqS (K := K) (p := p) (c := c) (x := .int i) (y := .int j) rfl rfl rfl
  rw [dec_v (f := V.int) fun x y e => by cases e; rfl] at h
  exact h
theorem ov_eqIt {i j : Int} (h : i = j) : OV K p rEq (.int i) (.int j) (.bl true) true c := by
  have q := ov_eqI (K := K) (p := p) (c := c) (i := i) (j := j)
  rw [decide_eq_true h] at q
  exact q
theorem ov_eqIf {i j : Int} (h : ¬ i = j) : OV K p rEq (.int i) (.int j) (.bl false) true c := by
  have q := ov_eqI (K := K) (p := p) (c := c) (i := i) (j := j)
  rw [decide_eq_false h] at q
  exact q
theorem ov_neI {i j : Int} : OV K p rNe (.int i) (.int j) (.bl (!decide (i = j))) true c := by
  have h := ov_neS (K := K) (p := p) (c := c) (x := .int i) (y := .int j) rfl rfl rfl
  rw [dec_v (f := V.int) fun x y e => by cases e; rfl] at h
  exact h
theorem ov_eqT {i j : Str} : OV K p rEq (.str i) (.str j) (.bl (decide (i = j))) true c := by
  have h := ov_eqS (K := K) (p := p) (c := c) (x := .str i) (y := .str j) rfl rfl rfl
  rw [dec_v (f := V.str) fun x y e => by cases e; rfl] at h
  exact h
theorem ov_neT {i j : Str} : OV K p rNe (.str i) (.str j) (.bl (!decide (i = j))) true c := by
  have h := ov_neS (K := K) (p := p) (c := c) (x := .str i) (y := .str j) rfl rfl rfl
  rw [dec_v (f := V.str) fun x y e => by cases e; rfl] at h
  exact h
end
/-! ### defs that are called by their names -/
structure Def0 (P : Program) (w : World) (K : PySem.W.Frag) (mg : Str → Option Value) (base : Heap) (k : Nat) (x : Str) (ps : List Str) (R : FSpec) : Prop where
  ex : ∃ (f : Addr) (fd : FuncData), FnOk P w K mg base CX0 k f fd ps (spF K R) ∧ mg x = some (.ref f) ∧ PySem.W.keepIn K (.ref f) = true ∧ Binds K fd ps []
structure Def1 (P : Program) (w : World) (K : PySem.W.Frag) (mg : Str → Option Value) (base : Heap) (k : Nat) (x : Str) (ps : List Str) (R : FSpec) : Prop where
  ex : ∃ (f : Addr) (fd : FuncData), FnOk P w K mg base (L2.CX P w) k f fd ps (spF K R) ∧ mg x = some (.ref f) ∧ PySem.W.keepIn K (.ref f) = true ∧ Binds K fd ps []
section
variable {X : Cx} {W : WX} {p : HD} {ρ : Rho} {c c1 c2 : PC} {e : Expr} {es : List Expr} {pos xp : Pos} {d : D} {nw : Bool} {k : Nat} {x : Str} {ps : List Str} {R : FSpec} {ds : List D} {o : EO}
theorem re_c0 (T : Def0 X.prog X.w X.K X.mg X.base k x ps R) (hr : Room k X.A) (ha : RA X W p ρ c (e :: es) (.val ds c1)) (ho : R ds c1 (.val d nw c2))
    (hg : Gl X x := by rfl) (hdb : (x == ("__debug__" : Str)) = false := by decide) (he : starEach (e :: es) X.env = (false, eval e X.env) :: starEach es X.env := by rfl) (hpl : (backTo pos (starEach es X.env)).any (·.1) = false := by rfl) :
    RE X W p ρ c (.Call (.Name x xp) (e :: es) [] pos) (.val d nw c2) := by
  obtain ⟨f, fd, h1, h2, h3, h4⟩ := T.ex
  exact re_call h1 hr h2 h3 h4 ha ho hg hdb he hpl
theorem re_c1 (tk : Takes X W) (T : Def1 X.prog X.w X.K X.mg X.base k x ps R) (hr : Room k X.A) (ha : RA X W p ρ c (e :: es) (.val ds c1)) (ho : R ds c1 o)
    (hg : Gl X x := by rfl) (hdb : (x == ("__debug__" : Str)) = false := by decide) (he : starEach (e :: es) X.env = (false, eval e X.env) :: starEach es X.env := by rfl) (hpl : (backTo pos (starEach es X.env)).any (·.1) = false := by rfl) :
    RE X W p ρ c (.Call (.Name x xp) (e :: es) [] pos) o := by
  obtain ⟨f, fd, h1, h2, h3, h4⟩ := T.ex
  exact re_callX tk h1 hr h2 h3 h4 ha ho hg hdb he hpl
end
end LA
namespace LA
open PySem PySem.Spec PyProof.Rows L2
/-! ### comprehensions without a test; signs joined -/
section
variable {X : Cx} {W : WX} {p : HD} {ρ : Rho} {c c1 c2 : PC} {e o tg : Expr} {pos apos : Pos} {n1 n2 : Bool}
theorem re_joinC {g : G} {l : List Nat} (ho : RE X W p ρ c o (.val (.str (Str.ofString "")) n1 c1)) (he : RE X W p ρ c1 e (.val (.lst g (l.map fun n => D.str (chr1 n))) n2 c2)) (hl : l.length ≤ 1000)
    (hs : starEach [e] X.env = [(false, eval e X.env)] := by rfl) (hbase : attributeBase o "join" X.env (eval o X.env) = eval o X.env := by rfl) (hline : (apos.endLine == pos.line) = true := by rfl) :
    RE X W p ρ c (.Call (.Attribute o "join" apos) [e] [] pos) (.val (.str (tx l)) true c2) := by
  rw [← join_nil]
  refine re_join (g := g) (n2 := n2) (ss := l.map chr1) ho ?_ ?_ hs hbase hline
  · rw [List.map_map]
    exact he
  · rw [sum_sgn]
    show _ + _ * 0 ≤ _
    omega
theorem pts_all {q : HD} : PTs X [] (tT X.K W q ρ c (.val true c)) := ⟨fun pins s σ H Q I h => pts_nil.run pins s σ H Q I (h.2 H (Ext.refl _ _) h.1.pl)⟩
theorem re_lcA {elt iter : Expr} {scope : Scope} {own : List (Str × Nat)} {xs : List D} {g : TG} (y : Nat → D) (cs : Nat → PC) (ρt : Nat → Rho) (nws : Nat → Bool) (hc : X.calm = true) (hN : X.N.Nodup) (hi : RI X W p ρ c tg iter xs (cs 0)) (ok : BlkOk X.N X.env.scope scope own)
    (hg : ∀ (s : Shared) (H : Hp) (C : Addr) (cl : List (Str × Addr)) (fp : List Addr), PG (X.blk s H scope (compEnvC scope cl C X.env) fp) tg g)
    (htg : ∀ i d, xs[i]? = some d → TgOk X.K g (own.map (·.2)) d (wipeR ρ (own.map (·.2))) (ρt i))
    (he : ∀ i d, xs[i]? = some d → ∀ (q : HD) (s : Shared) (H : Hp) (C : Addr) (cl : List (Str × Addr)) (fp : List Addr), RE (X.blk s H scope (compEnvC scope cl C X.env) fp) Wf q (ρt i) (cs i) elt (.val (y i) (nws i) (cs (i + 1))))
    (hz : xs.length ≤ 100000)
    (hs : ∀ x, foldedSetIterable iter X.env x = pure x := by intro _; rfl) : RE X W p ρ c (.ListComp elt [⟨tg, iter, [], 0⟩] scope pos) (.val (.lst ⟨false, true⟩ ((List.range xs.length).map y)) true (cs xs.length)) := by
  rw [← coll_all]
  exact re_lc (fun _ => true) y cs cs ρt nws hc hN hi ok hg htg (fun i d h q s H C cl fp => pts_all) (fun i d h _ q s H C cl fp => he i d h q s H C cl fp) (fun i d h z => nomatch z) hz hs
end
theorem intsD_at {n i : Nat} {d : D} (h : (intsD n)[i]? = some d) : d = .int (i : Nat) ∧ i < n := by
  unfold intsD at h
  have hl := (List.getElem?_eq_some_iff.mp h).1
  rw [List.length_map, List.length_range] at hl
  rw [List.getElem?_map, List.getElem?_range hl] at h
  exact ⟨(Option.some.inj h).symm, hl⟩
theorem intsD_len (n : Nat) : (intsD n).length = n := by unfold intsD; rw [List.length_map, List.length_range]
theorem signs_at {l : List Nat} {i : Nat} {d : D} (h : (chars (tx l))[i]? = some d) : d = .str (chr1 (l.getD i 0)) ∧ i < l.length ∧ l[i]? = some (l.getD i 0) := by
  rw [chars_tx] at h
  have hl := (List.getElem?_eq_some_iff.mp h).1
  rw [List.length_map] at hl
  rw [List.getElem?_map, List.getElem?_eq_getElem hl] at h
  refine ⟨?_, hl, ?_⟩
  · rw [List.getD_eq_getElem?_getD, List.getElem?_eq_getElem hl]
    exact (Option.some.inj h).symm
  · rw [List.getD_eq_getElem?_getD, List.getElem?_eq_getElem hl]
    rfl
theorem signs_len (l : List Nat) : (chars (tx l)).length = l.length := by rw [chars_tx, List.length_map]
end LA
namespace LA
open PySem PySem.Spec PyProof.Rows L2
/-! ### a flat list against [] -/
def flatOk : D → Bool
  | .non => true
  | .bl _ => true
  | .int _ => true
  | .str x => PyData.strOk x
  | _ => false
section
variable {K : PySem.W.Frag} {p : HD} {H : Hp} {c : PC}
theorem dp_of {v : V} {d : D} (h : DV K p H v d) (e : flatOk d = true) : Dp K H v (toPy d) := by
  cases h <;> first | (cases e; done) | (unfold toPy; constructor)
theorem dps_of : ∀ {vs : List V} {ds : List D}, DVs K p H vs ds → ds.all flatOk = true → DpAll K H vs (toPys ds)
  | _, _, .nil, _ => by
    unfold toPys
    exact .nil
  | _, _, .cons h r, e => by
    rw [List.all_cons, Bool.and_eq_true_iff] at e
    unfold toPys
    exact .cons (dp_of h e.1) (dps_of r e.2)
theorem flat_lay : ∀ {ds : List D}, ds.all flatOk = true → PyData.canLayAll0 (toPys ds) = true ∧ PyData.depthAll (toPys ds) = 0
  | [], _ => ⟨by unfold toPys PyData.canLayAll0; rfl, by unfold toPys PyData.depthAll; rfl⟩
  | d :: r, e => by
    rw [List.all_cons, Bool.and_eq_true_iff] at e
    obtain ⟨h1, h2⟩ := flat_lay e.2
    unfold toPys PyData.canLayAll0 PyData.depthAll
    rw [h1, h2]
    have he := e.1
    cases d <;> first | (cases he; done) | (unfold toPy PyData.canLay0 PyData.depth; exact ⟨by first | rfl | (rw [Bool.and_true]; exact he), rfl⟩)
theorem shaped_flat {ds : List D} (e : ds.all flatOk = true) : SeqAt.shaped (.list (toPys ds)) = true := by
  obtain ⟨h1, h2⟩ := flat_lay e
  unfold SeqAt.shaped PyData.canLay0 PyData.depth
  rw [h1, h2]
  rfl
theorem eqv_nil (ds : List D) : PyData.eqv (.list (toPys ds)) (.list []) = ds.isEmpty := by
  cases ds with
  | nil => unfold toPys PyData.eqv PyData.eqvAll; rfl
  | cons d r => unfold toPys PyData.eqv PyData.eqvAll; rfl
theorem toPy_lst {g : G} {ds : List D} : toPy (.lst g ds) = .list (toPys ds) := by unfold toPy; rfl
theorem two_nil {v u : V} {g g2 : G} {ds : List D} (dv : DV K p H v (.lst g ds)) (du : DV K p H u (.lst g2 [])) (e : ds.all flatOk = true) : Dp K H v (.list (toPys ds)) ∧ Dp K H u (.list []) := by
  cases dv with
  | lst _ hq r =>
    cases du with
    | lst _ hq2 r2 =>
      cases r2
      exact ⟨.lst (un_sqL hq) (dps_of r e), .lst (un_sqL hq2) .nil⟩
theorem ov_eqNil {g g2 : G} {ds : List D} (e : ds.all flatOk = true) : OV K p (rEqD K) (.lst g ds) (.lst g2 []) (.bl ds.isEmpty) true c := fun v u H Q dv du hp k => by
  obtain ⟨h1, h2⟩ := two_nil dv du e
  refine ⟨_, _, h1, h2, shaped_flat e, by decide, ?_⟩
  rw [eqv_nil]
  exact k _ H (Ext.refl p H) hp (.bl _) fun _ => New.sc (by intro a h; cases h)
theorem ov_neNil {g g2 : G} {ds : List D} (e : ds.all flatOk = true) : OV K p (rNeD K) (.lst g ds) (.lst g2 []) (.bl (!ds.isEmpty)) true c := fun v u H Q dv du hp k => by
  obtain ⟨h1, h2⟩ := two_nil dv du e
  refine ⟨_, _, h1, h2, shaped_flat e, by decide, ?_⟩
  rw [eqv_nil]
  exact k _ H (Ext.refl p H) hp (.bl _) fun _ => New.sc (by intro a h; cases h)
end
/-! ### isinstance by the kind of a datum -/
def isStrD : D → Bool
  | .str _ => true
  | _ => false
def isLstD : D → Bool
  | .lst _ _ => true
  | _ => false
theorem isi_str {d : D} {t : String} (h : tyD d = some t) : kitB t "str" = some (isStrD d) := by
  cases d <;> first | (cases h; done) | (cases h; first | exact (show kitB _ "str" = some false by decide +kernel) | exact (show kitB _ "str" = some true by decide +kernel))
theorem isi_list {d : D} {t : String} (h : tyD d = some t) : kitB t "list" = some (isLstD d) := by
  cases d <;> first | (cases h; done) | (cases h; first | exact (show kitB _ "list" = some false by decide +kernel) | exact (show kitB _ "list" = some true by decide +kernel))
end LA
namespace LA
open PySem PySem.Spec PyProof.Rows L2
theorem cv_lenT {K : PySem.W.Frag} {p : HD} {c : PC} {l : List Nat} (h : l.length ≤ 100000) : CV K p (fun xs H Q => ∃ x n, xs = [x] ∧ LenV K x H n ∧ Q (.int n) H) [.str (tx l)] (.int (l.length : Nat)) true c := fun vs H Q dvs hp k => by
  cases dvs with
  | cons h1 r =>
    cases r
    cases h1
    exact ⟨_, l.length, rfl, ⟨by rw [tx_len]; exact sz_le h, (tx_len l).symm⟩, k _ H (Ext.refl p H) hp (.int _) fun _ => New.sc (by intro a h; cases h)⟩
end LA
namespace LA
open PySem PySem.Spec PyProof.Rows L2
theorem zips_at {a b : List Nat} {i : Nat} {d : D} (h : (zips (tx a) (tx b))[i]? = some d) : d = .tup [.str (chr1 (a.getD i 0)), .str (chr1 (b.getD i 0))] ∧ i < min a.length b.length := by
  unfold zips at h
  have hl := (List.getElem?_eq_some_iff.mp h).1
  rw [List.length_map, List.length_range] at hl
  rw [List.getElem?_map, List.getElem?_range hl, tx_list, tx_list] at h
  have ea : (tx a).cps.size = a.length := tx_len a
  have eb : (tx b).cps.size = b.length := tx_len b
  rw [ea, eb] at hl
  exact ⟨(Option.some.inj h).symm, hl⟩
theorem zips_len (a b : List Nat) : (zips (tx a) (tx b)).length = min a.length b.length := by
  unfold zips
  have ea : (tx a).cps.size = a.length := tx_len a
  have eb : (tx b).cps.size = b.length := tx_len b
  rw [List.length_map, List.length_range, ea, eb]
theorem at_get {l : List Nat} {i : Nat} (h : i < l.length) : (tx l).cps.toList[i]? = some (l.getD i 0) := by
  rw [tx_list, List.getD_eq_getElem?_getD, List.getElem?_eq_getElem h]
  rfl
end LA
namespace LA
open PySem PySem.Spec PyProof.Rows L2
theorem rt_lstB {X : Cx} {W : WX} {p : HD} {ρ : Rho} {c c1 : PC} {e : Expr} {nw b : Bool} {g : G} {ds : List D} (h : RE X W p ρ c e (.val (.lst g ds) nw c1)) (hb : (!ds.isEmpty) = b) (he : ∀ whole, isTrue e X.env whole = (do let v ← whole; standAt e.pos; holding [v] (truthy v)) := by intro _; rfl) : RT X W p ρ c e (.val b c1) := by
  subst hb
  exact rt_lst h he
end LA
namespace LA
open PySem PySem.Spec PyProof.Rows L2
/-! ### forgetting; targets; the larger and the smaller -/
section
variable {X : Cx} {W : WX} {p : HD} {ρ ρ' ρ1 : Rho} {c c1 c2 : PC} {e tg : Expr} {pos : Pos} {d : D} {nw : Bool} {sts : List Stmt} {g : TG} {vs : List Nat} {K : PySem.W.Frag}
theorem rss_weak (h : RSs X W p ρ c sts (.nx ρ1 c1)) (hl : ρ'.length = ρ1.length) (hw : ∀ (i : Nat) (d : D), ρ'[i]? = some (some d) → ρ1[i]? = some (some d)) : RSs X W p ρ c sts (.nx ρ' c1) :=
  pss_imp h fun De σ H ⟨s, k⟩ => ⟨s, fun σ2 H2 e2 s2 => k σ2 H2 e2 (s2.weak (by rw [hl]; exact s2.len) hw fun i v d _ z => z)⟩
theorem rs_tg (he : RE X W p ρ c e (.val d nw c1)) (hg : PG X tg g) (htg : TgOk X.K g vs d ρ ρ') (hs : swapsWithSole [tg] e pos.line X.env = pure false := by rfl) (hw : swappedStores [tg] e X.env = pure none := by rfl)
    (h1 : (assignEach [tg] X.env).map (·.2) = [assign tg X.env] := by rfl) : RS X W p ρ c (.Assign [tg] e pos) (.nx ρ' c1) :=
  ps_imp (ps_asg he hg hs hw h1) fun De σ H h => ⟨h.1, fun v H1 e1 p1 dv _ => htg.run p c1 v σ H1 _ dv (h.1.mono e1 p1) p1 fun σ2 s2 _ => h.2 σ2 H1 e1 s2⟩
theorem cv_min2 {i j : Int} : CV K p (fun xs H Q => ∃ i j, xs = [.int i, .int j] ∧ Q (.int (if j < i then j else i)) H) [.int i, .int j] (.int (if j < i then j else i)) true c := fun vs H Q dvs hp k => by
  cases dvs with
  | cons h1 r =>
    cases r with
    | cons h2 r =>
      cases r
      cases h1
      cases h2
      exact ⟨i, j, rfl, k _ H (Ext.refl p H) hp (.int _) fun _ => New.sc (by intro a h; cases h)⟩
theorem cv_max2 {i j : Int} : CV K p (fun xs H Q => ∃ i j, xs = [.int i, .int j] ∧ Q (.int (if i < j then j else i)) H) [.int i, .int j] (.int (if i < j then j else i)) true c := fun vs H Q dvs hp k => by
  cases dvs with
  | cons h1 r =>
    cases r with
    | cons h2 r =>
      cases r
      cases h1
      cases h2
      exact ⟨i, j, rfl, k _ H (Ext.refl p H) hp (.int _) fun _ => New.sc (by intro a h; cases h)⟩
end
/-! ### what repr asks of small data -/
def smallI (i : Int) : Bool := decide (0 ≤ i) && decide (i < 10)
def smallD : D → Bool
  | .non => true
  | .bl _ => true
  | .int i => smallI i
  | .str x => PyData.strOk x && decide (x.length ≤ 100)
  | _ => false
theorem small_int : ∀ k : Nat, k < 10 → (PyData.int ((k : Nat) : Int)).showable = true ∧ PyData.intsShort 13 (.int ((k : Nat) : Int)) = true ∧ (PyData.int ((k : Nat) : Int)).weight ≤ 100 := by
  decide +kernel
theorem small_one {d : D} (h : smallD d = true) : okD false d = true ∧ (toPy d).showable = true ∧ (toPy d).canLay0 = true ∧ PyData.intsShort 13 (toPy d) = true ∧ (toPy d).weight ≤ 100 ∧ (toPy d).depth = 0 ∧ (toPy d).hasDict = false := by
  cases d with
  | non => exact ⟨rfl, by unfold toPy; decide +kernel, by unfold toPy; decide +kernel, by unfold toPy; decide +kernel, by unfold toPy; decide +kernel, by unfold toPy; decide +kernel, by unfold toPy; decide +kernel⟩
  | bl b => cases b <;> exact ⟨rfl, by unfold toPy; decide +kernel, by unfold toPy; decide +kernel, by unfold toPy; decide +kernel, by unfold toPy; decide +kernel, by unfold toPy; decide +kernel, by unfold toPy; decide +kernel⟩
  | int i =>
    obtain ⟨h1, h2⟩ := Bool.and_eq_true_iff.mp (show smallI i = true from h)
    have h1 := of_decide_eq_true h1
    have h2 := of_decide_eq_true h2
    obtain ⟨k, rfl⟩ : ∃ k : Nat, i = (k : Nat) := ⟨i.toNat, (Int.toNat_of_nonneg h1).symm⟩
    obtain ⟨a, b, c⟩ := small_int k (by omega)
    exact ⟨rfl, by unfold toPy; exact a, by unfold toPy PyData.canLay0; rfl, by unfold toPy; exact b, by unfold toPy; exact c, by unfold toPy PyData.depth; rfl, by unfold toPy PyData.hasDict; rfl⟩
  | str x =>
    obtain ⟨h1, h2⟩ := Bool.and_eq_true_iff.mp (show (PyData.strOk x && decide (x.length ≤ 100)) = true from h)
    exact ⟨rfl, by unfold toPy PyData.showable; rfl, by unfold toPy PyData.canLay0; exact h1, by unfold toPy PyData.intsShort; rfl, by unfold toPy PyData.weight; exact of_decide_eq_true h2, by unfold toPy PyData.depth; rfl, by unfold toPy PyData.hasDict; rfl⟩
  | _ => cases h
theorem small_all : ∀ {ds : List D}, ds.all smallD = true → okDs false ds = true ∧ PyData.showableAll (toPys ds) = true ∧ PyData.canLayAll0 (toPys ds) = true ∧ PyData.intsShortAll 13 (toPys ds) = true ∧ PyData.weightAll (toPys ds) ≤ 101 * ds.length ∧ PyData.depthAll (toPys ds) = 0 ∧ PyData.hasDictAll (toPys ds) = false
  | [], _ => ⟨rfl, by unfold toPys; decide +kernel, by unfold toPys; decide +kernel, by unfold toPys; decide +kernel, by unfold toPys; decide +kernel, by unfold toPys; decide +kernel, by unfold toPys; decide +kernel⟩
  | d :: r, h => by
    rw [List.all_cons, Bool.and_eq_true_iff] at h
    obtain ⟨a1, a2, a3, a4, a5, a6, a7⟩ := small_one h.1
    obtain ⟨b1, b2, b3, b4, b5, b6, b7⟩ := small_all h.2
    unfold okDs toPys PyData.showableAll PyData.canLayAll0 PyData.intsShortAll PyData.weightAll PyData.depthAll PyData.hasDictAll
    rw [a1, a2, a3, a4, a6, a7, b1, b2, b3, b4, b6, b7, List.length_cons]
    exact ⟨rfl, rfl, rfl, rfl, by omega, rfl, rfl⟩
theorem sz_of {d : PyData} (h1 : d.canLay0 = true) (h2 : PyData.intsShort 13 d = true) (h3 : d.weight ≤ 10000) : d.shown.length ≤ sizeLine := by
  have h := PyData.shown_le 13 (by decide) d (PyData.leavesShort_of_canLay0 13 d h1 h2)
  have e : sizeLine = 16777216 := by decide
  omega
theorem shows_small {d : D} (h : smallD d = true) : Shows d := by
  obtain ⟨a1, a2, a3, a4, a5, a6, a7⟩ := small_one h
  exact ⟨by rw [a7]; exact a1, a2, by omega, sz_of a3 a4 (by omega)⟩
theorem shows_list {g : G} {ds : List D} (h : ds.all smallD = true) (hl : ds.length ≤ 90) : Shows (.lst g ds) := by
  obtain ⟨b1, b2, b3, b4, b5, b6, b7⟩ := small_all h
  refine ⟨?_, ?_, ?_, sz_of ?_ ?_ ?_⟩
  · unfold toPy PyData.hasDict okD
    rw [b7, b1]
    simp
  · unfold toPy PyData.showable
    exact b2
  · unfold toPy PyData.depth
    omega
  · unfold toPy PyData.canLay0
    exact b3
  · unfold toPy PyData.intsShort
    exact b4
  · unfold toPy PyData.weight
    omega
end LA
namespace LA
open PySem PySem.Spec PyProof.Rows L2
/-- the first knows no more than the second -/
inductive Less : Rho → Rho → Prop
  | nil : Less [] []
  | skip {o : Option D} {r r1 : Rho} : Less r r1 → Less (none :: r) (o :: r1)
  | same {o : Option D} {r r1 : Rho} : Less r r1 → Less (o :: r) (o :: r1)
theorem Less.len : ∀ {r r1 : Rho}, Less r r1 → r.length = r1.length
  | _, _, .nil => rfl
  | _, _, .skip h => by rw [List.length_cons, List.length_cons, Less.len h]
  | _, _, .same h => by rw [List.length_cons, List.length_cons, Less.len h]
theorem Less.get : ∀ {r r1 : Rho}, Less r r1 → ∀ (i : Nat) (d : D), r[i]? = some (some d) → r1[i]? = some (some d)
  | _, _, .nil, _, _, h => h
  | _, _, .skip _, 0, _, h => by cases h
  | _, _, .same _, 0, _, h => h
  | _, _, .skip h, i + 1, d, z => Less.get h i d z
  | _, _, .same h, i + 1, d, z => Less.get h i d z
theorem rss_less {X : Cx} {W : WX} {p : HD} {ρ ρ' ρ1 : Rho} {c c1 : PC} {sts : List Stmt} (h : RSs X W p ρ c sts (.nx ρ1 c1)) (hw : Less ρ' ρ1) : RSs X W p ρ c sts (.nx ρ' c1) := rss_weak h hw.len hw.get
/-- data without the pool -/
inductive OkR : Rho → Prop
  | nil : OkR []
  | non {r : Rho} : OkR r → OkR (none :: r)
  | one {d : D} {r : Rho} : okD false d = true → OkR r → OkR (some d :: r)
theorem OkR.get : ∀ {r : Rho}, OkR r → ∀ (i : Nat) (d : D), r[i]? = some (some d) → okD false d = true
  | _, .nil, _, _, h => by simp at h
  | _, .non _, 0, _, h => by cases h
  | _, .one h _, 0, _, z => by
    cases Option.some.inj (Option.some.inj z)
    exact h
  | _, .non h, i + 1, d, z => OkR.get h i d z
  | _, .one _ h, i + 1, d, z => OkR.get h i d z
end LA

namespace LA
open PySem PySem.Spec PyProof.Rows L2
/-! ### one call from one place, its guards in view -/
/-- a def of the text called from the place pl: its body's reading is wanted there alone -/
theorem call_at {CX : CXT} {P : Program} {w : World} {K : PySem.W.Frag} {mg : Str → Option Value} {base : Heap} {k : Nat} {x qual : Str} {st : Stmt} {f : Addr} {fd : FuncData} {N ps : List Str} (F : Fun K x qual st f fd) (S : FnScope N ps (defScope st))
    {pl : Around} {up : List Env} {sh : Shared} {G : Hp} {ag : Args} {us : List Value} {vs : List V} {R : VK} {Ex : XK} (room : Room (k + 1) pl) (e0 : Env0 P w K mg base pl up sh G) (bind : BindsTo sh fd ag (ps.zip us)) (rv : Vals vs us) (len : vs.length = ps.length)
    (body : ∀ cdv : Value, Room k (pl.deeper (envOfC qual (defScope st) sh.heap.objs.size f cdv)) → ∃ t, PSs (cxOf CX P w K mg base N qual (defScope st) f cdv pl up sh G Ex) (defBody st) t ∧ t { nx := fun _ G' => R .non G', rt := R } (L2.start N vs) G) :
    codeAny (model P w) pl (.call (.ref f) ag) (CR CX up P w G sh R Ex) sh := by
  obtain ⟨oc, od, kV, doc, pm, an, cdv, ct, osl, rfl, look, code⟩ := F.ex
  obtain ⟨t, runs, want⟩ := body cdv (room.deeper _)
  have inK : K.In sh.heap := e0.mod.kin.keeps fun b o y => (e0.bs b o y).1
  have noLim : sh.heap.NoLimit := e0.mod.nolimit.keeps fun b o y => (e0.bs b o y).1
  have kinds : ∀ y ∈ ps.zip us, (defScope st).names.lookup y.1 = some .local ∨ ((defScope st).names.lookup y.1 = some .cell ∧ ((cellsFrom (sh.heap.objs.size + 1) (defScope st).names []).lookup y.1).isSome = true) := fun ⟨n, v⟩ my =>
    (S.par n (List.of_mem_zip my).1).elim (fun q => .inl q) fun q => .inr ⟨q, PySem.W.cellsFrom_some _ _ _ (.inl q)⟩
  refine codeAny_call_function room.depth (inK _ _ look) rfl S.co S.gen rfl (PySem.W.codeRec_of inK code) (bind _ _ _ _ ?_)
  refine wpAny_newFunctionEnv_cells S.kind kinds fun env ee s1 new => ?_
  subst ee
  refine ⟨noLim.keeps new.toInCall.keep, codeAny_func ?_⟩
  have J : Inv (cxOf CX P w K mg base N qual (defScope st) f cdv pl up sh G Ex) [] (L2.start N vs) G s1 := inv_start S room.hd e0 len rv new
  refine wpAny_mono (runs.run [] s1 (L2.start N vs) G _ J want) (fun fl s2 got => ?_) fun e s2 got => got
  match fl, got with
  | .ret u, ⟨v, σ2, G2, J2, r2, q2⟩ => exact ⟨v, G2, J2.os, J2.bare, J2.base, J2.hok, r2, q2⟩
  | .next, ⟨σ2, G2, J2, q2⟩ => exact ⟨V.non, G2, J2.os, J2.bare, J2.base, J2.hok, rfl, q2⟩
  | .brk, ⟨_, _, _, z⟩ => exact z.elim
  | .cont, ⟨_, _, _, z⟩ => exact z.elim
/-- what a law ends in -/
def LawEnd (s0 : Shared) : Result → Shared → Prop := fun r s2 => r = .ok (.ret (.bool true)) ∧ OldK s0.heap s2.heap ∧ s2.os = s0.os ∧ AllBare s2.gens
/-- the law's call, from a run over a heap of which the script alone may be tracked -/
theorem law_at {P : Program} {w : World} {K : PySem.W.Frag} {mg mb : Str → Option Value} {fa a : Addr} {s0 : Shared} {its : List Value} {ns : List Int}
    (kin : K.In s0.heap) (nsM : s0.heap.Ns mainGlobals mg) (nsB : s0.heap.Ns builtinsNs mb) (bi : ∀ x : Str, x ≠ "__name__" → mb x = bootBuiltins x) (noL : s0.heap.NoLimit) (gen : s0.gens = #[])
    (obj : s0.heap.get? a = some { cls := .type "list", data := .seq its.toArray }) (whole : IntsAre its ns) (short : ns.length ≤ sizeLine)
    (run : ∀ (base : Heap) (G : Hp), K.In base → base.Ns mainGlobals mg → Env0 P w K mg base callerA [] s0 G → SqL K G a (ns.map V.int) →
      codeAny (model P w) callerA (.call (.ref fa) ⟨[.ref a], []⟩) (CR CX0 [] P w G s0 (fun v _ => v = .bl true) fun _ _ _ => False) s0) :
    codeAny (model P w) callerA (.call (.ref fa) ⟨[.ref a], []⟩) (LawEnd s0) s0 := by
  have vals := vals_ints whole
  have same := whole.length
  -- G tracks nothing, or the script as it stands
  have step : ∀ G : Hp, (∀ b u, G b = some u → b = a ∧ K.lookup a = none ∧ ∃ o xs, u = .frz o (.lst xs)) → HOk P w G s0.heap → SqL K G a (ns.map V.int) → codeAny (model P w) callerA (.call (.ref fa) ⟨[.ref a], []⟩) (LawEnd s0) s0 := by
    intro G only hok sq
    have free : ∀ {b : Addr}, b ≠ a → G b = none := fun {b} ne => by
      cases y : G b with
      | none => rfl
      | some u => exact absurd (only b u y).1 ne
    have noDict : ∀ {b : Addr} {o : Obj} {es : Array DictEntry} {ep : Nat}, s0.heap.get? b = some o → o.data = .dict es ep → G b = none := fun {b o es ep} y1 y2 => free fun z => by
      rw [z, obj] at y1
      cases y1
      cases (show Data.seq its.toArray _ = Data.dict es ep from y2)
    have kept : ∀ {b : Addr} {m : Str → Option Value}, s0.heap.Ns b m → (hidT s0.heap G).Ns b m := fun {b m} ⟨o, es, ep, y1, y2, y3⟩ => ⟨o, es, ep, hidT_get y1 (noDict y1 y2), y2, y3⟩
    have kinB : K.In (hidT s0.heap G) := fun b o y => hidT_get (kin b o y) (by
      cases z : G b with
      | none => rfl
      | some u =>
        obtain ⟨rfl, no, _⟩ := only b u z
        rw [no] at y
        cases y)
    have env : Env0 P w K mg (hidT s0.heap G) callerA [] s0 G := ⟨rfl, ⟨kinB, kept nsM, ⟨mb, kept nsB, bi⟩, noL.elim fun mc q => ⟨mc, kept q.1, q.2⟩⟩, fun b o y => of_hidT y, Nat.le_of_eq (hidT_size _ _), trivial, fun b m => absurd (show b ∈ ([] : List Addr) from m) (by simp), hok, .of_eq gen⟩
    refine codeAny_mono (run _ G kinB (kept nsM) env sq) fun r s2 got => ?_
    match r, got with
    | .error e, z => exact z.elim
    | .ok .next, z => exact z.elim
    | .ok .brk, z => exact z.elim
    | .ok .cont, z => exact z.elim
    | .ok (.ret u), ⟨v, G2, os, bare, un, hok2, rel, q⟩ =>
      have q : v = .bl true := q
      subst q
      obtain rfl : u = Value.bool true := rel
      refine ⟨rfl, OldK.of_keep fun b o y => ?_, os, bare⟩
      cases z : G b with
      | none => exact un.keep b o y z (fun m => absurd (show b ∈ ([] : List Addr) from m) (by simp)) (by simp)
      | some u =>
        obtain ⟨rfl, _, ob, xs, rfl⟩ := only b u z
        obtain ⟨y1, _⟩ := hok b _ z
        obtain ⟨y2, _⟩ := hok2 b _ (un.frzs b ob _ z)
        rw [y] at y1
        cases y1
        exact y2
  cases lk : K.lookup a with
  | some o =>
    have y := kin a o lk
    rw [obj] at y
    cases y
    exact step (fun _ => none) (fun b u z => nomatch z) (fun b u z => nomatch z) (.inr ⟨_, its.toArray, _, lk, rfl, rfl, rfl, by rw [List.size_toArray, same]; exact short, by simpa using vals⟩)
  | none =>
    refine step (fun b => if b = a then some (.frz { cls := .type "list", data := .seq its.toArray } (.lst (ns.map V.int))) else none) (fun b u z => ?_) (fun b u z => ?_) (.inl (.inr ⟨{ cls := .type "list", data := .seq its.toArray }, if_pos rfl⟩))
    · by_cases y : b = a
      · have z := (if_pos y).symm.trans z
        cases z
        exact ⟨y, lk, _, _, rfl⟩
      · cases (if_neg y).symm.trans z
    · by_cases y : b = a
      · have z := (if_pos y).symm.trans z
        cases z
        subst y
        exact ⟨obj, by rw [List.length_map]; exact short, its, _, vals, obj⟩
      · cases (if_neg y).symm.trans z
end LA

namespace LA
open PySem PySem.Spec PyProof.Rows L2
/-! ### enumerate over a text -/
def iEnumS (ta : TA) : TI := fun σ H R => ta σ H fun vs H1 => ∃ z : Str, vs = [.str z] ∧ R (Itp z.cps.size (fun i => .int (i : Nat)) (sgn z)) H1
theorem pi_enumS {X : Cx} {e : Expr} {ta : TA} {p pos tpos : Pos} {elts : List Expr} {kk : Nat} (hg : Gl X "enumerate") (hm : X.mg "enumerate" = none) (ha : PA X [e] ta) (hs : starEach [e] X.env = [(false, eval e X.env)] := by rfl) :
    PI X (.Tuple elts kk tpos) (.Call (.Name "enumerate" p) [e] [] pos) (iEnumS ta) := by
  refine ⟨fun pins s σ H R I h => ?_⟩
  refine Call_ (ld_blt I hg hm boot_enumerate (PyProof.Rows.callWith_type1 (thn (ha.run pos pins s σ H _ I h) fun us sh ⟨vs, H1, I1, r1, q1⟩ => ?_) hs rfl))
  obtain ⟨z, ex, q⟩ := q1
  subst ex
  cases r1 with
  | cons r rr =>
    cases rr
    obtain ⟨t, rfl⟩ := r
    refine call_enumerate_str fun hp en it sz kp => wpAny_pyIter_enum en ?_
    have I2 : Inv X pins σ H1 { sh with heap := hp } := I1.kept (t' := sh.toks) kp
    have ne : sh.heap.objs.size + 1 ≠ sh.heap.objs.size := Nat.succ_ne_self _
    refine ⟨sh.heap.objs.size + 1, _, _, _, H1, rfl, I2, turn_pair (P1 := fun i x => ∃ t, x = .int (i : Nat) t)
      (fun A hA => (GoesN.enumFrom 0 (Draws.text (A := A.in1) hA sh.heap.objs.size z t) (sh.heap.objs.size + 1) ne (fun m => ne (List.mem_singleton.mp m)) (List.mem_singleton.mpr rfl)).mono fun i h0 v h1 _ ⟨T, u, x, ev, big, px, tup⟩ => ⟨T, _, x, ev, big, ⟨u, by rw [Int.zero_add]⟩, px, tup⟩)
      (fun i x _ hx => by obtain ⟨u, rfl⟩ := hx; exact ⟨u, rfl⟩) (fun i x _ hx => sgn_of hx) (List.mem_cons_self ..) (fun i h st c hc => ?_) (fun A i s Q E st h => by obtain ⟨⟨old, y⟩, _⟩ := st; exact wpAny_pyIter_enum y h), ⟨⟨_, en⟩, it⟩, fun c hc => ?_, q⟩
    · obtain ⟨⟨old, y⟩, y2⟩ := st
      rcases List.mem_cons.mp hc with w | w
      · rw [w]
        exact ⟨_, y, fun v q => nomatch q⟩
      · rw [List.mem_singleton.mp w]
        obtain ⟨o, y3, _, y4⟩ := y2
        exact ⟨o, y3, fun v q => by rw [y4] at q; cases q⟩
    · have le : sh.heap.objs.size ≤ c := by
        rcases List.mem_cons.mp hc with w | w
        · rw [w]; exact Nat.le_add_right _ _
        · rw [List.mem_singleton.mp w]; exact Nat.le_refl _
      exact I1.fpOk le (I1.hok.fresh le)
section
variable {X : Cx} {W : WX} {p : HD} {ρ : Rho} {c c1 c2 c3 : PC} {e a b cc : Expr} {pos : Pos} {d1 d2 d3 : D} {n1 n2 n3 nw : Bool} {K : PySem.W.Frag}
def enums (l : List Nat) : List D := (List.range l.length).map fun i => D.tup [.int (i : Nat), .str (chr1 (l.getD i 0))]
theorem enums_at {l : List Nat} {i : Nat} {d : D} (h : (enums l)[i]? = some d) : d = .tup [.int (i : Nat), .str (chr1 (l.getD i 0))] ∧ i < l.length := by
  unfold enums at h
  have hl := (List.getElem?_eq_some_iff.mp h).1
  rw [List.length_map, List.length_range] at hl
  rw [List.getElem?_map, List.getElem?_range hl] at h
  exact ⟨(Option.some.inj h).symm, hl⟩
theorem enums_len (l : List Nat) : (enums l).length = l.length := by unfold enums; rw [List.length_map, List.length_range]
theorem ri_enumS {ps tpos : Pos} {elts : List Expr} {kk : Nat} {l : List Nat} (hm : X.mg "enumerate" = none) (h : RE X W p ρ c e (.val (.str (tx l)) nw c1)) (hg : Gl X "enumerate" := by rfl) (hs : starEach [e] X.env = [(false, eval e X.env)] := by rfl) :
    RI X W p ρ c (.Tuple elts kk tpos) (.Call (.Name "enumerate" ps) [e] [] pos) (enums l) c1 :=
  pi_imp (pi_enumS hg hm (ra_cons (W := W) h (ra_nil (W := W)) (by rw [hs]; rfl)) hs) fun σ H R ⟨s, k⟩ => ⟨s, fun vs H1 e1 p1 dvs => by
    cases dvs with
    | cons hv hr =>
      cases hr
      cases hv
      have sz : (tx l).cps.size = l.length := tx_len l
      refine ⟨_, rfl, k _ H1 e1 p1 fun q c' H2 qe qs p2 => ⟨?_, fun i d hd => ?_⟩⟩
      · show (enums l).length = (tx l).cps.size
        rw [enums_len, sz]
      · obtain ⟨rfl, hi⟩ := enums_at hd
        refine ⟨by show i < (tx l).cps.size; rw [sz]; exact hi, fun x H3 y => ?_⟩
        obtain ⟨T, rfl, hT, rfl⟩ := y
        refine ⟨Ext.new hT, p2.upd hT, .tup (.inl (.inl (hide_upd p2 hT))) (.cons (.int _) (.cons ?_ .nil))⟩
        have e' : LA.sgn (tx l) i = .str (chr1 (l.getD i 0)) := by
          unfold LA.sgn
          rw [tx_list]
          rfl
        rw [e']
        exact .str _⟩
/-! ### a < b < c -/
theorem re_chain {op op' : CmpOp} {r r' : R2} {k1 k2 : Bool} (ho : OpR X (compareOp op) r) (ho' : OpR X (compareOp op') r') (ha : RE X W p ρ c a (.val d1 n1 c1)) (hb : RE X W p ρ c1 b (.val d2 n2 c2)) (hc : RE X W p ρ c2 cc (.val d3 n3 c2)) (h1 : OV X.K p r d1 d2 (.bl k1) true c2) (h2 : OV X.K p r' d2 d3 (.bl k2) true c2)
    (hm : lastMarks [op, op'] [b, cc] = false := by with_unfolding_all rfl) : RE X W p ρ c (.Compare a [op, op'] [b, cc] pos) (.val (.bl (k1 && k2)) true c2) :=
  pe_imp (pe_chain ho ho' ha hb hc hm) fun σ H Q ⟨s, k⟩ => ⟨s, fun v H1 e1 p1 dv _ => ⟨s.mono e1 p1, fun u H2 e2 p2 du _ => h1 v u H2 _ (dv.mono e2) du p2 fun w H3 e3 p3 dw _ => by
    cases dw
    refine ⟨k1, rfl, ?_⟩
    have e13 : Ext p H H3 := (e1.trans e2).trans e3
    cases k1 with
    | false => exact iteF (k _ H3 e13 p3 (.bl false) fun _ => New.sc (by intro a h; cases h))
    | true => exact iteT ⟨s.mono e13 p3, fun w H4 e4 p4 dw _ => h2 u w H4 Q (du.mono (e3.trans e4)) dw p4 fun z H5 e5 p5 dz _ => k z H5 ((e13.trans e4).trans e5) p5 dz fun _ => by
        cases dz
        exact New.sc (by intro a h; cases h)⟩⟩⟩
end
end LA

namespace LA
open PySem PySem.Spec PyProof.Rows L2
theorem SR.sub {K : PySem.W.Frag} {p : HD} {H H' : Hp} {σ : L2.St} {ρ : Rho} {c c' : PC} (s : SR K p H σ ρ c) (e : Sub (hide p H) (hide p H')) (q : PoolAt K p H' c') : SR K p H' σ ρ c' :=
  ⟨s.len, fun i d h => by
    obtain ⟨v, h1, h2⟩ := s.at' i d h
    exact ⟨v, h1, h2.sub e fun _ _ z => z⟩, q⟩
/-! ### comprehensions with two for -/
def flat2 (zs : Nat → List D) (y : Nat → Nat → D) : Nat → List D
  | 0 => []
  | n + 1 => flat2 zs y n ++ (List.range (zs n).length).map (y n)
def tiU2 (K : PySem.W.Frag) (xs : List D) (zs : Nat → List D) (ρt : Nat → Rho) (c : PC) : TI := fun σ H R => ∃ (q : HD) (i : Nat) (d : D), xs[i]? = some d ∧ tI K Wf q (ρt i) c (zs i) c σ H R
def teU2 (K : PySem.W.Frag) (xs : List D) (zs : Nat → List D) (y : Nat → Nat → D) (ρu : Nat → Nat → Rho) (nw : Bool) (c : PC) : TE := fun σ H Q => ∃ (q : HD) (i j : Nat) (d e : D), xs[i]? = some d ∧ (zs i)[j]? = some e ∧ tE K Wf q (ρu i j) c (.val (y i j) nw c) σ H Q
section
variable {X : Cx} {W : WX} {p : HD} {ρ : Rho} {c : PC} {K : PySem.W.Frag}
theorem app_at {a L : Addr} {o : HO} {H5 : Hp} {u : HO} {p : HD} (h : hide (p.also L) H5 a = some o) : hide (p.also L) (upd H5 L u) a = some o := by
  obtain ⟨h1, h2⟩ := hide_some h
  rw [hide_ne h2, upd_ne (fun z => h2 (.inr (by rw [z]; exact List.mem_cons_self)))]
  exact h1
theorem lc2_read {xs : List D} {zs : Nat → List D} {y : Nat → Nat → D} {g g1 : TG} {vs vs1 : List Nat} {ρt : Nat → Rho} {ρu : Nat → Nat → Rho} {nw : Bool}
    (htg : ∀ i d, xs[i]? = some d → TgOk K g vs d (wipeR ρ vs) (ρt i)) (htg1 : ∀ i j d e, xs[i]? = some d → (zs i)[j]? = some e → TgOk K g1 vs1 e (wipeR (ρt i) vs1) (ρu i j))
    (hz : ∀ i j d, xs[i]? = some d → j < (zs i).length → (flat2 zs y i).length + j < 100000) : ∀ σ H Q, tE K W p ρ c (.val (.lst ⟨false, true⟩ (flat2 zs y xs.length)) true c) σ H Q → tLc2 (tI K W p ρ c xs c) g tYes (tiU2 K xs zs ρt c) g1 tYes (teU2 K xs zs y ρu nw c) vs vs1 σ H Q := by
  refine fun σ H Q ⟨s, k⟩ => ⟨s, fun J H1 e1 p1 yl L nL => ?_⟩
  have nLp : L ∉ p.m := fun z => p1.not nL (.inl z)
  have s1 : SR K p H1 σ ρ c := s.mono e1 p1
  refine ⟨fun i m H2 => m = xs.length - i ∧ i ≤ xs.length ∧ Ext p H1 H2 ∧ (∃ us, H2 L = some (.lst us) ∧ DVs K (p.also L) H2 us (flat2 zs y i)) ∧ PoolAt K (p.also L) H2 c, ⟨xs.length, by simp, Nat.zero_le _, Ext.new nL, ⟨[], upd_same, .nil⟩, p1.also nL⟩, ?_⟩
  rintro i m H2 ⟨rfl, hi', e2, ⟨us, hL, dus⟩, p2⟩
  obtain ⟨hstop, hgo⟩ := yl (p.also L) c H2 rfl (fun b o z => (ext_also e2).hide b o (also_sub nL b o z)) p2
  by_cases hlt : i < xs.length
  · have hd : xs[i]? = some xs[i] := List.getElem?_eq_getElem hlt
    obtain ⟨g1', g2⟩ := hgo i _ hd
    refine .inr ⟨g1', fun H' => ∃ us, H' L = some (.lst us) ∧ DVs K (p.also L) H' us (flat2 zs y (i + 1)) ∧ Ext p H1 H' ∧ PoolAt K (p.also L) H' c, fun H' ⟨us', a1, a2, a3, a4⟩ => ⟨xs.length - (i + 1), by omega, rfl, hlt, a3, ⟨us', a1, a2⟩, a4⟩, fun x H3 hy => ?_⟩
    obtain ⟨e3, p3, dx⟩ := g2 x H3 hy
    have sH : SR K (p.also L) H3 σ ρ c := ⟨s.len, fun j d hj => by
      obtain ⟨v, h1, h2⟩ := s1.at' j d hj
      exact ⟨v, h1, ((h2.also nL).mono (ext_also e2)).mono e3⟩, p3⟩
    refine (htg i _ hd).run (p.also L) c x _ H3 _ dx (sH.wipe _) p3 fun σ2 s2 hw => ⟨hw.trans wipe_wipe, ?_⟩
    simp only [tYes, if_true]
    refine ⟨p.also L, i, _, hd, s2, fun J1 H4 e4 p4 yl1 => ?_⟩
    have e14 : Ext p H1 H4 := fun a o n h => e4 a o n (e3 a o n (e2 a o n h))
    have hL4 : H4 L = some (.lst us) := e4 L _ nLp (e3 L _ nLp hL)
    refine ⟨fun j k' H5 => k' = (zs i).length - j ∧ j ≤ (zs i).length ∧ Ext p H1 H5 ∧ (∃ us, H5 L = some (.lst us) ∧ DVs K (p.also L) H5 us (flat2 zs y i ++ (List.range j).map (y i))) ∧ PoolAt K (p.also L) H5 c ∧ Sub (hide (p.also L) H4) (hide (p.also L) H5), ⟨(zs i).length, by simp, Nat.zero_le _, e14, ⟨us, hL4, ?_⟩, p4, fun _ _ z => z⟩, ?_⟩
    · show DVs K _ H4 us (flat2 zs y i ++ [])
      rw [List.append_nil]
      exact (dus.mono e3).mono e4
    · rintro j k' H5 ⟨rfl, hj', e5, ⟨ws, hL5, dws⟩, p5, sb5⟩
      obtain ⟨st1, go1⟩ := yl1 (p.also L) c H5 rfl sb5 p5
      by_cases hjl : j < (zs i).length
      · have he : (zs i)[j]? = some ((zs i)[j]'hjl) := List.getElem?_eq_getElem _
        obtain ⟨go2, yl2⟩ := go1 j _ he
        refine .inr ⟨go2, fun H' => ∃ us, H' L = some (.lst us) ∧ DVs K (p.also L) H' us (flat2 zs y i ++ (List.range (j + 1)).map (y i)) ∧ Ext p H1 H' ∧ PoolAt K (p.also L) H' c ∧ Sub (hide (p.also L) H4) (hide (p.also L) H'), fun H' ⟨us', a1, a2, a3, a4, a5⟩ => ⟨(zs i).length - (j + 1), by omega, rfl, hjl, a3, ⟨us', a1, a2⟩, a4, a5⟩, fun x1 H6 hy1 => ?_⟩
        obtain ⟨e6, p6, dx1⟩ := yl2 x1 H6 hy1
        have s6 : SR K (p.also L) H6 σ2 (ρt i) c := (((s2.mono e4 p4).sub sb5 p5).mono e6 p6)
        refine (htg1 i j _ _ hd he).run (p.also L) c x1 _ H6 _ dx1 (s6.wipe _) p6 fun σ3 s3 hw3 => ⟨hw3.trans wipe_wipe, ?_⟩
        refine ⟨p.also L, i, j, _, _, hd, he, s3, fun v H7 e7 p7 dv _ => ?_⟩
        have e57 : Ext (p.also L) H5 H7 := fun a o n h => e7 a o n (e6 a o n h)
        have hL7 : H7 L = some (.lst ws) := e57 L _ nLp hL5
        have sb : Sub (hide (p.also L) H7) (hide (p.also L) (upd H7 L (.lst (ws ++ [v])))) := fun a o h => app_at h
        refine ⟨ws, hL7, ?_, ws ++ [v], upd_same, ?_, ?_, ?_, fun b o z => sb b o (e57.hide b o (sb5 b o z))⟩
        · rw [dws.length, List.length_append, List.length_map, List.length_range]
          exact sz_lt (hz i j _ hd hjl)
        · rw [List.range_succ, List.map_append, ← List.append_assoc]
          exact DVs.app ((dws.mono e57).sub sb fun _ _ z => z) (.cons (dv.sub sb fun _ _ z => z) .nil)
        · intro a o n h
          rw [upd_ne (ne_of_none h nL)]
          exact e57 a o n (e5 a o n h)
        · exact p7.other List.mem_cons_self nLp
      · have ej : j = (zs i).length := by omega
        subst ej
        exact .inl ⟨st1, ws, hL5, dws, e5, p5⟩
  · have e : i = xs.length := by omega
    subst e
    have hh : hide p H2 L = some (.lst us) := by
      rw [hide_ne (p1.not nL)]
      exact hL
    exact .inl ⟨hstop, k (.ref L) H2 (e1.trans e2) p2.less (.lst ⟨(fun z => nomatch z), fun _ => hh⟩ (.inl (.inl hh)) (dus.sub sub_also fun _ _ z => z)) fun _ => New.back e1 fun b z => by
      cases z
      exact ⟨⟨nL, nLp⟩, p2, fun g ds z => by
        cases z
        exact ⟨us, hL, dus⟩⟩⟩
/-- name = [e for x in xs for y in ys] -/
theorem rs_lc2 {elt iter iter1 tg tg1 : Expr} {scope : Scope} {own : List (Str × Nat)} {vs1 : List Nat} {xs : List D} {g g1 : TG} {yn : Str} {py pos spos : Pos} (j : Nat) (zs : Nat → List D) (y : Nat → Nat → D) (ρt : Nat → Rho) (ρu : Nat → Nat → Rho) (nw : Bool) (hc : X.calm = true) (hN : X.N.Nodup) (hi : RI X W p ρ c tg iter xs c) (ok : BlkOk X.N X.env.scope scope own) (hv : ∀ i ∈ vs1, i ∈ own.map (·.2))
    (hg : ∀ (s : Shared) (H : Hp) (C : Addr) (cl : List (Str × Addr)) (fp : List Addr), PG (X.blk s H scope (compEnvC scope cl C X.env) fp) tg g) (hg1 : ∀ (s : Shared) (H : Hp) (C : Addr) (cl : List (Str × Addr)) (fp : List Addr), PG (X.blk s H scope (compEnvC scope cl C X.env) fp) tg1 g1)
    (hi1 : ∀ i d, xs[i]? = some d → ∀ (q : HD) (s : Shared) (H : Hp) (C : Addr) (cl : List (Str × Addr)) (fp : List Addr), RI (X.blk s H scope (compEnvC scope cl C X.env) fp) Wf q (ρt i) c tg1 iter1 (zs i) c)
    (htg : ∀ i d, xs[i]? = some d → TgOk X.K g (own.map (·.2)) d (wipeR ρ (own.map (·.2))) (ρt i)) (htg1 : ∀ i j d e, xs[i]? = some d → (zs i)[j]? = some e → TgOk X.K g1 vs1 e (wipeR (ρt i) vs1) (ρu i j))
    (he : ∀ i j d e, xs[i]? = some d → (zs i)[j]? = some e → ∀ (q : HD) (s : Shared) (H : Hp) (C : Addr) (cl : List (Str × Addr)) (fp : List Addr), RE (X.blk s H scope (compEnvC scope cl C X.env) fp) Wf q (ρu i j) c elt (.val (y i j) nw c))
    (hz : ∀ i j d, xs[i]? = some d → j < (zs i).length → (flat2 zs y i).length + j < 100000) (hy : X.N[j]? = some yn := by rfl) (hyl : X.env.scope.names.lookup yn = some .local := by rfl)
    (hsw : swapsWith (.ListComp elt [⟨tg, iter, [], 0⟩, ⟨tg1, iter1, [], 0⟩] scope pos) (some (.Name yn py)) spos.line X.env = pure true := by exact sw_true rfl rfl rfl (by decide +kernel))
    (hs : ∀ x, foldedSetIterable iter X.env x = pure x := by intro _; rfl) (hs1 : ∀ env x, foldedSetIterable iter1 env x = pure x := by intro _ _; rfl) :
    RS X W p ρ c (.Assign [.Name yn py] (.ListComp elt [⟨tg, iter, [], 0⟩, ⟨tg1, iter1, [], 0⟩] scope pos) spos) (.nx (ρ.set j (some (.lst ⟨false, true⟩ (flat2 zs y xs.length)))) c) :=
  ps_imp (ps_setLc2 (wi1 := tiU2 X.K xs zs ρt c) (te := teU2 X.K xs zs y ρu nw c) hc hN hy hyl hsw hi ok hv hg (fun _ _ _ _ _ => pts_nil) (fun s H C cl fp => ⟨fun pins s' σ H' Q I ⟨q, i, d, hd, h⟩ => (hi1 i d hd q s H C cl fp).run pins s' σ H' Q I h⟩) hg1 (fun _ _ _ _ _ => pts_nil)
    (fun s H C cl fp => ⟨fun pins s' σ H' Q I ⟨q, i, j, d, e, hd, he', h⟩ => (he i j d e hd he' q s H C cl fp).run pins s' σ H' Q I h⟩) hs hs1) fun De σ H h => lc2_read htg htg1 hz σ H _ ⟨h.1, fun v H1 e1 p1 dv _ => h.2 _ H1 e1 ((h.1.mono e1 p1).set j dv)⟩
end
section
variable {X : Cx} {W : WX} {p : HD} {ρ : Rho} {c : PC} {tg : Expr}
theorem rn_lc {elt iter : Expr} {ifs : List Expr} {scope : Scope} {own : List (Str × Nat)} {xs : List D} {g : TG} {yn : Str} {py pos spos : Pos} (j : Nat) (b : Nat → Bool) (y : Nat → D) (cs cm : Nat → PC) (ρt : Nat → Rho) (nws : Nat → Bool) (hc : X.calm = true) (hN : X.N.Nodup) (hi : RI X W p ρ c tg iter xs (cs 0)) (ok : BlkOk X.N X.env.scope scope own)
    (hg : ∀ (s : Shared) (H : Hp) (C : Addr) (cl : List (Str × Addr)) (fp : List Addr), PG (X.blk s H scope (compEnvC scope cl C X.env) fp) tg g)
    (htg : ∀ i d, xs[i]? = some d → TgOk X.K g (own.map (·.2)) d (wipeR ρ (own.map (·.2))) (ρt i))
    (ht : ∀ i d, xs[i]? = some d → ∀ (q : HD) (s : Shared) (H : Hp) (C : Addr) (cl : List (Str × Addr)) (fp : List Addr), PTs (X.blk s H scope (compEnvC scope cl C X.env) fp) ifs (tT X.K Wf q (ρt i) (cs i) (.val (b i) (cm i))))
    (he : ∀ i d, xs[i]? = some d → b i = true → ∀ (q : HD) (s : Shared) (H : Hp) (C : Addr) (cl : List (Str × Addr)) (fp : List Addr), RE (X.blk s H scope (compEnvC scope cl C X.env) fp) Wf q (ρt i) (cm i) elt (.val (y i) (nws i) (cs (i + 1))))
    (hno : ∀ i d, xs[i]? = some d → b i = false → cs (i + 1) = cm i) (hz : xs.length ≤ 100000) (hy : X.N[j]? = some yn := by rfl) (hyl : X.env.scope.names.lookup yn = some .local := by rfl) (hsw : swapsWith (.ListComp elt [⟨tg, iter, ifs, 0⟩] scope pos) (some (.Name yn py)) spos.line X.env = pure true := by exact sw_true rfl rfl rfl (by decide +kernel))
    (hs : ∀ x, foldedSetIterable iter X.env x = pure x := by intro _; rfl) : RN X p ρ c (.Assign [.Name yn py] (.ListComp elt [⟨tg, iter, ifs, 0⟩] scope pos) spos) j (.lst ⟨false, true⟩ (coll b y xs.length)) (cs xs.length) :=
  ps_imp (ps_setLc (tt := ttU X.K xs b cs cm ρt) (te := teU X.K xs b y cs cm ρt nws) hc hN hy hyl hsw hi ok hg (fun s H C cl fp => ⟨fun pins s' σ H' Q I ⟨q, i, d, hd, h⟩ => (ht i d hd q s H C cl fp).run pins s' σ H' Q I h⟩)
    (fun s H C cl fp => ⟨fun pins s' σ H' Q I ⟨q, i, d, hd, hb, h⟩ => (he i d hd hb q s H C cl fp).run pins s' σ H' Q I h⟩) hs) fun De σ H h => lc_read htg hno hz σ H _ ⟨h.1, fun v H1 e1 p1 dv hn => h.2 _ H1 e1 p1 dv (hn rfl)⟩
end
end LA

namespace LA
open PySem PySem.Spec PyProof.Rows L2
/-! ### defs with default values -/
structure Def1D (P : Program) (w : World) (K : PySem.W.Frag) (mg : Str → Option Value) (base : Heap) (k : Nat) (x : Str) (ps : List Str) (R : FSpec) (dvs : List V) : Prop where
  ex : ∃ (f : Addr) (fd : FuncData) (ds : List Value), FnOk P w K mg base (L2.CX P w) k f fd ps (spF K R) ∧ mg x = some (.ref f) ∧ PySem.W.keepIn K (.ref f) = true ∧ Vals dvs ds ∧ Binds K fd ps ds
section
variable {X : Cx} {W : WX} {p : HD} {ρ : Rho} {c c1 c2 : PC} {e : Expr} {es : List Expr} {pos xp : Pos} {d : D} {nw : Bool} {k : Nat} {x : Str} {ps : List Str} {R : FSpec} {ds es' : List D} {o : EO} {dvs : List V}
theorem re_c1D (tk : Takes X W) (T : Def1D X.prog X.w X.K X.mg X.base k x ps R dvs) (hr : Room k X.A) (ha : RA X W p ρ c (e :: es) (.val ds c1)) (hd : ∀ q H, DVs X.K q H dvs es') (ho : R (ds ++ es') c1 o)
    (hg : Gl X x := by rfl) (hdb : (x == ("__debug__" : Str)) = false := by decide) (he : starEach (e :: es) X.env = (false, eval e X.env) :: starEach es X.env := by rfl) (hpl : (backTo pos (starEach es X.env)).any (·.1) = false := by rfl) :
    RE X W p ρ c (.Call (.Name x xp) (e :: es) [] pos) o := by
  obtain ⟨f, fd, us, G, hm, hk, hv, hb⟩ := T.ex
  exact pe_imp (pe_callSD G hr hg hm hk hb hv (fun σ => passAt tk σ) ha hdb he hpl) fun σ H Q h => ⟨tE_sr h, fun vs H1 e1 p1 dvs' => ⟨p, c1, ds ++ es', o, DVs.app dvs' (hd p H1), p1, ho, fo_at h e1⟩⟩
end
section
variable {P : Program} {w : World} {K : PySem.W.Frag} {mg : Str → Option Value} {base : Heap} {x qual : Str} {f : Addr} {fd : FuncData} {N ps : List Str} {k : Nat} {R : FSpec} {params : Arguments} {body : List Stmt} {scope : Scope} {dvs : List V} {kws : List (Str × V)}
theorem fn_excD (F : FunD K x qual params body scope dvs kws f fd) (S : FnScope N ps scope) (hl : ∀ ds c o, R ds c o → ds.length = ps.length)
    (bd : ∀ (cdv : Value) (A : Around) (outer : List Env) (s : Shared) (H : Hp) (E : XK), Room k (A.deeper (envOfC qual scope s.heap.objs.size f cdv)) → ∀ (p : HD) (ds : List D) (c : PC) (o : EO), R ds c o →
      Takes (cxOf (L2.CX P w) P w K mg base N qual scope f cdv A outer s H E) (fun cls d _ H => E cls d H) →
      BodyOk (cxOf (L2.CX P w) P w K mg base N qual scope f cdv A outer s H E) (fun cls d _ H => E cls d H) p (startR N ds) c body o) : FnOk P w K mg base (L2.CX P w) (k + 1) f fd ps (spF K R) := by
  refine F.ok S (fun vs H Q E h => spF_len hl h) (fun cdv A outer s H vs Q E hr h => ?_)
  obtain ⟨p, c, ds, o, h1, h2, h3, h4⟩ := h
  have b := bd cdv A outer s H E hr p ds c o h3 (takes_of rfl rfl rfl rfl)
  cases o with
  | val d nw c' =>
    rcases b with b | ⟨rfl, ρ', b⟩
    · exact ⟨_, b, sr_start h1 h2, fun v H1 e1 p1 dv hn => h4 v H1 e1 p1 dv hn⟩
    · exact ⟨_, b, sr_start h1 h2, fun σ' H1 e1 s1 => h4 .non H1 e1 s1.pl .non fun _ => New.sc (by intro a q; cases q)⟩
  | ex C fs c' => exact ⟨_, b, sr_start h1 h2, fun ρ' dx fv σ' H1 e1 s1 _ hx hf => h4 dx fv H1 e1 s1.pl hx hf⟩
end
end LA

namespace LA
open PySem PySem.Spec PyProof.Rows L2
section
variable {X : Cx} {W : WX} {p : HD} {ρ ρ' : Rho} {c c1 : PC} {e a : Expr} {pos : Pos} {d : D} {nw k : Bool} {K : PySem.W.Frag}
theorem re_not (h : RE X W p ρ c a (.val (.bl k) nw c1)) : RE X W p ρ c (.UnaryOp .Not a pos) (.val (.bl (!k)) true c1) :=
  pe_imp (pe_not h) fun σ H Q ⟨s, kk⟩ => ⟨s, fun v H1 e1 p1 dv _ => by
    cases dv
    exact ⟨k, rfl, kk _ H1 e1 p1 (.bl _) fun _ => New.sc (by intro a h; cases h)⟩⟩
theorem ov_neB {i j : Bool} : OV K p rNe (.bl i) (.bl j) (.bl (!decide (i = j))) true c := by
  have h := ov_neS (K := K) (p := p) (c := c) (x := .bl i) (y := .bl j) rfl rfl rfl
  rw [dec_v (f := V.bl) fun x y e => by cases e; rfl] at h
  exact h
/-! lists added, repeated -/
theorem ov_cat {g1 g2 : G} {xs ys : List D} (h1 : g1.t = true) (h2 : g2.t = true) (hz : xs.length + ys.length ≤ 100000) : OV K p rCat (.lst g1 xs) (.lst g2 ys) (.lst ⟨false, true⟩ (xs ++ ys)) true c := fun v u H Q dv du hp k => by
  cases dv with
  | lst hb hq r =>
    cases du with
    | lst hb2 hq2 r2 =>
      refine ⟨_, _, _, _, rfl, rfl, (hide_some (hb.2 h1)).1, (hide_some (hb2.2 h2)).1, by rw [r.length, r2.length]; exact sz_le hz, fun q hn => ?_⟩
      exact k _ _ (Ext.new hn) (hp.upd hn) (.lst ⟨(fun z => nomatch z), fun _ => hide_upd hp hn⟩ (.inl (.inl (hide_upd hp hn))) ((r.mono (Ext.new hn)).app (r2.mono (Ext.new hn)))) fun _ => New.lst hp hn (r.app r2)
theorem dvs_rep {H : Hp} {us : List V} {ds : List D} (h : DVs K p H us ds) : ∀ n : Nat, DVs K p H (List.replicate n us).flatten (List.replicate n ds).flatten
  | 0 => .nil
  | n + 1 => by
    rw [List.replicate_succ, List.replicate_succ, List.flatten_cons, List.flatten_cons]
    exact h.app (dvs_rep h n)
theorem ov_rep {g1 : G} {xs : List D} {n : Int} (h1 : g1.t = true) (hn0 : -100000 ≤ n) (hn1 : n ≤ 100000) (hz : xs.length * n.toNat ≤ 100000) : OV K p L2.rRep (.lst g1 xs) (.int n) (.lst ⟨false, true⟩ (List.replicate n.toNat xs).flatten) true c := fun v u H Q dv du hp k => by
  cases du
  cases dv with
  | lst hb hq r =>
    have e1 : (-(2 ^ 63) : Int) = -9223372036854775808 := by decide
    have e2 : (2 ^ 63 : Int) = 9223372036854775808 := by decide
    refine ⟨_, n, _, rfl, rfl, (hide_some (hb.2 h1)).1, by omega, by omega, by rw [r.length]; exact sz_le hz, fun q hn => ?_⟩
    exact k _ _ (Ext.new hn) (hp.upd hn) (.lst ⟨(fun z => nomatch z), fun _ => hide_upd hp hn⟩ (.inl (.inl (hide_upd hp hn))) ((dvs_rep r _).mono (Ext.new hn))) fun _ => New.lst hp hn (dvs_rep r _)
end
/-! isinstance -/
def isIntD : D → Bool
  | .int _ => true
  | .bl _ => true
  | _ => false
def isBlD : D → Bool
  | .bl _ => true
  | _ => false
theorem isi_int {d : D} {t : String} (h : tyD d = some t) : kitB t "int" = some (isIntD d) := by
  cases d <;> first | (cases h; done) | (cases h; first | exact (show kitB _ "int" = some false by decide +kernel) | exact (show kitB _ "int" = some true by decide +kernel))
theorem isi_bool {d : D} {t : String} (h : tyD d = some t) : kitB t "bool" = some (isBlD d) := by
  cases d <;> first | (cases h; done) | (cases h; first | exact (show kitB _ "bool" = some false by decide +kernel) | exact (show kitB _ "bool" = some true by decide +kernel))
/-! ### collected lists, more -/
theorem range_get {α : Type} (l : List Nat) (f : Nat → α) : (List.range l.length).map (fun i => f (l.getD i 0)) = l.map f := by
  refine List.ext_getElem? fun i => ?_
  by_cases hi : i < l.length
  · simp [hi, List.getElem?_range]
  · simp [hi]
theorem all_get (l : List Nat) (f : Nat → Bool) : ((List.range l.length).all fun i => f (l.getD i 0)) = l.all f := by
  have h := congrArg (fun x : List Bool => x.all id) (range_get l f)
  rw [List.all_map, List.all_map] at h
  exact h
theorem coll_none (b : Nat → Bool) (y : Nat → D) (n : Nat) : (coll b y n).isEmpty = (List.range n).all fun i => !b i := by
  rw [coll_some, List.isEmpty_map]
  induction (List.range n) with
  | nil => rfl
  | cons a r ih =>
    rw [List.filter_cons, List.all_cons]
    cases b a <;> simp [ih]
theorem coll_congr {b b' : Nat → Bool} {y : Nat → D} : ∀ {n : Nat}, (∀ i, i < n → b i = b' i) → coll b y n = coll b' y n
  | 0, _ => rfl
  | n + 1, h => by
    show coll b y n ++ (if b n then [y n] else []) = coll b' y n ++ (if b' n then [y n] else [])
    rw [coll_congr fun i hi => h i (by omega), h n (by omega)]
theorem ints_flat (b : Nat → Bool) (n : Nat) : (coll b (fun i => D.int (i : Nat)) n).all flatOk = true := by
  rw [coll_some, List.all_map, List.all_eq_true]
  intro i _
  rfl
/-! ### what raises within arguments -/
section
variable {X : Cx} {W : WX} {p : HD} {ρ : Rho} {c c1 : PC} {e : Expr} {es : List Expr} {pos ps : Pos} {C : Addr} {fs : List (Str × D)} {nw : Bool} {g : G} {xs : List D}
theorem ra_ex (h : RE X W p ρ c e (.ex C fs c1)) (hs : starEach (e :: es) X.env = (false, eval e X.env) :: starEach es X.env := by rfl) : RA X W p ρ c (e :: es) (.ex C fs c1) :=
  pa_imp (pa_cons h (⟨fun _ _ _ _ _ _ _ z => z.elim⟩ : PA X es (fun _ _ _ => False)) hs) fun σ H Q h => h
theorem re_callBX {id : String} {x : Str} {r : List V → Hp → VK → Prop} (hc : CallR X (.builtin id) r) (hm : X.mg x = none) (hv : bootBuiltins x = some (.builtin id)) (ha : RA X W p ρ c (e :: es) (.ex C fs c1))
    (hg : Gl X x := by rfl) (hn : x ≠ "__name__" := by decide) (hdb : (x == ("__debug__" : Str)) = false := by decide)
    (he : starEach (e :: es) X.env = (false, eval e X.env) :: starEach es X.env := by rfl) (hpl : (backTo pos (starEach es X.env)).any (·.1) = false := by rfl) : RE X W p ρ c (.Call (.Name x ps) (e :: es) [] pos) (.ex C fs c1) :=
  pe_imp (pe_callB hc hg hm hv ha hn hdb he hpl) fun σ H Q h => h
/-- a list of which no more is told than that it may be written -/
theorem re_dull (h : RE X W p ρ c e (.val (.lst g xs) nw c1)) : RE X W p ρ c e (.val (.lst ⟨false, g.t⟩ xs) nw c1) := pe_imp h fun σ H Q ⟨s, k⟩ => ⟨s, fun v H1 e1 p1 dv hn => k v H1 e1 p1 (by
  cases dv with
  | lst hb hq r => exact .lst ⟨(fun z => nomatch z), hb.2⟩ hq r) fun q => (hn q).g⟩
end
/-! ### defs whose guards are in view -/
structure FnG (P : Program) (w : World) (K : PySem.W.Frag) (mg : Str → Option Value) (base : Heap) (k : Nat) (f : Addr) (fd : FuncData) (ps : List Str) (sp : Sp) : Prop where
  len : ∀ (vs : List V) (Hs : Hp) (R : VK) (Ex : XK), sp vs Hs R Ex → vs.length = ps.length
  run : ∀ (pl : Around) (up : List Env) (sh : Shared) (Hs : Hp) (ag : Args) (us : List Value) (vs : List V) (R : VK), pl.guards = some [] → Room k pl → Env0 P w K mg base pl up sh Hs → BindsTo sh fd ag (ps.zip us) → Vals vs us → sp vs Hs R E0 →
    codeAny (model P w) pl (.call (.ref f) ag) (CR CX0 up P w Hs sh R E0) sh
structure DefG (P : Program) (w : World) (K : PySem.W.Frag) (mg : Str → Option Value) (base : Heap) (k : Nat) (x : Str) (ps : List Str) (R : FSpec) : Prop where
  ex : ∃ (f : Addr) (fd : FuncData), FnG P w K mg base k f fd ps (spF K R) ∧ mg x = some (.ref f) ∧ PySem.W.keepIn K (.ref f) = true ∧ Binds K fd ps []
section
variable {P : Program} {w : World} {K : PySem.W.Frag} {mg : Str → Option Value} {base : Heap} {x qual : Str} {st : Stmt} {f : Addr} {fd : FuncData} {N ps : List Str} {k : Nat} {R : FSpec}
theorem fn_g (F : Fun K x qual st f fd) (S : FnScope N ps (defScope st)) (hl : ∀ ds c o, R ds c o → ds.length = ps.length) (hv : ∀ ds c o, R ds c o → ∃ d nw c', o = .val d nw c')
    (body : ∀ (cdv : Value) (A : Around) (outer : List Env) (s : Shared) (H : Hp), A.guards = some [] → Room k (A.deeper (envOfC qual (defScope st) s.heap.objs.size f cdv)) → ∀ (p : HD) (ds : List D) (c : PC) (o : EO), R ds c o →
      BodyOk (cxOf CX0 P w K mg base N qual (defScope st) f cdv A outer s H E0).nox Wf p (startR N ds) c (defBody st) o) : FnG P w K mg base (k + 1) f fd ps (spF K R) := by
  refine ⟨fun vs Hs Q Ex h => spF_len hl h, fun pl up sh Hs ag us vs Q gu room e0 bind rv h => ?_⟩
  refine call_at F S room e0 bind rv (spF_len hl h) fun cdv hr => ?_
  obtain ⟨p, c, ds, o, h1, h2, h3, h4⟩ := h
  have b := body cdv pl up sh Hs gu hr p ds c o h3
  obtain ⟨d, nw, c', rfl⟩ := hv _ _ _ h3
  rcases b with b | ⟨rfl, ρ', b⟩
  · exact ⟨_, b.nox, sr_start h1 h2, fun v H1 e1 p1 dv hn => h4 v H1 e1 p1 dv hn⟩
  · exact ⟨_, b.nox, sr_start h1 h2, fun σ' H1 e1 s1 => h4 .non H1 e1 s1.pl .non fun _ => New.sc (by intro a q; cases q)⟩
end
section
variable {X : Cx} {W : WX} {p : HD} {ρ : Rho} {c c1 c2 : PC} {e : Expr} {es : List Expr} {pos xp : Pos} {d : D} {nw : Bool} {k : Nat} {x : Str} {ps : List Str} {R : FSpec} {ds : List D}
theorem re_cG (T : DefG X.prog X.w X.K X.mg X.base k x ps R) (hr : Room k X.A) (gu : X.A.guards = some []) (ha : RA X W p ρ c (e :: es) (.val ds c1)) (ho : R ds c1 (.val d nw c2))
    (hg : Gl X x := by rfl) (hdb : (x == ("__debug__" : Str)) = false := by decide) (he : starEach (e :: es) X.env = (false, eval e X.env) :: starEach es X.env := by rfl) (hpl : (backTo pos (starEach es X.env)).any (·.1) = false := by rfl) :
    RE X W p ρ c (.Call (.Name x xp) (e :: es) [] pos) (.val d nw c2) := by
  obtain ⟨f, fd, F, hm, hk, hb⟩ := T.ex
  have P1 : PE X (.Call (.Name x xp) (e :: es) [] pos) (fun σ H Q => tA X.K W p ρ c (.val ds c1) σ H fun vs H1 => spF X.K R vs H1 Q E0) := by
    refine ⟨fun pins s σ H Q I h => ?_⟩
    refine wpAny_Call_Name_kw (ld_glob I hg hm ?_ hdb)
    refine PySem.W.callWith_K (h₀ := X.base) I.ok.mod.kin hk (thn (ha.run pos pins s σ H _ I h) fun us sh ⟨vs, H1, I1, r, q⟩ => ⟨I1.kIn, ?_⟩) he hpl
    have bd := hb sh us I1.kIn (by rw [List.append_nil, ← r.length]; exact F.len _ _ _ _ q)
    rw [List.append_nil] at bd
    refine wpAny_call (codeAny_mono (F.run X.A X.stack sh H1 ⟨us, []⟩ us vs Q gu hr I1.env0 bd r q) fun rs s' hq => ?_)
    cases rs with
    | error ev =>
      exact False.elim hq
    | ok fl =>
      cases fl with
      | ret u => exact I1.after hq
      | next => exact False.elim hq
      | brk => exact False.elim hq
      | cont => exact False.elim hq
  exact pe_imp P1 fun σ H Q ⟨s, kk⟩ => ⟨s, fun vs H1 e1 p1 dvs => ⟨p, c1, ds, .val d nw c2, dvs, p1, ho, fun v H2 e2 p2 dv hn => kk v H2 (e1.trans e2) p2 dv fun q => (hn q).back e1⟩⟩
end
section
variable {X : Cx} {W : WX} {p : HD} {ρ : Rho} {c c1 c2 : PC} {a b cc : Expr} {pos : Pos} {d1 d2 d3 : D} {n1 n2 n3 : Bool}
theorem rt_chain {op op' : CmpOp} {r r' : R2} {k1 k2 : Bool} (ho : OpR X (compareOp op) r) (ho' : OpR X (compareOp op') r') (ha : RE X W p ρ c a (.val d1 n1 c1)) (hb : RE X W p ρ c1 b (.val d2 n2 c2)) (hc : RE X W p ρ c2 cc (.val d3 n3 c2)) (h1 : OV X.K p r d1 d2 (.bl k1) true c2) (h2 : OV X.K p r' d2 d3 (.bl k2) true c2)
    (hm : lastMarks [op, op'] [b, cc] = false := by with_unfolding_all rfl) : RT X W p ρ c (.Compare a [op, op'] [b, cc] pos) (.val (k1 && k2) c2) :=
  pt_imp (pt_chain ho ho' ha hb hc hm) fun σ H Q ⟨s, k⟩ => ⟨s, fun v H1 e1 p1 dv _ => ⟨s.mono e1 p1, fun u H2 e2 p2 du _ => h1 v u H2 _ (dv.mono e2) du p2 fun w H3 e3 p3 dw _ => by
    cases dw
    refine ⟨k1, rfl, ?_⟩
    have e13 : Ext p H H3 := (e1.trans e2).trans e3
    cases k1 with
    | false => exact iteF ⟨false, rfl, k H3 e13 p3⟩
    | true => exact iteT ⟨s.mono e13 p3, fun w H4 e4 p4 dw _ => h2 u w H4 _ (du.mono (e3.trans e4)) dw p4 fun z H5 e5 p5 dz _ => by
        cases dz
        exact ⟨k2, rfl, k H5 ((e13.trans e4).trans e5) p5⟩⟩⟩⟩
end
/-! ### longer lists shown -/
theorem sz_big {d : PyData} (h1 : d.canLay0 = true) (h2 : PyData.intsShort 13 d = true) (h3 : d.weight ≤ 1000000) : d.shown.length ≤ sizeLine := by
  have h := PyData.shown_le 13 (by decide) d (PyData.leavesShort_of_canLay0 13 d h1 h2)
  have e : sizeLine = 16777216 := by decide
  omega
theorem shows_big {g : G} {ds : List D} (h : ds.all smallD = true) (hl : ds.length ≤ 5000) : Shows (.lst g ds) := by
  obtain ⟨b1, b2, b3, b4, b5, b6, b7⟩ := small_all h
  refine ⟨?_, ?_, ?_, sz_big ?_ ?_ ?_⟩
  · unfold toPy PyData.hasDict okD
    rw [b7, b1]
    simp
  · unfold toPy PyData.showable
    exact b2
  · unfold toPy PyData.depth
    omega
  · unfold toPy PyData.canLay0
    exact b3
  · unfold toPy PyData.intsShort
    exact b4
  · unfold toPy PyData.weight
    omega
theorem small_text {l : List Nat} (hl : l.length ≤ 100) (h : ∀ n ∈ l, n < 0x110000) : smallD (.str (tx l)) = true := by
  have ok : PyData.strOk (tx l) = true := by
    unfold PyData.strOk
    rw [← Array.all_toList, tx_list, List.all_eq_true]
    intro n hn
    exact decide_eq_true (h n hn)
  show (PyData.strOk (tx l) && decide ((tx l).length ≤ 100)) = true
  rw [ok, tx_len, decide_eq_true hl]
  rfl
end LA

namespace LA
open PySem PySem.Spec PyProof.Rows L2
/-! ### slices -/
section
variable {X : Cx} {W : WX} {p : HD} {ρ : Rho} {c c1 c2 c3 : PC} {e : Expr} {lo hi : Option Expr} {pos p2 : Pos} {n1 n2 nw : Bool} {i : Int} {ol oh : Option Int} {K : PySem.W.Frag} {g : G} {xs : List D}
def tPt (K : PySem.W.Frag) (p : HD) (ρ : Rho) (c : PC) (oi : Option Int) (c' : PC) : L2.TO := fun σ H R => SR K p H σ ρ c ∧ ∀ H', Ext p H H' → PoolAt K p H' c' → R oi H'
abbrev RP (X : Cx) (p : HD) (ρ : Rho) (c : PC) (o : Option Expr) (oi : Option Int) (c' : PC) : Prop := PO X o (tPt X.K p ρ c oi c')
theorem po_imp {o : Option Expr} {t t' : L2.TO} (h : PO X o t) (w : ∀ σ H Q, t' σ H Q → t σ H Q) : PO X o t' := ⟨fun pins s σ H Q I q => h.run pins s σ H Q I (w σ H Q q)⟩
theorem rp_none : RP X p ρ c none none c := po_imp po_none fun σ H R ⟨s, k⟩ => k H (Ext.refl _ _) s.pl
theorem rp_some (h : RE X W p ρ c e (.val (.int i) nw c1)) : RP X p ρ c (some e) (some i) c1 := po_imp (po_some h) fun σ H R ⟨s, k⟩ => ⟨s, fun v H1 e1 p1 dv _ => by
  cases dv
  exact ⟨i, rfl, k H1 e1 p1⟩⟩
theorem re_slS {z : Str} (he : RE X W p ρ c e (.val (.str z) n1 c1)) (hl : RP X p ρ c1 lo ol c2) (hh : RP X p ρ c2 hi oh c3) (hz : z.length ≤ sizeLine) : RE X W p ρ c (.Subscript e (.Slice lo hi none p2) pos) (.val (.str (cutS z ol oh)) true c3) :=
  pe_imp (pe_slice sl_str he hl hh) fun σ H Q ⟨s, k⟩ => ⟨s, fun v H1 e1 p1 dv _ => ⟨s.mono e1 p1, fun H2 e2 q2 => ⟨s.mono (e1.trans e2) q2, fun H3 e3 q3 => by
    cases dv
    exact ⟨z, rfl, hz, k _ H3 ((e1.trans e2).trans e3) q3 (.str _) fun _ => New.sc (by intro a h; cases h)⟩⟩⟩⟩
def cutD (xs : List D) (lo hi : Option Int) : List D := (xs.drop (HT.sIx xs.length 0 lo)).take (HT.sIx xs.length xs.length hi - HT.sIx xs.length 0 lo)
theorem dvs_drop {H : Hp} : ∀ (n : Nat) {us : List V} {ds : List D}, DVs K p H us ds → DVs K p H (us.drop n) (ds.drop n)
  | 0, _, _, h => h
  | n + 1, _, _, .nil => .nil
  | n + 1, _, _, .cons _ r => dvs_drop n r
theorem dvs_take {H : Hp} : ∀ (n : Nat) {us : List V} {ds : List D}, DVs K p H us ds → DVs K p H (us.take n) (ds.take n)
  | 0, _, _, _ => by simp only [List.take_zero]; exact .nil
  | n + 1, _, _, .nil => .nil
  | n + 1, _, _, .cons h r => .cons h (dvs_take n r)
theorem re_slL (he : RE X W p ρ c e (.val (.lst g xs) n1 c1)) (hl : RP X p ρ c1 lo ol c2) (hh : RP X p ρ c2 hi oh c3) : RE X W p ρ c (.Subscript e (.Slice lo hi none p2) pos) (.val (.lst ⟨false, true⟩ (cutD xs ol oh)) true c3) :=
  pe_imp (pe_slice sl_list he hl hh) fun σ H Q ⟨s, k⟩ => ⟨s, fun v H1 e1 p1 dv _ => ⟨s.mono e1 p1, fun H2 e2 q2 => ⟨s.mono (e1.trans e2) q2, fun H3 e3 q3 => by
    cases (dv.mono e2).mono e3 with
    | @lst a0 ys _ _ hb hq r =>
      refine ⟨_, _, rfl, un_sqL hq, fun a na => ?_⟩
      have e4 := (e1.trans e2).trans e3
      have key : DVs X.K p H3 (cutV ys ol oh) (cutD xs ol oh) := by
        unfold cutV cutD
        rw [r.length]
        exact dvs_take _ (dvs_drop _ r)
      exact k _ _ (e4.trans (Ext.new na)) (q3.upd na) (.lst ⟨(fun z => nomatch z), fun _ => hide_upd q3 na⟩ (.inl (.inl (hide_upd q3 na))) (key.mono (Ext.new na))) fun _ => (New.lst q3 na key).back e4⟩⟩⟩
end
/-! ### texts and numbers, tuples of lists -/
section
variable {K : PySem.W.Frag} {p : HD} {c : PC}
theorem cv_strI {i : Int} (h : i.natAbs.log2 < 1920) : CV K p (fun xs H Q => ∃ i, xs = [.int i] ∧ i.natAbs.log2 < 1920 ∧ Q (.str (toString i)) H) [.int i] (.str (toString i)) true c := fun vs H Q dvs hp k => by
  cases dvs with
  | cons h1 r =>
    cases r
    cases h1
    exact ⟨i, rfl, h, k _ H (Ext.refl p H) hp (.str _) fun _ => New.sc (by intro a h; cases h)⟩
theorem cv_intS {z : Str} {n : Int} (h : PySem.intText? z = some n) (hz : z.length ≤ 640) : CV K p (fun xs H Q => ∃ a n, xs = [.str a] ∧ PySem.intText? a = some n ∧ a.length ≤ 640 ∧ Q (.int n) H) [.str z] (.int n) true c := fun vs H Q dvs hp k => by
  cases dvs with
  | cons h1 r =>
    cases r
    cases h1
    exact ⟨z, n, rfl, h, hz, k _ H (Ext.refl p H) hp (.int _) fun _ => New.sc (by intro a h; cases h)⟩
theorem cv_tupL {g : G} {xs : List D} : CV K p (fun xs H Q => ∃ p ys, xs = [.ref p] ∧ ((SqL K H p ys ∧ ∀ l, H l = none → Q (.ref l) (upd H l (.tup ys))) ∨ (SqT K H p ys ∧ Q (.ref p) H))) [.lst g xs] (.tup xs) true c := fun vs H Q dvs hp k => by
  cases dvs with
  | cons h1 r =>
    cases r
    cases h1 with
    | lst hb hq ha =>
      exact ⟨_, _, rfl, .inl ⟨un_sqL hq, fun l nl => k _ _ (Ext.new nl) (hp.upd nl) (.tup (.inl (.inl (hide_upd hp nl))) (ha.mono (Ext.new nl))) fun _ => New.oth hp nl (by intro _ _ z; cases z)⟩⟩
/-- x in a list of flat items -/
theorem ov_inL {g : G} {x : D} {ds : List D} {v : V} {xs : List V} {neg : Bool} (hx : scD x = some v) (hs : ds.map scD = xs.map some) (fx : flatV v = true) (fs : xs.all flatV = true) :
    OV K p (rIn K neg) x (.lst g ds) (.bl (if neg then !inV v xs else inV v xs)) true c := fun v' u' H Q dv du hp k => by
  have e1 := dv_sc dv hx
  subst e1
  cases du with
  | lst hb h r =>
    have e2 := dvs_sc r hs
    subst e2
    exact ⟨_, _, rfl, .inl (un_sqL h), fx, fs, k _ H (Ext.refl p H) hp (.bl _) fun _ => New.sc (by intro a h; cases h)⟩
end
end LA
namespace LA
open PySem PySem.Spec PyProof.Rows L2
/-! ### isinstance by one of two types -/
section
variable {X : Cx} {W : WX} {p : HD} {ρ : Rho} {c c1 : PC} {e : Expr} {pos ps tp q1 q2 : Pos} {d : D} {nw b : Bool} {x1 x2 : Str} {t1 t2 t : String} {kk : Nat}
theorem re_isiT (hm : X.mg "isinstance" = none) (he : RE X W p ρ c e (.val d nw c1)) (h1 : X.mg x1 = none) (h2 : X.mg x2 = none) (b1 : bootBuiltins x1 = some (.type t1)) (b2 : bootBuiltins x2 = some (.type t2)) (ht : tyD d = some t) (hk : PySem.W.kitAny X.K (.type t) [.type t1, .type t2] = some b)
    (hg : Gl X "isinstance" := by rfl) (g1 : Gl X x1 := by rfl) (g2 : Gl X x2 := by rfl) (n1 : x1 ≠ "__name__" := by decide) (n2 : x2 ≠ "__name__" := by decide) (z1 : (x1 == ("__debug__" : Str)) = false := by decide) (z2 : (x2 == ("__debug__" : Str)) = false := by decide)
    (s0 : starEach [e, .Tuple [.Name x1 q1, .Name x2 q2] kk tp] X.env = (false, eval e X.env) :: starEach [.Tuple [.Name x1 q1, .Name x2 q2] kk tp] X.env := by rfl) (s1 : starEach [.Tuple [.Name x1 q1, .Name x2 q2] kk tp] X.env = (false, eval (.Tuple [.Name x1 q1, .Name x2 q2] kk tp) X.env) :: starEach [] X.env := by rfl)
    (s2 : starEach [.Name x1 q1, .Name x2 q2] X.env = (false, eval (.Name x1 q1) X.env) :: starEach [.Name x2 q2] X.env := by rfl) (s3 : starEach [.Name x2 q2] X.env = (false, eval (.Name x2 q2) X.env) :: starEach [] X.env := by rfl) (hpl : (backTo pos (starEach [.Tuple [.Name x1 q1, .Name x2 q2] kk tp] X.env)).any (·.1) = false := by rfl) :
    RE X W p ρ c (.Call (.Name "isinstance" ps) [e, .Tuple [.Name x1 q1, .Name x2 q2] kk tp] [] pos) (.val (.bl b) true c1) :=
  pe_imp (pe_callB call_isiT hg hm PyProof.Rows.boot_isinstance (pa_cons he (pa_cons (pe_tup (pa_cons (pe_bltn (v := .ty t1) g1 h1 b1 rfl n1 z1) (pa_cons (pe_bltn (v := .ty t2) g2 h2 b2 rfl n2 z2) (pa_nil (X := X)) s3) s2)) (pa_nil (X := X)) s1) s0) (by decide) (by decide) s0 hpl) fun σ H Q ⟨s, k⟩ => ⟨s, fun v H1 e1 p1 dv _ => ⟨by show 2 ≤ sizeLine; decide, fun a na =>
    ⟨v, a, _, _, _, b, rfl, upd_same, .cons (.ty t1) (.cons (.ty t2) .nil), tyx_of (dv.mono (Ext.new na)) ht, hk, k _ _ (e1.trans (Ext.new na)) (p1.upd na) (.bl b) fun _ => New.sc (by intro a h; cases h)⟩⟩⟩
end
end LA

namespace LA
open PySem PySem.Spec PyProof.Rows L2
/-! ### how many different ints -/
def difN (ns : List Int) (i : Nat) : Nat := (firstMet (fun i => ns.getD i 0) i).length
def dupAt (ns : List Int) (k : Nat) : Bool := (List.range k).any fun j => ns.getD j 0 == ns.getD k 0
theorem any_mem {l : List Int} {k : Int} : l.any (· == k) = true ↔ k ∈ l := by
  rw [List.any_eq_true]
  constructor
  · rintro ⟨x, h1, h2⟩
    rw [← eq_of_beq h2]
    exact h1
  · intro h
    exact ⟨k, h, beq_self_eq_true k⟩
theorem dif_succ (ns : List Int) (i : Nat) : difN ns (i + 1) = difN ns i + if dupAt ns i then 0 else 1 := by
  unfold difN
  rw [firstMet_succ]
  unfold step_dedup
  have e : (firstMet (fun i => ns.getD i 0) i).any (· == ns.getD i 0) = dupAt ns i := by
    rw [firstMet_any, List.any_map]
    rfl
  cases h : dupAt ns i with
  | true =>
    rw [h] at e
    rw [if_pos e]
    simp
  | false =>
    rw [h] at e
    rw [if_neg (by rw [e]; exact Bool.false_ne_true), List.length_append]
    simp
theorem dif_le (ns : List Int) (i : Nat) : difN ns i ≤ i := firstMet_length_le _ i
theorem dif_eq (ns : List Int) : ∀ i, difN ns i = i ↔ ∀ k, k < i → dupAt ns k = false
  | 0 => ⟨fun _ k h => absurd h (Nat.not_lt_zero k), fun _ => rfl⟩
  | i + 1 => by
    have ih := dif_eq ns i
    have le := dif_le ns i
    rw [dif_succ]
    constructor
    · intro h k hk
      by_cases hd : dupAt ns i = true
      · rw [if_pos hd] at h
        omega
      · rw [if_neg hd] at h
        by_cases e : k = i
        · rw [e]
          exact Bool.eq_false_iff.mpr hd
        · exact ih.mp (by omega) k (by omega)
    · intro h
      have h1 := ih.mpr fun k hk => h k (by omega)
      have h2 := h i (by omega)
      rw [h2, h1]
      rfl
theorem first_nodup (val : Nat → Int) : ∀ i, (firstMet val i).Nodup
  | 0 => List.nodup_nil
  | i + 1 => by
    rw [firstMet_succ]
    unfold step_dedup
    split
    · exact first_nodup val i
    · rename_i h
      rw [List.nodup_append]
      refine ⟨first_nodup val i, by simp, fun x hx y hy => ?_⟩
      rw [List.mem_singleton.mp hy]
      intro z
      exact h (any_mem.mpr (by rw [← z]; exact hx))
theorem first_mem {ns : List Int} {k : Int} : k ∈ firstMet (fun i => ns.getD i 0) ns.length ↔ k ∈ ns := by
  rw [← any_mem, firstMet_any, any_mem]
  have e : (List.range ns.length).map (fun i => ns.getD i 0) = ns := by
    refine List.ext_getElem? fun i => ?_
    by_cases hi : i < ns.length
    · rw [List.getElem?_map, List.getElem?_range hi, List.getElem?_eq_getElem hi]
      show some (ns.getD i 0) = _
      rw [List.getD_eq_getElem?_getD, List.getElem?_eq_getElem hi]
      rfl
    · rw [List.getElem?_eq_none (by simpa using hi), List.getElem?_eq_none (by omega)]
  rw [e]
section
variable {X : Cx} {W : WX} {p : HD} {ρ : Rho} {c c1 : PC} {a e tg : Expr} {pos p1 p2 q : Pos} {d : D} {nw : Bool} {ns : List Int} {K : PySem.W.Frag}
theorem of_ints {H : Hp} : ∀ {vs : List V} {ns : List Int}, DVs K p H vs (ns.map D.int) → vs = ns.map V.int
  | _, [], .nil => rfl
  | _, n :: r, .cons h t => by
    cases h
    rw [of_ints t]
    rfl
def isSeqOf (d : D) (ds : List D) : Prop := (∃ g, d = .lst g ds) ∨ d = .tup ds
def tLenSet (K : PySem.W.Frag) (ta : TE) : TE := fun σ H Q => ta σ H fun x H1 => ∃ (l : Addr) (ns : List Int), x = V.ref l ∧ (SqL K H1 l (ns.map V.int) ∨ SqT K H1 l (ns.map V.int)) ∧ ns.length < 64 ∧ Q (.int (difN ns ns.length : Nat)) H1
theorem pe_lenSet' {ta : TE} (hc : X.calm = true) (hg : Gl X "len") (hm : X.mg "len" = none) (hg2 : Gl X "set") (hm2 : X.mg "set" = none) (ha : PE X a ta)
    (na : starEach [a] X.env = (false, eval a X.env) :: starEach [] X.env := by rfl) : PE X (.Call (.Name "len" p1) [.Call (.Name "set" p2) [a] [] q] [] pos) (tLenSet X.K ta) := by
  refine ⟨fun pins s σ H Q I h => ?_⟩
  refine Call_ (ld_blt I hg hm PySem.boot_len ?_)
  refine PyProof.Rows.callWith_builtin1 (PyProof.Rows.args_cons ?_ rfl) rfl rfl
  refine Call_ (ld_blt I hg2 hm2 PyProof.Rows.boot_set ?_)
  refine PyProof.Rows.callWith_type1 (PyProof.Rows.args_cons (thn (ha.run pins s σ H _ I h) fun v s1 ⟨x, H1, I1, r1, q1⟩ => PyProof.Rows.args_nil ?_) na) na rfl
  obtain ⟨l, ns, rfl, hq, h1, q1⟩ := q1
  cases r1
  rcases hq with hq | hq
  · obtain ⟨its, r, pl, hz⟩ := I1.list hq
    have hl : its.toArray.size = ns.length := by rw [List.size_toArray, ← r.length, List.length_map]
    refine call_set_list (I1.ok.hd hc) pl.isList (ns := ns) (by simpa using r.ints) (by unfold scanBound; omega) fun h' tk hS hk => ?_
    rw [hl] at hS
    refine PyProof.Rows.args_nil ?_
    obtain ⟨o, es, ep, t, ho, hex, hd, _, _, _, hf, hn⟩ := hS
    have I2 : Inv X pins σ H1 { s1 with heap := h', toks := tk } := I1.kept fun b o e => hk b o (Heap.lt_size e) e
    have hn' : es.size = difN ns ns.length := hn
    have hle := dif_le ns ns.length
    refine call_len_set ho hex hd hf (by omega) ⟨.int (difN ns ns.length : Nat), H1, I2.tok _, ⟨_, by rw [hn']⟩, q1⟩
  · obtain ⟨its, rv, pt, hz⟩ := I1.tuple hq
    have hi : IntsAre its.toArray.toList ns := ints_of_vals rv
    have hd := I1.ok.hd hc
    refine call_set_tupI ns hd (show s1.heap.IsTuple l its.toArray from pt) hi (by unfold scanBound; omega) fun h' tk c R1 hcn k => ?_
    refine PyProof.Rows.args_nil ?_
    obtain ⟨o, es, ep, t, ho, hex, hdt, g, nd, hm3, hb, hf, hn, hr, hl2⟩ := R1
    have I2 : Inv X pins σ H1 { s1 with heap := h', toks := tk } := I1.kept fun b o e => k b o e
    have hn' : es.size = difN ns ns.length := by
      have pm : (es.toList.map keyOf).Perm (firstMet (fun i => ns.getD i 0) ns.length) := (List.perm_ext_iff_of_nodup nd (first_nodup _ _)).mpr fun k => by
        rw [first_mem, ← hm3 k, decide_eq_true_eq]
      have := pm.length_eq
      rw [List.length_map, Array.length_toList] at this
      exact this
    have hle := dif_le ns ns.length
    refine call_len_set ho hex hdt hf (by omega) ⟨.int (difN ns ns.length : Nat), H1, I2.tok _, ⟨_, by rw [hn']⟩, q1⟩
theorem re_lenSet (hc : X.calm = true) (hm : X.mg "len" = none) (hm2 : X.mg "set" = none) (ha : RE X W p ρ c a (.val d nw c1)) (hd : isSeqOf d (ns.map D.int)) (hl : ns.length < 64) {m : Nat} (hlm : ns.length = m) (hg : Gl X "len" := by rfl) (hg2 : Gl X "set" := by rfl)
    (na : starEach [a] X.env = (false, eval a X.env) :: starEach [] X.env := by rfl) : RE X W p ρ c (.Call (.Name "len" p1) [.Call (.Name "set" p2) [a] [] q] [] pos) (.val (.int (difN ns m : Nat)) true c1) := by
  subst hlm
  exact pe_imp (pe_lenSet' hc hg hm hg2 hm2 ha na) fun σ H Q ⟨s, k⟩ => ⟨s, fun v H1 e1 p1 dv _ => by
    have kk := k (.int (difN ns ns.length : Nat)) H1 e1 p1 (.int _) fun _ => New.sc (by intro a h; cases h)
    rcases hd with ⟨g, rfl⟩ | rfl
    · cases dv with
      | @lst a vs _ _ hb hq r =>
        rw [of_ints r] at hq
        exact ⟨a, ns, rfl, .inl (un_sqL hq), hl, kk⟩
    · cases dv with
      | @tup a vs _ hq r =>
        rw [of_ints r] at hq
        exact ⟨a, ns, rfl, .inr (un_sqT hq), hl, kk⟩⟩
/-! ### walks over tuples -/
theorem ri_tup {xs : List D} (h : RE X W p ρ c e (.val (.tup xs) nw c1)) : RI X W p ρ c tg e xs c1 :=
  pi_imp (pi_tup h) fun σ H R ⟨s, k⟩ => ⟨s, fun v H1 e1 p1 dv _ => by
    cases dv with
    | @tup a vs _ hq r =>
      refine ⟨a, rfl, ⟨vs, un_sqT hq⟩, k _ H1 e1 p1 fun q c' H2 qe qs p2 => ?_⟩
      have hq2 : SqT X.K H2 a vs := un_sqT (qs.sqT hq)
      refine ⟨⟨vs, hq2, Nat.le_of_eq r.length⟩, fun i d hd => ?_⟩
      obtain ⟨v, h1, h2⟩ := r.get hd
      refine ⟨⟨vs, v, hq2, h1⟩, fun x H3 y => ?_⟩
      obtain ⟨rfl, h3⟩ := y
      have e' : x = v := Option.some.inj ((h3 vs hq2).symm.trans h1)
      subst e'
      exact ⟨Ext.refl _ _, p2, h2.sub qs (fun i a z => by rw [qe]; exact z)⟩⟩
end
end LA

namespace LA
open PySem PySem.Spec PyProof.Rows L2
/-! ### what repr asks, of lists of lists -/
structure Tiny (w k : Nat) (d : D) : Prop where
  ok : okD false d = true
  sh : (toPy d).showable = true
  lay : (toPy d).canLay0 = true
  ish : PyData.intsShort 13 (toPy d) = true
  wt : (toPy d).weight ≤ w
  dp : (toPy d).depth ≤ k
  nd : (toPy d).hasDict = false
theorem tiny_small {d : D} (h : smallD d = true) : Tiny 100 0 d := by
  obtain ⟨a1, a2, a3, a4, a5, a6, a7⟩ := small_one h
  exact ⟨a1, a2, a3, a4, a5, Nat.le_of_eq a6, a7⟩
theorem Tiny.up {w k w' k' : Nat} {d : D} (h : Tiny w k d) (h1 : w ≤ w') (h2 : k ≤ k') : Tiny w' k' d := ⟨h.ok, h.sh, h.lay, h.ish, Nat.le_trans h.wt h1, Nat.le_trans h.dp h2, h.nd⟩
theorem tiny_all {w k : Nat} : ∀ {ds : List D}, (∀ d ∈ ds, Tiny w k d) → okDs false ds = true ∧ PyData.showableAll (toPys ds) = true ∧ PyData.canLayAll0 (toPys ds) = true ∧ PyData.intsShortAll 13 (toPys ds) = true ∧ PyData.weightAll (toPys ds) ≤ (w + 1) * ds.length ∧ PyData.depthAll (toPys ds) ≤ k ∧ PyData.hasDictAll (toPys ds) = false
  | [], _ => ⟨rfl, by unfold toPys; decide +kernel, by unfold toPys; decide +kernel, by unfold toPys; decide +kernel, by unfold toPys PyData.weightAll; omega, by unfold toPys PyData.depthAll; omega, by unfold toPys; decide +kernel⟩
  | d :: r, h => by
    obtain ⟨a1, a2, a3, a4, a5, a6, a7⟩ := h d List.mem_cons_self
    obtain ⟨b1, b2, b3, b4, b5, b6, b7⟩ := tiny_all (ds := r) fun x m => h x (List.mem_cons_of_mem _ m)
    unfold okDs toPys PyData.showableAll PyData.canLayAll0 PyData.intsShortAll PyData.weightAll PyData.depthAll PyData.hasDictAll
    rw [a1, a2, a3, a4, a7, b1, b2, b3, b4, b7, List.length_cons]
    refine ⟨rfl, rfl, rfl, rfl, ?_, ?_, rfl⟩
    · rw [Nat.mul_add, Nat.mul_one]
      omega
    · omega
theorem Tiny.lst {w k n : Nat} {g : G} {ds : List D} (h : ∀ d ∈ ds, Tiny w k d) (hl : ds.length ≤ n) : Tiny ((w + 1) * n + 10) (k + 1) (.lst g ds) := by
  obtain ⟨b1, b2, b3, b4, b5, b6, b7⟩ := tiny_all h
  have hm : (w + 1) * ds.length ≤ (w + 1) * n := Nat.mul_le_mul_left _ hl
  refine ⟨?_, ?_, ?_, ?_, ?_, ?_, ?_⟩
  · unfold okD
    rw [b1]
    simp
  · unfold toPy PyData.showable
    exact b2
  · unfold toPy PyData.canLay0
    exact b3
  · unfold toPy PyData.intsShort
    exact b4
  · unfold toPy PyData.weight
    omega
  · unfold toPy PyData.depth
    omega
  · unfold toPy PyData.hasDict
    exact b7
theorem Tiny.tup {w k n : Nat} {ds : List D} (h : ∀ d ∈ ds, Tiny w k d) (hl : ds.length ≤ n) : Tiny ((w + 1) * n + 10) (k + 1) (.tup ds) := by
  obtain ⟨b1, b2, b3, b4, b5, b6, b7⟩ := tiny_all h
  have hm : (w + 1) * ds.length ≤ (w + 1) * n := Nat.mul_le_mul_left _ hl
  refine ⟨?_, ?_, ?_, ?_, ?_, ?_, ?_⟩
  · unfold okD
    exact b1
  · unfold toPy PyData.showable
    exact b2
  · unfold toPy PyData.canLay0
    exact b3
  · unfold toPy PyData.intsShort
    exact b4
  · unfold toPy PyData.weight
    omega
  · unfold toPy PyData.depth
    omega
  · unfold toPy PyData.hasDict
    exact b7
theorem Tiny.shows {w k : Nat} {d : D} (h : Tiny w k d) (hw : w ≤ 1000000) (hk : k ≤ 60) : Shows d := by
  have := h.wt
  have := h.dp
  exact ⟨by rw [h.nd]; exact h.ok, h.sh, by omega, sz_big h.lay h.ish (by omega)⟩
theorem Tiny.one {w k : Nat} {d : D} (h : Tiny w k d) {s : Str} (hs : smallD (.str s) = true) (hw : 100 ≤ w) (hw2 : w ≤ 100000) (hk : k ≤ 50) : Shows (.lst ⟨true, true⟩ [.str s, d]) := by
  refine (Tiny.lst (w := w) (k := k) (n := 2) (ds := [.str s, d]) (fun x m => ?_) (Nat.le_refl 2)).shows (by omega) (by omega)
  rcases List.mem_cons.mp m with rfl | m
  · exact (tiny_small hs).up hw (Nat.zero_le _)
  · rw [List.mem_singleton.mp m]
    exact h
/-! ### the pool -/
structure Pl where
  cell : Int
  cnt : Int
  big : Bool
  k : Int
def Pl.ds (c : Pl) : List D := [.int c.cell, .int c.cnt, .bl c.big, .int c.k]
def Pl.c (c : Pl) : Cell := .lst c.ds
def celOf (ns : List Int) (k : Int) : Int := ns.getD k.toNat 0
def bigOf (x : Int) : Bool := decide (x ≥ 10 ^ 18)
def poolOf (ns : List Int) (k : Int) : Pl := ⟨celOf ns k, 0, bigOf (celOf ns k), k⟩
def drawV (c : Pl) (m : Int) : Int := if c.big then c.cell % m else (((((c.cell * 48271 + (c.cnt + 1) * 104729 + c.k * 8191 + 11) % 2147483647) ^ (3 : Int).toNat + (c.cnt + 1) * 7919) % 2147483629) ^ (5 : Int).toNat % 2147483587) / 16 % m
def drawC (c : Pl) (m : Int) : Pl := ⟨if c.big then c.cell / m else c.cell, c.cnt + 1, c.big, c.k⟩
theorem drawV_in {c : Pl} {m : Int} (h : 0 < m) : 0 ≤ drawV c m ∧ drawV c m < m := by
  unfold drawV
  split
  · exact ⟨Int.emod_nonneg _ (by omega), Int.emod_lt_of_pos _ h⟩
  · exact ⟨Int.emod_nonneg _ (by omega), Int.emod_lt_of_pos _ h⟩
/-- the digit drawn, as a place -/
def drawN (c : Pl) (n : Nat) : Nat := (drawV c (n : Nat)).toNat
theorem drawN_lt {c : Pl} {n : Nat} (h : 0 < n) : drawN c n < n := by
  have := drawV_in (c := c) (m := (n : Nat)) (by omega)
  unfold drawN
  omega
theorem drawN_eq {c : Pl} {n : Nat} (h : 0 < n) : drawV c (n : Nat) = ((drawN c n : Nat) : Int) := by
  have := drawV_in (c := c) (m := (n : Nat)) (by omega)
  unfold drawN
  omega
def poolR : FSpec := fun ds c o => ∃ (g : G) (ns : List Int) (k : Nat), ds = [.lst g (ns.map D.int), .int (k : Nat)] ∧ o = .val (.lst ⟨true, true⟩ (poolOf ns k).ds) true c
def drawR : FSpec := fun ds c o => ∃ (i : Nat) (m : Int) (x : Pl), ds = [.mut i, .int m] ∧ c[i]? = some x.c ∧ 0 < m ∧ m < 1073741824 ∧ o = .val (.int (drawV x m)) false (c.set i (drawC x m).c)
theorem at_set {α : Type} {c : List α} {i : Nat} {x y : α} (h : c[i]? = some x) : (c.set i y)[i]? = some y := by
  rw [List.getElem?_set_self (List.getElem?_eq_some_iff.mp h).1]
theorem small_pow {x m : Int} (h : 0 < m) (hm : m ≤ 2147483648) : (x % m).natAbs < 2 ^ 64 := by
  have h1 := Int.emod_nonneg x (show m ≠ 0 by omega)
  have h2 := Int.emod_lt_of_pos x h
  have : (2 : Nat) ^ 64 = 18446744073709551616 := by decide
  omega
theorem cmul_r {i j : Int} (h1 : -1000000000 < j) (h2 : j < 1000000000) : CMul i j := by
  have e1 : (-(2 ^ 64) : Int) = -18446744073709551616 := by decide
  have e2 : (2 ^ 64 : Int) = 18446744073709551616 := by decide
  exact .inr ⟨by omega, by omega⟩
end LA

namespace LA
open PySem PySem.Spec PyProof.Rows L2
/-! ### error classes of one field -/
structure Err1 (P : Program) (w : World) (K : PySem.W.Frag) (mg : Str → Option Value) (base : Heap) (x f : Str) (C : Addr) : Prop where
  ox : OexC K C
  xf : XfC K C
  no : PySem.W.findIn K (.ref C) f = some none
  ini : ∃ g fd pn, PySem.W.findIn K (.ref C) "__init__" = some (some (.ref g)) ∧ PySem.W.typeIn K (.ref g) = some (.type "function") ∧ FnOk P w K mg base CX0 1 g fd ["self", pn] (spIni1 K f) ∧ Binds K fd ["self", pn] []
  mg : mg x = some (.ref C)
section
variable {X : Cx} {W : WX} {p : HD} {ρ : Rho} {c c1 : PC} {e : Expr} {pos pos2 xp : Pos} {d : D} {n1 : Bool} {x f : Str} {C : Addr}
theorem rs_raiseG (hc : X.calm = true) (tk : Takes X W) (E : Err1 X.prog X.w X.K X.mg X.base x f C) (hr : Room 2 X.A) (he : RE X W p ρ c e (.val d n1 c1)) (hg : Gl X x := by rfl)
    (hdb : (x == ("__debug__" : Str)) = false := by decide) (hs : starEach (e :: []) X.env = (false, eval e X.env) :: starEach [] X.env := by rfl) (hpl : (backTo pos (starEach [] X.env)).any (·.1) = false := by rfl) :
    RS X W p ρ c (.Raise (some (.Call (.Name x xp) [e] [] pos)) none pos2) (.ex C [(f, d)] c1) := by
  obtain ⟨g, fd, pn, h1, h2, h3, h4⟩ := E.ini
  exact rs_raise1 hc tk E.ox E.no h1 h2 h3 hr h4 E.mg he hg hdb hs hpl
end
theorem cv_lenTup {K : PySem.W.Frag} {p : HD} {c : PC} {ds : List D} : CV K p (fun xs H Q => ∃ x n, xs = [x] ∧ LenV K x H n ∧ Q (.int n) H) [.tup ds] (.int (ds.length : Nat)) true c := fun vs H Q dvs hp k => by
  cases dvs with
  | cons h r =>
    cases r
    cases h with
    | tup hq ha =>
      refine ⟨_, ds.length, rfl, .inr ⟨_, un_sqT hq, ha.length.symm⟩, k _ H (Ext.refl p H) hp (.int _) fun _ => New.sc (by intro a h; cases h)⟩
theorem kit2 {K : PySem.W.Frag} {t a b : String} {b1 b2 : Bool} (h1 : kitB t a = some b1) (h2 : kitB t b = some b2) : PySem.W.kitAny K (.type t) [.type a, .type b] = some (b1 || b2) := by
  unfold PySem.W.kitAny
  rw [kit_ty h1]
  cases b1 with
  | true => rfl
  | false =>
    show PySem.W.kitAny K (.type t) [.type b] = some b2
    unfold PySem.W.kitAny
    rw [kit_ty h2]
    cases b2 <;> rfl
/-! ### what an expression gives, as what a statement does -/
def asSt : EO → SO
  | .val d nw c => .rt d nw c
  | .ex C fs c => .ex C fs c
theorem rss_retO {X : Cx} {W : WX} {p : HD} {ρ : Rho} {c : PC} {e : Expr} {pos : Pos} {o : EO} {rest : List Stmt} (h : RE X W p ρ c e o) : RSs X W p ρ c (.Return (some e) pos :: rest) (asSt o) := by
  cases o with
  | val d nw c' => exact rss_ret (rs_ret h)
  | ex C fs c' => exact rss_ex (rs_retX h)
theorem rss_ifO {X : Cx} {W : WX} {p : HD} {ρ : Rho} {c c1 : PC} {t : Expr} {A : List Stmt} {pos : Pos} {o : EO} {rest : List Stmt} (ht : RT X W p ρ c t (.val true c1)) (h : RSs X W p ρ c1 A (asSt o)) : RSs X W p ρ c (.If t A [] pos :: rest) (asSt o) := by
  cases o with
  | val d nw c' => exact rss_ret (rs_if (kb := true) ht (fun _ => h) fun z => nomatch z)
  | ex C fs c' => exact rss_ex (rs_if (kb := true) ht (fun _ => h) fun z => nomatch z)
theorem bodyOk_of {X : Cx} {W : WX} {p : HD} {ρ : Rho} {c : PC} {body : List Stmt} {o : EO} (h : RSs X W p ρ c body (asSt o)) : BodyOk X W p ρ c body o := by
  cases o with
  | val d nw c' => exact .inl h
  | ex C fs c' => exact h
/-! ### parts of texts -/
theorem cut_lo {l : List Nat} {i : Nat} (h : i ≤ l.length) : cutS (tx l) none (some (i : Nat)) = tx (l.take i) := by
  unfold cutS
  rw [HT.sIx_none, HT.sIx_nat, tx_list, tx_len, Nat.min_eq_left h]
  rfl
theorem cut_hi {l : List Nat} {i : Nat} (h : i ≤ l.length) : cutS (tx l) (some (i : Nat)) none = tx (l.drop i) := by
  unfold cutS
  rw [HT.sIx_none, HT.sIx_nat, tx_list, tx_len, Nat.min_eq_left h, List.take_of_length_le (by rw [List.length_drop]; omega)]
  rfl
theorem set_cut {l : List Nat} {i : Nat} {a : Nat} (h : i < l.length) : l.take i ++ [a] ++ l.drop (i + 1) = l.set i a := by
  rw [List.set_eq_take_append_cons_drop, if_pos h, List.append_assoc]
  rfl
theorem digit_str {i : Int} (h : i = 0 ∨ i = 1) : (toString i).toList.map Char.toNat = [48 + i.toNat] := by
  rcases h with rfl | rfl <;> decide
/-! ### signs that are not of a text -/
def odds (a l : List Nat) : List D := coll (fun i => !decide (l.getD i 0 ∈ a)) (fun i => .str (chr1 (l.getD i 0))) l.length
theorem odds_nil (a l : List Nat) : (odds a l).isEmpty = l.all fun n => decide (n ∈ a) := by
  unfold odds
  rw [coll_none, ← all_get l]
  congr 1
  funext i
  rw [Bool.not_not]
theorem odds_ok {a l : List Nat} (h : ∀ n ∈ l, n < 0x110000) : (odds a l).all flatOk = true := by
  unfold odds
  rw [coll_some, List.all_map, List.all_eq_true]
  intro i hi
  have hi' := List.mem_range.mp (List.mem_filter.mp hi).1
  show PyData.strOk (chr1 (l.getD i 0)) = true
  unfold PyData.strOk chr1
  have : l.getD i 0 ∈ l := by
    rw [List.getD_eq_getElem?_getD, List.getElem?_eq_getElem hi']
    exact List.getElem_mem _
  have q := h _ this
  generalize l.getD i 0 = m at q
  simp [q]
/-- the first place at which a test fails -/
theorem first_bad (b : Nat → Bool) : ∀ n : Nat, ∃ m, m ≤ n ∧ (∀ i, i < m → b i = true) ∧ (m = n ∨ (m < n ∧ b m = false))
  | 0 => ⟨0, Nat.le_refl _, (fun i h => absurd h (Nat.not_lt_zero i)), .inl rfl⟩
  | n + 1 => by
    obtain ⟨m, h1, h2, h3⟩ := first_bad b n
    rcases h3 with rfl | ⟨h3, h4⟩
    · cases hb : b m with
      | false => exact ⟨m, by omega, h2, .inr ⟨by omega, hb⟩⟩
      | true => exact ⟨m + 1, Nat.le_refl _, (fun i hi => by
          by_cases e : i = m
          · rw [e, hb]
          · exact h2 i (by omega)), .inl rfl⟩
    · exact ⟨m, by omega, h2, .inr ⟨by omega, h4⟩⟩
theorem ov_ixSeq {K : PySem.W.Frag} {p : HD} {c : PC} {b d : D} {xs : List D} {i : Int} {j : Nat} (h : isSeqOf b xs) (e : i = (j : Int)) (hx : xs[j]? = some d) : OV K p (rIx K) b (.int i) d false c := by
  rcases h with ⟨g, rfl⟩ | rfl
  · exact ov_ixL e hx
  · exact ov_ixT e hx
theorem cv_lenSeq {K : PySem.W.Frag} {p : HD} {c : PC} {b : D} {xs : List D} (h : isSeqOf b xs) : CV K p (fun xs H Q => ∃ x n, xs = [x] ∧ LenV K x H n ∧ Q (.int n) H) [b] (.int (xs.length : Nat)) true c := by
  rcases h with ⟨g, rfl⟩ | rfl
  · exact cv_lenL
  · exact cv_lenTup
structure Def1K (P : Program) (w : World) (K : PySem.W.Frag) (mg : Str → Option Value) (base : Heap) (k : Nat) (x : Str) (ps : List Str) (R : FSpec) (n : Nat) (ks : List Str) (g : List Value → List Value → List Value) (gV : List V → List V → List V) : Prop where
  ex : ∃ (f : Addr) (fd : FuncData), FnOk P w K mg base (L2.CX P w) k f fd ps (spF K R) ∧ mg x = some (.ref f) ∧ PySem.W.keepIn K (.ref f) = true ∧ KBn K fd ps n ks g gV
/-! ### what the head leaves -/
/-- a def of the top as the head has left it -/
structure Gf (K : PySem.W.Frag) (x : Str) (st : Stmt) : Prop where
  ex : ∃ f fd, PySem.W.nsIn K mainGlobals x = some (some (.ref f)) ∧ Fun K x x st f fd
theorem gf_mk {K : PySem.W.Frag} {x : Str} {st : Stmt} {f : Addr} {oc kV dc pm cd ct : Value} {od an : Option Addr} {sl : Array (Option Value)} (a : PySem.W.nsIn K mainGlobals x = some (some (.ref f)))
    (l : K.lookup f = some ⟨oc, od, .func (PySem.W.fnOf x x (defArgs st) (defBody st) (defScope st) .none kV dc pm an cd ct), sl⟩) (c : PySem.W.codeIn K cd x = true) (k : PySem.W.keepIn K (.ref f) = true) : Gf K x st := ⟨⟨f, _, a, fun_mk l c k⟩⟩
/-- an error class and its maker -/
structure Ge (K : PySem.W.Frag) (x q : Str) (st : Stmt) (C : Addr) : Prop where
  ns : PySem.W.nsIn K mainGlobals x = some (some (.ref C))
  ox : OexC K C
  xf : XfC K C
  ini : ∃ f fd, PySem.W.findIn K (.ref C) "__init__" = some (some (.ref f)) ∧ PySem.W.typeIn K (.ref f) = some (.type "function") ∧ Fun K "__init__" q st f fd
theorem ge_mk {K : PySem.W.Frag} {x q nm qn : Str} {st : Stmt} {C f N : Addr} {bs bm sub : List Value} {sn : List Str} {ab : Bool} {col : Option Bool} {dd od an : Option Addr} {m0 m1 m2 m3 m5 : Option Value} {oc kV dc pm cd ct : Value} {sl : Array (Option Value)}
    (ns : PySem.W.nsIn K mainGlobals x = some (some (.ref C))) (xL : K.lookup C = some (excClassObj nm qn C N bs bm true sn sub ab col dd m0 m1 m2 m3 m5 "ValueError.__new__")) (hv : PySem.HandSPX.refsVE bm = true) (sa : PySem.W.findIn K (.ref C) "__setattr__" = some (some (.builtin "object.__setattr__")))
    (eC : PySem.W.subIn K (.ref C) (.type "BaseException") = some true) (tC : PySem.W.typeIn K (.ref C) = some (.type "type")) (kC : PySem.W.keepIn K (.ref C) = true) (ga : PySem.W.findIn K (.ref C) "__getattribute__" = some (some (.builtin "BaseException.__getattribute__"))) (gg : PySem.W.findIn K (.ref C) "__getattr__" = some none) (hC : PySem.W.hasDictIn K C = true)
    (a : PySem.W.findIn K (.ref C) "__init__" = some (some (.ref f))) (t : PySem.W.typeIn K (.ref f) = some (.type "function")) (l : K.lookup f = some ⟨oc, od, .func (PySem.W.fnOf "__init__" q (defArgs st) (defBody st) (defScope st) .none kV dc pm an cd ct), sl⟩) (c : PySem.W.codeIn K cd q = true) (k : PySem.W.keepIn K (.ref f) = true) : Ge K x q st C :=
  ⟨ns, ⟨⟨nm, qn, N, bs, bm, sn, sub, ab, col, dd, m0, m1, m2, m3, m5, xL, hv⟩, sa, eC, tC, kC⟩, ⟨ga, gg, eC, hC⟩, f, _, a, t, fun_mk l c k⟩
theorem gn_mk {K : PySem.W.Frag} {x : Str} {C : Addr} (ns : PySem.W.nsIn K mainGlobals x = some (some (.ref C))) : PySem.W.nsIn K mainGlobals x = some (some (.ref C)) := ns
section
variable {P : Program} {w : World} {K : PySem.W.Frag} {mg : Str → Option Value} {base h : Heap} {x : Str} {st : Stmt} {ps : List Str} {k : Nat} {R : FSpec}
theorem def0 (X : K.In h) (G : h.Ns mainGlobals mg) (g : Gf K x st) (hf : ∀ f fd, Fun K x x st f fd → FnOk P w K mg base CX0 k f fd ps (spF K R))
    (hb : ∀ (kV doc pm : Value) (an : Option Addr) (cdv ct : Value) (us : List Value), us.length = ps.length → bindArgs (PySem.W.fnOf x x (defArgs st) (defBody st) (defScope st) .none kV doc pm an cdv ct) ⟨us, []⟩ = pure (ps.zip us)) : Def0 P w K mg base k x ps R := by
  obtain ⟨f, fd, a, F⟩ := g.ex
  exact ⟨⟨f, fd, hf f fd F, PySem.W.mg_of X G a, F.kp, F.binds hb⟩⟩
theorem def1 (X : K.In h) (G : h.Ns mainGlobals mg) (g : Gf K x st) (hf : ∀ f fd, Fun K x x st f fd → FnOk P w K mg base (L2.CX P w) k f fd ps (spF K R))
    (hb : ∀ (kV doc pm : Value) (an : Option Addr) (cdv ct : Value) (us : List Value), us.length = ps.length → bindArgs (PySem.W.fnOf x x (defArgs st) (defBody st) (defScope st) .none kV doc pm an cdv ct) ⟨us, []⟩ = pure (ps.zip us)) : Def1 P w K mg base k x ps R := by
  obtain ⟨f, fd, a, F⟩ := g.ex
  exact ⟨⟨f, fd, hf f fd F, PySem.W.mg_of X G a, F.kp, F.binds hb⟩⟩
theorem err1 {q f pn : Str} {C : Addr} {q1 q2 q3 q4 : Pos} (X : K.In h) (G : h.Ns mainGlobals mg) (g : Ge K x q st C) (no : PySem.W.findIn K (.ref C) f = some none) (S : FnScope ["self", pn] ["self", pn] (defScope st)) (hb : defBody st = [.Assign [.Attribute (.Name "self" q1) f q2] (.Name pn q3) q4])
    (h1 : (pn == ("__debug__" : Str)) = false) (h2 : (pn == ("__classdict__" : Str)) = false)
    (hbd : ∀ (kV doc pm : Value) (an : Option Addr) (cdv ct : Value) (us : List Value), us.length = (["self", pn] : List Str).length → bindArgs (PySem.W.fnOf "__init__" q (defArgs st) (defBody st) (defScope st) .none kV doc pm an cdv ct) ⟨us, []⟩ = pure ((["self", pn] : List Str).zip us)) : Err1 P w K mg base x f C := by
  obtain ⟨f1, fd, i1, t1, F⟩ := g.ini
  exact ⟨g.ox, g.xf, no, ⟨f1, fd, pn, i1, t1, ok_ini1 F S hb h1 h2, F.binds hbd⟩, PySem.W.mg_of X G g.ns⟩
theorem def1K {n : Nat} {ks : List Str} {g' : List Value → List Value → List Value} {gV : List V → List V → List V} (X : K.In h) (G : h.Ns mainGlobals mg) (g : Gf K x st) (hf : ∀ f fd, Fun K x x st f fd → FnOk P w K mg base (L2.CX P w) k f fd ps (spF K R))
    (hb : ∀ (kV doc pm : Value) (an : Option Addr) (cdv ct : Value) (us ws : List Value), us.length = n → ws.length = ks.length → bindArgs (PySem.W.fnOf x x (defArgs st) (defBody st) (defScope st) .none kV doc pm an cdv ct) ⟨us, ks.zip ws⟩ = pure (ps.zip (g' us ws)))
    (hv : ∀ {vs : List V} {us : List Value} {zs : List V} {ws : List Value}, Vals vs us → Vals zs ws → Vals (gV vs zs) (g' us ws)) : Def1K P w K mg base k x ps R n ks g' gV := by
  obtain ⟨f, fd, a, F⟩ := g.ex
  refine ⟨⟨f, fd, hf f fd F, PySem.W.mg_of X G a, F.kp, ⟨fun s us ws _ h1 h2 => ?_, hv⟩⟩⟩
  obtain ⟨oc, od, kV, doc, pm, an, cdv, ct, osl, rfl, _⟩ := F.ex
  exact .of_eq (hb kV doc pm an cdv ct us ws h1 h2)
theorem vals_rev : ∀ {vs : List V} {us : List Value}, Vals vs us → Vals vs.reverse us.reverse
  | _, _, .nil => .nil
  | _, _, .cons h r => by
    rw [List.reverse_cons, List.reverse_cons]
    exact (vals_rev r).append (.cons h .nil)
end
theorem dvs_script {K : PySem.W.Frag} {H : Hp} {a : Addr} {ns : List Int} (sq : SqL K H a (ns.map V.int)) : DVs K ⟨[], []⟩ H [.ref a] [.lst ⟨false, false⟩ (ns.map D.int)] := by
  refine .cons (.lst ⟨(fun z => nomatch z), fun z => nomatch z⟩ (Sub.sqL (fun b o y => ?_) sq) ?_) .nil
  · rw [hide_ne]
    · exact y
    · rintro (z | z)
      · cases z
      · cases z
  · clear sq
    induction ns with
    | nil => exact .nil
    | cons n r ih => exact .cons (.int n) ih
theorem pool_none {K : PySem.W.Frag} {H : Hp} : PoolAt K ⟨[], []⟩ H [] := ⟨⟨List.nodup_nil, rfl, fun i b x h => by simp at h⟩, fun b z => nomatch z⟩
end LA

namespace K35
open PySem PySem.Spec PyProof.Rows L2 LA
def top (i : Nat) : Stmt := PySem.Challenge.pw_leastlooks_k35_trees_gone_along.main.body.getD i (.Pass ⟨0, 0, 0, 0⟩)
abbrev sPool : Stmt := top 44
abbrev sDraw : Stmt := top 45
/-- built-in names that the text leaves alone -/
structure Glb (mg : Str → Option Value) : Prop where
  len : mg "len" = none
  int : mg "int" = none
  range : mg "range" = none
  list : mg "list" = none
  str : mg "str" = none
  isi : mg "isinstance" = none
  all : mg "all" = none
  repr : mg "repr" = none
  min : mg "min" = none
  max : mg "max" = none
  zip : mg "zip" = none
  iter : mg "iter" = none
  tuple : mg "tuple" = none
  bool : mg "bool" = none
section
variable {P : Program} {w : World} {K : PySem.W.Frag} {mg : Str → Option Value} {base : Heap}
theorem scPool : FnScope ["_law_script", "_law_k", "_law_cell"] ["_law_script", "_law_k"] (defScope sPool) := ⟨rfl, rfl, rfl, by decide +kernel, rfl, by decide +kernel, by decide +kernel⟩
theorem ok_pool {f : Addr} {fd : FuncData} (G : Glb mg) (F : Fun K "_law_pool" "_law_pool" sPool f fd) : FnOk P w K mg base CX0 1 f fd ["_law_script", "_law_k"] (spF K poolR) := by
  refine fn_val F scPool (fun ds c o h => ?_) (fun ds c o h => ?_) (fun cdv A outer s H E hr p ds c o h => ?_)
  · obtain ⟨g, ns, k, rfl, _⟩ := h
    rfl
  · obtain ⟨g, ns, k, _, rfl⟩ := h
    exact ⟨_, _, _, rfl⟩
  · obtain ⟨g, ns, k, rfl, rfl⟩ := h
    refine .inl ?_
    refine rss_cons (ρ1 := [some (.lst g (ns.map D.int)), some (.int (k : Nat)), some (.int (celOf ns k))]) (c1 := c) (rs_set (nw := false) 2 scPool.nd (re_if (k := decide ((k : Int) < ((ns.map D.int).length : Nat))) (rt_cmp op_lt (re_var 1) (re_callB call_len G.len PySem.boot_len (ra_cons (re_var 0) ra_nil) cv_lenL) ov_ib) (fun hk => ?_) (fun hk => ?_))) ?_
    · refine re_ix ix_seq (re_var 0) (re_var 1) (ov_ixL rfl ?_)
      have hk := of_decide_eq_true hk
      rw [List.length_map] at hk
      rw [List.getElem?_map]
      unfold celOf
      rw [List.getD_eq_getElem?_getD]
      have : k < ns.length := by omega
      simp [this]
    · have hk := of_decide_eq_false hk
      rw [List.length_map] at hk
      have e : celOf ns k = 0 := by
        unfold celOf
        rw [List.getD_eq_getElem?_getD, List.getElem?_eq_none (by simp; omega)]
        rfl
      rw [e]
      exact re_old re_int
    · exact rss_ret (rs_ret (re_lst (ra_cons (re_var 2) (ra_cons re_int (ra_cons (re_cmp op_ge (re_var 2) (re_bin op_pow re_int re_int (ov_cii (by show (0 : Int) ≤ 18 ∧ (18 : Int) ≤ 1000000 ∧ _; decide))) ov_ib) (ra_cons (re_var 1) ra_nil)))) (by show 4 ≤ 100000; decide)))
theorem scDraw : FnScope ["_law_pool_here", "_law_limit", "_law_digit", "_law_seed", "_law_mixed"] ["_law_pool_here", "_law_limit"] (defScope sDraw) := ⟨rfl, rfl, rfl, by decide +kernel, rfl, by decide +kernel, by decide +kernel⟩
theorem ok_draw {f : Addr} {fd : FuncData} (G : Glb mg) (F : Fun K "_law_draw" "_law_draw" sDraw f fd) : FnOk P w K mg base CX0 1 f fd ["_law_pool_here", "_law_limit"] (spF K drawR) := by
  refine fn_val F scDraw (fun ds c o h => ?_) (fun ds c o h => ?_) (fun cdv A outer s H E hr p ds c o h => ?_)
  · obtain ⟨i, m, x, rfl, _⟩ := h
    rfl
  · obtain ⟨i, m, x, _, _, _, _, rfl⟩ := h
    exact ⟨_, _, _, rfl⟩
  · obtain ⟨i, m, x, rfl, hx, h0, h1, rfl⟩ := h
    obtain ⟨cell, cnt, big, k⟩ := x
    have hx1 : (c.set i (Pl.c ⟨cell, cnt + 1, big, k⟩))[i]? = some (Pl.c ⟨cell, cnt + 1, big, k⟩) := at_set hx
    refine .inl (rss_cons (c1 := c.set i (Pl.c ⟨cell, cnt + 1, big, k⟩)) (rs_mst 0 i 1 (d := .int (cnt + 1)) (ds := Pl.ds ⟨cell, cnt, big, k⟩) (re_bin op_add (re_mix 0 i 1 hx rfl) re_int ov_ii) re_int hx (by show 1 < 4; decide) rfl) ?_)
    cases big with
    | true =>
      refine rss_ret (rs_if (kb := true) (rt_val (re_mix 0 i 2 hx1 rfl)) (fun _ => ?_) fun z => nomatch z)
      refine rss_cons (rs_set 2 scDraw.nd (re_bin op_mod (re_callT call_int1 G.int PyProof.Rows.boot_int (ra_cons (re_mix 0 i 0 hx1 rfl) ra_nil) cv_int) (re_var 1) (ov_cii h0))) ?_
      have e : (c.set i (Pl.c ⟨cell, cnt + 1, true, k⟩)).set i (Pl.c ⟨cell / m, cnt + 1, true, k⟩) = c.set i (drawC ⟨cell, cnt, true, k⟩ m).c := List.set_set ..
      rw [← e]
      refine rss_cons (c1 := (c.set i (Pl.c ⟨cell, cnt + 1, true, k⟩)).set i (Pl.c ⟨cell / m, cnt + 1, true, k⟩)) (rs_mst 0 i 0 (d := .int (cell / m)) (ds := Pl.ds ⟨cell, cnt + 1, true, k⟩) (re_bin op_fdiv (re_callT call_int1 G.int PyProof.Rows.boot_int (ra_cons (re_mix 0 i 0 hx1 rfl) ra_nil) cv_int) (re_var 1) (ov_cii ⟨h0, h1⟩)) re_int hx1 (by show 0 < 4; decide) rfl) ?_
      exact rss_ret (rs_ret (re_var 2))
    | false =>
      refine rss_cons (rs_if (kb := false) (rt_val (re_mix 0 i 2 hx1 rfl)) (fun z => nomatch z) fun _ => rss_nil) ?_
      refine rss_cons (rs_set 3 scDraw.nd (re_bin op_add (re_bin op_add (re_bin op_add (re_bin op_mul (re_mix 0 i 0 hx1 rfl) re_int (ov_cii (cmul_r (by decide) (by decide)))) (re_bin op_mul (re_mix 0 i 1 hx1 rfl) re_int (ov_cii (cmul_r (by decide) (by decide)))) ov_ii)
        (re_bin op_mul (re_mix 0 i 3 hx1 rfl) re_int (ov_cii (cmul_r (by decide) (by decide)))) ov_ii) re_int ov_ii)) ?_
      refine rss_cons (rs_set 4 scDraw.nd (re_bin op_mod (re_callT call_int1 G.int PyProof.Rows.boot_int (ra_cons (re_var 3) ra_nil) cv_int) re_int (ov_cii (by show (0 : Int) < _; decide)))) ?_
      refine rss_cons (rs_set 4 scDraw.nd (re_bin op_mod (re_callT call_int1 G.int PyProof.Rows.boot_int (ra_cons (re_bin op_add (re_bin op_pow (re_var 4) re_int (ov_cii ⟨by decide, by decide, small_pow (by decide) (by decide)⟩)) (re_bin op_mul (re_mix 0 i 1 hx1 rfl) re_int (ov_cii (cmul_r (by decide) (by decide)))) ov_ii) ra_nil) cv_int) re_int (ov_cii (by show (0 : Int) < _; decide)))) ?_
      refine rss_ret (rs_ret (re_old (re_bin op_mod (re_bin op_fdiv (re_callT call_int1 G.int PyProof.Rows.boot_int (ra_cons (re_bin op_mod (re_bin op_pow (re_var 4) re_int (ov_cii ⟨by decide, by decide, small_pow (by decide) (by decide)⟩)) re_int (ov_cii (by show (0 : Int) < _; decide))) ra_nil) cv_int) re_int (ov_cii ⟨by decide, by decide⟩)) (re_var 1) (ov_cii h0))))
end
abbrev PoolD (P : Program) (w : World) (K : PySem.W.Frag) (mg : Str → Option Value) (base : Heap) := Def0 P w K mg base 1 "_law_pool" ["_law_script", "_law_k"] poolR
abbrev DrawD (P : Program) (w : World) (K : PySem.W.Frag) (mg : Str → Option Value) (base : Heap) := Def0 P w K mg base 1 "_law_draw" ["_law_pool_here", "_law_limit"] drawR
section
variable {X : Cx} {W : WX} {p : HD} {ρ : Rho} {c : PC} {p1 p2 p3 p4 p5 p6 : Pos} {n1 n2 : Nat} {e : Expr} {nw : Bool}
theorem re_drawE (i : Nat) {k : Nat} {m : Int} {x : Pl} (T : DrawD X.prog X.w X.K X.mg X.base) (hr : Room 1 X.A) (hx : c[k]? = some x.c) (he : RE X W p ρ c e (.val (.int m) nw c)) (h0 : 0 < m) (h1 : m < 1073741824) (hρ : ρ[i]? = some (some (.mut k)) := by rfl) (hN : X.N[i]? = some ("_law_pool_here" : Str) := by rfl) (hv : Vis X.env.scope ("_law_pool_here" : Str) := by first | exact Or.inl rfl | exact Or.inr (Or.inl rfl) | exact Or.inr (Or.inr rfl))
    (hg : Gl X "_law_draw" := by rfl) (hs : starEach [e] X.env = (false, eval e X.env) :: starEach [] X.env := by rfl) (hs2 : starEach [.Name "_law_pool_here" p3, e] X.env = (false, eval (.Name "_law_pool_here" p3) X.env) :: starEach [e] X.env := by rfl) (hpl : (backTo p5 (starEach [e] X.env)).any (·.1) = false := by rfl) : RE X W p ρ c (.Call (.Name "_law_draw" p2) [.Name "_law_pool_here" p3, e] [] p5) (.val (.int (drawV x m)) false (c.set k (drawC x m).c)) :=
  re_c0 T hr (ra_cons (re_var i hN hρ hv) (ra_cons he ra_nil hs) hs2) ⟨k, m, x, rfl, hx, h0, h1, rfl⟩ hg (by decide) hs2 hpl
theorem re_draw (i : Nat) {k : Nat} {m : Int} {x : Pl} (T : DrawD X.prog X.w X.K X.mg X.base) (hr : Room 1 X.A) (hx : c[k]? = some x.c) (h0 : 0 < m) (h1 : m < 1073741824) (hρ : ρ[i]? = some (some (.mut k)) := by rfl) (hN : X.N[i]? = some ("_law_pool_here" : Str) := by rfl) (hv : Vis X.env.scope ("_law_pool_here" : Str) := by first | exact Or.inl rfl | exact Or.inr (Or.inl rfl) | exact Or.inr (Or.inr rfl))
    (hg : Gl X "_law_draw" := by rfl) : RE X W p ρ c (.Call (.Name "_law_draw" p2) [.Name "_law_pool_here" p3, .Constant (.int m) n2 p4] [] p5) (.val (.int (drawV x m)) false (c.set k (drawC x m).c)) :=
  re_drawE i T hr hx re_int h0 h1 hρ hN hv hg
end
end K35

/-! objects of own classes: made, read, called upon -/
namespace LA
open PySem PySem.Spec PyProof.Rows L2
/-! ### a new object, seen from without -/
section
variable {K : PySem.W.Frag} {p : HD} {H H1 H3 : Hp} {c c1 c2 : PC} {x dx C : Addr}
abbrev laid (H : Hp) (x dx C : Addr) : Hp := L2.upd (L2.upd H dx (.own x)) x (.ins C dx [])
theorem mut_also : Sub (hide (p.mut x) H) (hide (p.also x) H) := fun b o h => by
  obtain ⟨h1, h2⟩ := hide_some h
  rw [hide_ne (show ¬ (p.also x).hid b from fun z => h2 (mut_hid.mpr (z.elim (fun q => .inl (.inl q)) fun q => (List.mem_cons.mp q).elim .inr fun q => .inl (.inr q))))]
  exact h1
theorem laid_n (n1 : H x = none) (ne : dx ≠ x) : L2.upd H dx (.own x) x = none := by
  rw [upd_ne (fun z => ne z.symm)]
  exact n1
theorem laid_ext (n1 : H x = none) (n2 : H dx = none) (ne : dx ≠ x) : Ext p H (laid H x dx C) := (Ext.new n2).trans (Ext.new (laid_n n1 ne))
theorem laid_pool (h : PoolAt K p H c) (n1 : H x = none) (n2 : H dx = none) (ne : dx ≠ x) : PoolAt K (p.mut x) (laid H x dx C) (c ++ [.ins C []]) :=
  PoolAt.in' (PoolAt.also (h.upd n2) (laid_n n1 ne)) (fun z => h.not n1 (.inl z)) ⟨dx, [], upd_same, .nil⟩
theorem laid_vals {vs : List V} {ds : List D} (h : PoolAt K p H c) (r : DVs K p H vs ds) (n1 : H x = none) (n2 : H dx = none) (ne : dx ≠ x) : DVs K (p.mut x) (laid H x dx C) (.ref x :: vs) (.mut c.length :: ds) := by
  refine .cons (.mut ?_) (r.sub (sub_new n1 (laid_ext n1 n2 ne)) fun i b z => mut_at z)
  show (p.m ++ [x])[c.length]? = some x
  rw [← h.1.2.1, List.getElem?_append_right (Nat.le_refl _)]
  simp
theorem laid_after (h : PoolAt K p H c) (n1 : H x = none) (n2 : H dx = none) (ne : dx ≠ x) (e : Ext (p.mut x) (laid H x dx C) H3) : Ext p H H3 := fun b o nb q => by
  refine e b o (fun z => ?_) (laid_ext n1 n2 ne b o nb q)
  rcases List.mem_append.mp (show b ∈ p.m ++ [x] from z) with z | z
  · exact nb z
  · rw [List.mem_singleton.mp z, n1] at q
    cases q
theorem laid_out {y : Cell} (hl : c2.length = c.length) (h : PoolAt K p H c) (q : PoolAt K (p.mut x) H3 (c2 ++ [y])) : PoolAt K p H3 c2 := by
  have z := PoolAt.out q
  rw [h.1.2.1, ← hl, List.take_left'] at z
  · exact z
  · rfl
theorem laid_obj {fs : List (Str × D)} (hl : c2.length = c.length) (h : PoolAt K p H c) (n1 : H x = none) (q : PoolAt K (p.mut x) H3 (c2 ++ [.ins C fs])) : DV K p H3 (.ref x) (.obj C fs) := by
  have hx : (p.m ++ [x])[c2.length]? = some x := by
    rw [hl, ← h.1.2.1, List.getElem?_append_right (Nat.le_refl _)]
    simp
  obtain ⟨dx', fv, hv, r⟩ : CellAt K (p.mut x) H3 x (.ins C fs) := q.1.2.2 c2.length x (.ins C fs) hx (by simp)
  have vis : hide p H3 x = some (.ins C dx' fv) := by
    rw [hide_ne (h.not n1)]
    exact hv
  exact .obj vis (r.sub (fun b o y => by rw [hide_flat] at y; exact sub_mut b o y) fun i b z => by simp [HD.flat] at z)
theorem laid_new {fs : List (Str × D)} (hl : c2.length = c.length) (h : PoolAt K p H c) (n1 : H x = none) (q : PoolAt K (p.mut x) H3 (c2 ++ [.ins C fs])) : New K p H H3 c2 (.ref x) (.obj C fs) := fun a e => by
  cases e
  have po := laid_out hl h q
  refine ⟨⟨n1, fun z => h.not n1 (.inl z)⟩, ⟨⟨po.1.1, po.1.2.1, fun i b y hi hy => ?_⟩, fun b m => ?_⟩, fun g ds e' => by cases e'⟩
  · have l := (List.getElem?_eq_some_iff.mp hy).1
    exact (q.1.2.2 i b y (mut_at hi) (by rw [List.getElem?_append_left l]; exact hy)).sub mut_also rfl
  · rcases List.mem_cons.mp m with rfl | m
    · exact q.ex (show b ∈ p.m ++ [b] from List.mem_append.mpr (.inr (List.mem_singleton.mpr rfl)))
    · exact po.2 b m
end
/-! ### C(..) -/
/-- what comes of __init__, and of the making -/
inductive Made (C : Addr) (n : Nat) : EO → EO → Prop
  | val {nw : Bool} {c2 : PC} {fs : List (Str × D)} : c2.length = n → Made C n (.val .non nw (c2 ++ [.ins C fs])) (.val (.obj C fs) true c2)
  | ex {C' : Addr} {fs : List (Str × D)} {c2 : PC} {y : Cell} : c2.length = n → lowDf n fs = true → Made C n (.ex C' fs (c2 ++ [y])) (.ex C' fs c2)
def tMakeS (C : Addr) (sp : Sp) (E : L2.St → XK) (t : TA) : TE := fun σ H Q => t σ H fun vs H1 => ∀ x dx, H1 x = none → H1 dx = none → dx ≠ x → sp (V.ref x :: vs) (laid H1 x dx C) (fun v H2 => v = .non ∧ Q (.ref x) H2) (E σ)
section
variable {X : Cx} {W : WX} {p : HD} {ρ ρ1 : Rho} {c c1 c2 c3 : PC} {e a b : Expr} {es : List Expr} {pos apos : Pos} {d d1 d2 : D} {n1 n2 nw : Bool} {o o' : EO}
variable {CX : CXT} {k : Nat} {f C g : Addr} {fd : FuncData} {ps : List Str} {R : FSpec} {x m : Str} {xp : Pos} {ds : List D} {fs : List (Str × D)} {sp : Sp}
theorem run_makeS {E : L2.St → XK} {pins : List (Addr × Obj)} {σ : L2.St} {H : Hp} {s : Shared} {Q : VK} {us : List Value} {vs : List V} (M : Mk X.K C f) (F : FnOk X.prog X.w X.K X.mg X.base CX k f fd ps sp) (hr : Room (k + 1) X.A) (hb : Binds X.K fd ps [])
    (hx : PassesAt CX X σ (E σ)) (I : Inv X pins σ H s) (r : Vals vs us)
    (h : ∀ x dx, H x = none → H dx = none → dx ≠ x → sp (V.ref x :: vs) (laid H x dx C) (fun v H2 => v = .non ∧ Q (.ref x) H2) (E σ)) :
    wpAny (model X.prog X.w) X.A (call (.ref C) us) (EP X pins σ Q) X.xe s := by
  let n := s.heap.objs.size
  have q0 := h (n + 1) n (I.hok.fresh (Nat.le_succ _)) (I.hok.fresh (Nat.le_refl _)) (Nat.ne_of_lt (Nat.lt_succ_self _))
  have J := Inv.made (C := C) I
  have rr : Vals (V.ref (n + 1) :: vs) (Value.ref (n + 1) :: us) := .cons rfl r
  have hl : (Value.ref (n + 1) :: us).length = ps.length := by
    rw [← rr.length]
    exact F.len _ _ _ _ q0
  have bd := hb _ (Value.ref (n + 1) :: us) J.kIn (by rw [List.append_nil]; exact hl)
  rw [List.append_nil] at bd
  have run := F.run _ X.stack _ _ ⟨Value.ref (n + 1) :: us, []⟩ (Value.ref (n + 1) :: us) _ _ (E σ) (hr.make C us []) (J.env0.make C us []) bd rr q0
  refine wpAny_call (make_map (f := f) I.kIn M.makes M.init (beq_iff_eq.mp M.fn) (codeAny_mono run fun z s' hz => ?_))
  match z, hz with
  | .error er, hz => exact hx pins _ _ er s' J hz
  | .ok (.ret u), hz =>
    obtain ⟨v, H', I3, rv, ev, q3⟩ := J.after hz
    subst ev
    exact ⟨rv, ⟨V.ref (n + 1), H', I3, rfl, q3⟩⟩
  | .ok .next, hz => exact hz.elim
  | .ok .brk, hz => exact hz.elim
  | .ok .cont, hz => exact hz.elim
theorem pe_makeS {E : L2.St → XK} {t : TA} (M : Mk X.K C f) (F : FnOk X.prog X.w X.K X.mg X.base CX k f fd ps sp) (hr : Room (k + 1) X.A) (hg : Gl X x) (hm : X.mg x = some (.ref C)) (hb : Binds X.K fd ps []) (hx : ∀ σ, PassesAt CX X σ (E σ))
    (ha : PA X (e :: es) t) (hdb : (x == ("__debug__" : Str)) = false := by decide) (he : starEach (e :: es) X.env = (false, eval e X.env) :: starEach es X.env := by rfl) (hpl : (backTo pos (starEach es X.env)).any (·.1) = false := by rfl) :
    PE X (.Call (.Name x xp) (e :: es) [] pos) (tMakeS C sp E t) := ⟨fun pins s σ H Q I h =>
  wpAny_Call_Name_kw (ld_glob I hg hm (PySem.W.callWith_K (h₀ := X.base) I.ok.mod.kin M.kp (thn (ha.run pos pins s σ H _ I h) fun us s1 ⟨vs, H1, I1, r, q⟩ => ⟨I1.kIn, run_makeS M F hr hb (hx σ) I1 r q⟩) he hpl) hdb)⟩
theorem re_makeX (tk : Takes X W) (M : Mk X.K C f) (G : FnOk X.prog X.w X.K X.mg X.base (L2.CX X.prog X.w) k f fd ps (spF X.K R)) (hr : Room (k + 1) X.A) (hm : X.mg x = some (.ref C)) (hb : Binds X.K fd ps []) (ha : RA X W p ρ c (e :: es) (.val ds c1)) (ho : R (.mut c1.length :: ds) (c1 ++ [.ins C []]) o') (hd : Made C c1.length o' o)
    (hg : Gl X x := by rfl) (hdb : (x == ("__debug__" : Str)) = false := by decide) (he : starEach (e :: es) X.env = (false, eval e X.env) :: starEach es X.env := by rfl) (hpl : (backTo pos (starEach es X.env)).any (·.1) = false := by rfl) :
    RE X W p ρ c (.Call (.Name x xp) (e :: es) [] pos) o :=
  pe_imp (pe_makeS M G hr hg hm hb (fun σ => passAt tk σ) ha hdb he hpl) fun σ H Q h => ⟨tE_sr h, fun vs H1 e1 p1 dvs y dy ny nd ne => by
    refine ⟨p.mut y, c1 ++ [.ins C []], .mut c1.length :: ds, o', laid_vals p1 dvs ny nd ne, laid_pool p1 ny nd ne, ho, ?_⟩
    cases hd with
    | val hl =>
      intro v H3 e3 p3 dv _
      have ext := laid_after p1 ny nd ne e3
      refine ⟨by cases dv; rfl, ?_⟩
      exact (fo_at h e1) (.ref y) H3 ext (laid_out hl p1 p3) (laid_obj hl p1 ny p3) fun _ => laid_new hl p1 ny p3
    | ex hl lo =>
      intro dx fv H3 e3 p3 hx hf
      have ext := laid_after p1 ny nd ne e3
      refine (fo_at h e1) dx fv H3 ext (laid_out hl p1 p3) (sub_mut dx _ hx) (hf.low (n := c1.length) sub_mut (fun i b li hi => at_mut (by rw [p1.1.2.1]; exact li) hi) lo)⟩
/-! ### o.f -/
theorem re_fld (ha : RE X W p ρ c a (.val (.obj C fs) nw c1)) (cl : Cls X.K C) (na : NoAttr X.K C m) (hf : fs.lookup m = some d) (hb : attributeBase a m X.env (eval a X.env) = eval a X.env := by rfl) : RE X W p ρ c (.Attribute a m pos) (.val d false c1) :=
  pe_imp (pe_fld ha hb) fun σ H Q h => ⟨h.1, fun v H1 e1 p1 dv _ => by
    cases dv with
    | obj hv r =>
      obtain ⟨w, l, dw⟩ := r.get hf
      exact ⟨_, C, _, _, w, rfl, (hide_some hv).1, cl, na, l, h.2 w H1 e1 p1 dw (fun z => nomatch z)⟩⟩
/-- of what changes still -/
theorem re_fldM {i : Nat} (ha : RE X W p ρ c a (.val (.mut i) nw c1)) (hc : c1[i]? = some (.ins C fs)) (cl : Cls X.K C) (na : NoAttr X.K C m) (hf : fs.lookup m = some d) (hb : attributeBase a m X.env (eval a X.env) = eval a X.env := by rfl) : RE X W p ρ c (.Attribute a m pos) (.val d false c1) :=
  pe_imp (pe_fld ha hb) fun σ H Q h => ⟨h.1, fun v H1 e1 p1 dv _ => by
    cases dv with
    | @«mut» b _ hi =>
      obtain ⟨dx, fv, hv, r⟩ : CellAt X.K p H1 b (.ins C fs) := p1.1.2.2 i b _ hi hc
      obtain ⟨w, l, dw⟩ := r.get hf
      exact ⟨_, C, _, _, w, rfl, hv, cl, na, l, h.2 w H1 e1 p1 (dw.sub (fun b o y => by rw [hide_flat] at y; exact y) fun i b z => by simp [HD.flat] at z) (fun z => nomatch z)⟩⟩
theorem DVf.gone {K : PySem.W.Frag} {H : Hp} : ∀ {vs : List (Str × V)} {ds : List (Str × D)}, DVf K p H vs ds → ds.lookup m = none → vs.lookup m = none
  | _, _, .nil, _ => rfl
  | _, _, .cons (f := g) h r, e => by
    rw [List.lookup_cons] at e ⊢
    cases q : m == g with
    | true =>
      rw [q] at e
      cases e
    | false =>
      rw [q] at e
      exact DVf.gone r e
/-! ### o.f, a property -/
theorem re_prop {q : Addr} (G : FnOk X.prog X.w X.K X.mg X.base CX0 k g fd ps (spF X.K R)) (hr : Room (k + 1) X.A) (hb : Binds X.K fd ps []) (ha : RE X W p ρ c a (.val (.obj C fs) nw c1)) (cl : Cls X.K C) (hp : PropOf X.K C m q g) (ho : R [.obj C fs] c1 (.val d n2 c2))
    (hab : attributeBase a m X.env (eval a X.env) = eval a X.env := by rfl) : RE X W p ρ c (.Attribute a m pos) (.val d n2 c2) :=
  pe_imp (pe_prop ha cl hp G hr hb .nil pass0 hab) fun σ H Q h => ⟨h.1, fun v H1 e1 p1 dv _ => by
    cases dv with
    | obj hv r => exact ⟨_, _, _, rfl, (hide_some hv).1, p, c1, _, _, .cons (.obj hv r) .nil, p1, ho, fun w H2 e2 p2 dw hn => h.2 w H2 (e1.trans e2) p2 dw fun z => (hn z).back e1⟩⟩
/-! ### o.m(..) -/
def tMethS (m : Str) (C : Addr) (sp : Sp) (E : L2.St → XK) (ta : TE) (t : TA) : TE := fun σ H Q => ta σ H fun x H1 => ∃ y dx fv, x = .ref y ∧ H1 y = some (.ins C dx fv) ∧ fv.lookup m = none ∧ t σ H1 fun vs H2 => sp (x :: vs) H2 Q (E σ)
theorem pe_methS {pl : Sem Bool} {E : L2.St → XK} {ta : TE} {t : TA} (ha : PE X a ta) (cl : Cls X.K C) (hm : Meth X.K C m g) (F : FnOk X.prog X.w X.K X.mg X.base CX k g fd ps sp) (hr : Room k X.A) (hb : Binds X.K fd ps []) (hx : ∀ σ, PassesAt CX X σ (E σ)) (hs : PA X (e :: es) t)
    (ht : eval (.Call (.Attribute a m apos) (e :: es) [] pos) X.env = (do
      let ov ← eval a X.env
      standAt apos.atName
      let (f, first) ← holding [ov] (getMethod ov m pl)
      callWith pos f first (backTo pos (starEach (e :: es) X.env)) (backToKw pos (keywordEach [] X.env))))
    (hst : starEach (e :: es) X.env = (false, eval e X.env) :: starEach es X.env) (hpl : (backTo pos (starEach es X.env)).any (·.1) = false) :
    PE X (.Call (.Attribute a m apos) (e :: es) [] pos) (tMethS m C sp E ta t) := ⟨fun pins s σ H Q I h =>
  PySem.W.methodCall_KW (pl := pl) (thn (ha.run pins s σ H _ I h) fun u s1 ⟨x, H1, I1, rx, y, dx, fv, ex, ey, l, q⟩ => by
    subst ex
    obtain rfl : u = Value.ref y := rx
    exact getmeth_ok I1 ey cl hm l (PySem.W.callWith_K (first := [.ref y]) (h₀ := X.base) I.ok.mod.kin hm.kp (thn (hs.run pos pins s1 σ H1 _ I1 q) fun us s2 ⟨vs, H2, I2, r, q2⟩ => ⟨I2.kIn, run_fnS (us := .ref y :: us) (vs := .ref y :: vs) F hr hb (hx σ) I2 (.cons rfl r) q2⟩) hst hpl)) ht⟩
theorem pe_methS0 {pl : Sem Bool} {E : L2.St → XK} {ta : TE} (ha : PE X a ta) (cl : Cls X.K C) (hm : Meth X.K C m g) (F : FnOk X.prog X.w X.K X.mg X.base CX k g fd ps sp) (hr : Room k X.A) (hb : Binds X.K fd ps []) (hx : ∀ σ, PassesAt CX X σ (E σ))
    (ht : eval (.Call (.Attribute a m apos) [] [] pos) X.env = (do
      let ov ← eval a X.env
      standAt apos.atName
      let (f, first) ← holding [ov] (getMethod ov m pl)
      callWith pos f first (backTo pos (starEach [] X.env)) (backToKw pos (keywordEach [] X.env)))) :
    PE X (.Call (.Attribute a m apos) [] [] pos) (tMethS m C sp E ta tNil) := ⟨fun pins s σ H Q I h =>
  PySem.W.methodCall_KW (pl := pl) (thn (ha.run pins s σ H _ I h) fun u s1 ⟨x, H1, I1, rx, y, dx, fv, ex, ey, l, q⟩ => by
    subst ex
    obtain rfl : u = Value.ref y := rx
    exact getmeth_ok I1 ey cl hm l (PySem.W.callWith_K0 (first := [.ref y]) I1.kIn hm.kp (run_fnS (us := [.ref y]) (vs := [.ref y]) F hr hb (hx σ) I1 (.cons rfl .nil) q))) ht⟩
/-- a method that may raise -/
theorem re_methX {pl : Sem Bool} (tk : Takes X W) (G : FnOk X.prog X.w X.K X.mg X.base (L2.CX X.prog X.w) k g fd ps (spF X.K R)) (hr : Room k X.A) (hb : Binds X.K fd ps []) (ha : RE X W p ρ c a (.val (.obj C fs) nw c1)) (cl : Cls X.K C) (hm : Meth X.K C m g) (hn : fs.lookup m = none)
    (hs : RA X W p ρ c1 (e :: es) (.val ds c2)) (ho : R (.obj C fs :: ds) c2 o)
    (ht : eval (.Call (.Attribute a m apos) (e :: es) [] pos) X.env = (do
      let ov ← eval a X.env
      standAt apos.atName
      let (f, first) ← holding [ov] (getMethod ov m pl)
      callWith pos f first (backTo pos (starEach (e :: es) X.env)) (backToKw pos (keywordEach [] X.env))) := by rfl)
    (hst : starEach (e :: es) X.env = (false, eval e X.env) :: starEach es X.env := by rfl) (hpl : (backTo pos (starEach es X.env)).any (·.1) = false := by rfl) :
    RE X W p ρ c (.Call (.Attribute a m apos) (e :: es) [] pos) o :=
  pe_imp (pe_methS ha cl hm G hr hb (fun σ => passAt tk σ) hs ht hst hpl) fun σ H Q h => ⟨tE_sr h, fun v H1 e1 p1 dv _ => by
    cases dv with
    | obj hv r => exact ⟨_, _, _, rfl, (hide_some hv).1, r.gone hn, (tE_sr h).mono e1 p1, fun vs H2 e2 p2 dvs => ⟨p, c2, _, o, .cons ((DV.obj hv r).mono e2) dvs, p2, ho, fo_at h (e1.trans e2)⟩⟩⟩
theorem re_methX0 {pl : Sem Bool} (tk : Takes X W) (G : FnOk X.prog X.w X.K X.mg X.base (L2.CX X.prog X.w) k g fd ps (spF X.K R)) (hr : Room k X.A) (hb : Binds X.K fd ps []) (ha : RE X W p ρ c a (.val (.obj C fs) nw c1)) (cl : Cls X.K C) (hm : Meth X.K C m g) (hn : fs.lookup m = none)
    (ho : R [.obj C fs] c1 o)
    (ht : eval (.Call (.Attribute a m apos) [] [] pos) X.env = (do
      let ov ← eval a X.env
      standAt apos.atName
      let (f, first) ← holding [ov] (getMethod ov m pl)
      callWith pos f first (backTo pos (starEach [] X.env)) (backToKw pos (keywordEach [] X.env))) := by rfl) :
    RE X W p ρ c (.Call (.Attribute a m apos) [] [] pos) o :=
  pe_imp (pe_methS0 ha cl hm G hr hb (fun σ => passAt tk σ) ht) fun σ H Q h => ⟨tE_sr h, fun v H1 e1 p1 dv _ => by
    cases dv with
    | obj hv r => exact ⟨_, _, _, rfl, (hide_some hv).1, r.gone hn, p, c1, _, o, .cons (.obj hv r) .nil, p1, ho, fo_at h e1⟩⟩
end
end LA

/-! own operators of own classes, that raise nothing -/
namespace LA
open PySem PySem.Spec PyProof.Rows L2
section
variable {X : Cx} {W : WX} {p : HD} {ρ ρ1 : Rho} {c c1 c2 c3 : PC} {e a b : Expr} {es : List Expr} {pos apos : Pos} {d d1 d2 : D} {n1 n2 nw : Bool} {o o' : EO}
variable {k : Nat} {f C g : Addr} {fd : FuncData} {ps : List Str} {R : FSpec} {x m : Str} {xp : Pos} {ds : List D} {fs gs : List (Str × D)} {sp : Sp}
theorem rref (y : Addr) : L2.RelV (V.ref y) (Value.ref y) := rfl
theorem run_at {pins : List (Addr × Obj)} {σ : L2.St} {H : Hp} {s : Shared} {Q : VK} {us : List Value} {vs : List V} (F : FnOk X.prog X.w X.K X.mg X.base CX0 k f fd ps sp) (hr : Room k X.A) (hb : Binds X.K fd ps [])
    (I : Inv X pins σ H s) (r : Vals vs us) (h : sp vs H Q E0) : wpAny (model X.prog X.w) X.A (call (.ref f) us) (EP X pins σ Q) X.xe s :=
  run_fnS (E := fun _ => E0) F hr hb (fun _ _ _ _ _ _ z => z.elim) I r h
theorem run_in {pins : List (Addr × Obj)} {σ : L2.St} {H : Hp} {s : Shared} {Q : VK} {us : List Value} {vs : List V} {E' : Value → Shared → Prop} (F : FnOk X.prog X.w X.K X.mg X.base CX0 k f fd ps sp) (hr : Room (k + 1) X.A) (hb : Binds X.K fd ps [])
    (I : Inv X pins σ H s) (r : Vals vs us) (h : sp vs H Q E0) : wpAny (model X.prog X.w) X.A.in1 (call (.ref f) us) (EP X pins σ Q) E' s := by
  have hl : us.length = ps.length := by
    rw [← r.length]
    exact F.len _ _ _ _ h
  have bd := hb s us I.kIn (by rw [List.append_nil]; exact hl)
  rw [List.append_nil] at bd
  have run := F.run X.A.in1 X.stack s H ⟨us, []⟩ us vs Q E0 hr.in1 I.env0.in1 bd r h
  refine wpAny_call (codeAny_mono run fun z s' hz => ?_)
  match z, hz with
  | .error er, hz => exact hz.elim
  | .ok (.ret u), hz => exact I.after hz
  | .ok .next, hz => exact hz.elim
  | .ok .brk, hz => exact hz.elim
  | .ok .cont, hz => exact hz.elim
/-- of a name that a class has as a def -/
structure Own (K : PySem.W.Frag) (C : Addr) (m : Str) (f : Addr) : Prop where
  at_ : PySem.W.findIn K (.ref C) m = some (some (.ref f))
  fn : PySem.W.isFn K (.ref f) = true
theorem ins_at {pins : List (Addr × Obj)} {σ : L2.St} {H : Hp} {s : Shared} {y dx : Addr} {fv : List (Str × V)} (I : Inv X pins σ H s) (h : H y = some (.ins C dx fv)) : ∃ ox od, PySem.W.InstAt s.heap y ox C od := by
  obtain ⟨mA, O, _⟩ := ins_get I.hok h
  obtain ⟨od, J, _⟩ := O.look
  exact ⟨_, _, J⟩
/-! ### ~o -/
def rInv (C : Addr) (sp : Sp) : V → Hp → VK → Prop := fun x H Q => ∃ y dx fv, x = .ref y ∧ H y = some (.ins C dx fv) ∧ sp [.ref y] H Q E0
theorem un_inv (F : FnOk X.prog X.w X.K X.mg X.base CX0 k f fd ps sp) (hr : Room k X.A) (hb : Binds X.K fd ps []) (w : Own X.K C "__invert__" f) : UnR X (unaryOp .Invert) (rInv C sp) := by
  intro pins s σ H x v Q I rx h
  obtain ⟨y, dx, fv, rfl, hy, hs⟩ := h
  cases rx
  obtain ⟨ox, od, J⟩ := ins_at I hy
  obtain ⟨m, hF⟩ := I.fr
  exact PySem.W.ksp_inv hF I.ok.mod.kin J w.at_ w.fn (run_at F hr hb I (.cons (rref y) .nil) hs)
theorem re_inv (G : FnOk X.prog X.w X.K X.mg X.base CX0 k f fd ps (spF X.K R)) (hr : Room k X.A) (hb : Binds X.K fd ps []) (w : Own X.K C "__invert__" f) (ha : RE X W p ρ c a (.val (.obj C fs) nw c1)) (ho : R [.obj C fs] c1 (.val d n2 c2)) : RE X W p ρ c (.UnaryOp .Invert a pos) (.val d n2 c2) :=
  pe_imp (pe_un (un_inv G hr hb w) ha) fun σ H Q h => ⟨h.1, fun v H1 e1 p1 dv _ => by
    cases dv with
    | obj hv r => exact ⟨_, _, _, rfl, (hide_some hv).1, p, c1, _, _, .cons (.obj hv r) .nil, p1, ho, fun w H2 e2 p2 dw hn => h.2 w H2 (e1.trans e2) p2 dw fun z => (hn z).back e1⟩⟩
/-! ### len(o) -/
def rLenO (C : Addr) (sp : Sp) : List V → Hp → VK → Prop := fun xs H Q => ∃ y dx fv, xs = [.ref y] ∧ H y = some (.ins C dx fv) ∧ sp [.ref y] H (fun v H' => ∃ n : Nat, v = .int n ∧ n < 100000 ∧ Q (.int n) H') E0
theorem call_lenO (F : FnOk X.prog X.w X.K X.mg X.base CX0 k f fd ps sp) (hr : Room (k + 1) X.A) (hb : Binds X.K fd ps []) (w : Own X.K C "__len__" f) : CallR X (.builtin "len") (rLenO C sp) := by
  intro pins s σ H xs us Q I rx h
  obtain ⟨y, dx, fv, rfl, hy, hs⟩ := h
  cases rx with
  | cons r1 r2 =>
    cases r2
    cases r1
    obtain ⟨ox, od, J⟩ := ins_at I hy
    obtain ⟨m, hF⟩ := I.fr
    refine PySem.W.len_K hF I.ok.mod.kin J w.at_ w.fn (wpAny_mono (run_in F hr hb I (.cons (rref y) .nil) hs) (fun u s' hu => ?_) fun _ _ z => z)
    obtain ⟨v, H', I', rv, n, rfl, hn, q⟩ := hu
    obtain ⟨tk, rfl⟩ := rv
    exact ⟨⟨Int.natCast_nonneg n, by omega⟩, ⟨.int n, H', I'.tok _, ⟨_, rfl⟩, q⟩⟩
theorem cv_lenO {n : Nat} (hn : n < 100000) (ho : R [.obj C fs] c (.val (.int n) n2 c)) : CV X.K p (rLenO C (spF X.K R)) [.obj C fs] (.int n) true c := fun vs H Q dvs hp kk => by
  cases dvs with
  | cons h r =>
    cases r
    cases h with
    | obj hv r => exact ⟨_, _, _, rfl, (hide_some hv).1, p, c, _, _, .cons (.obj hv r) .nil, hp, ho, fun v H2 e2 p2 dw _ => by
        cases dw
        exact ⟨n, rfl, hn, kk (.int n) H2 e2 p2 (.int _) fun _ => New.sc (by intro a h; cases h)⟩⟩
/-! ### x in o -/
def rInO (C : Addr) (sp : Sp) (neg : Bool) : R2 := fun x z H Q => ∃ y dx fv, z = .ref y ∧ H y = some (.ins C dx fv) ∧ sp [.ref y, x] H (fun v H' => ∃ k : Bool, v = .bl k ∧ Q (.bl (neg ^^ k)) H') E0
theorem op_inO (F : FnOk X.prog X.w X.K X.mg X.base CX0 k f fd ps sp) (hr : Room k X.A) (hb : Binds X.K fd ps []) (w : Own X.K C "__contains__" f) : OpR X (compareOp .In) (rInO C sp false) := by
  intro pins s σ H x z v u Q I rx rz h
  obtain ⟨y, dx, fv, rfl, hy, hs⟩ := h
  cases rz
  obtain ⟨ox, od, J⟩ := ins_at I hy
  obtain ⟨m, hF⟩ := I.fr
  refine PySem.W.in_K hF I.ok.mod.kin J w.at_ w.fn (wpAny_mono (run_at F hr hb I (.cons (rref y) (.cons rx .nil)) hs) (fun u s' hu => ?_) fun _ _ z => z)
  obtain ⟨v, H', I', rv, k, rfl, q⟩ := hu
  cases rv
  exact wpAny_truthy_bool ⟨.bl k, H', I', rfl, by rw [Bool.false_xor] at q; exact q⟩
theorem op_niO (F : FnOk X.prog X.w X.K X.mg X.base CX0 k f fd ps sp) (hr : Room k X.A) (hb : Binds X.K fd ps []) (w : Own X.K C "__contains__" f) : OpR X (compareOp .NotIn) (rInO C sp true) := by
  intro pins s σ H x z v u Q I rx rz h
  obtain ⟨y, dx, fv, rfl, hy, hs⟩ := h
  cases rz
  obtain ⟨ox, od, J⟩ := ins_at I hy
  obtain ⟨m, hF⟩ := I.fr
  refine PySem.W.notIn_K hF I.ok.mod.kin J w.at_ w.fn (wpAny_mono (run_at F hr hb I (.cons (rref y) (.cons rx .nil)) hs) (fun u s' hu => ?_) fun _ _ z => z)
  obtain ⟨v, H', I', rv, k, rfl, q⟩ := hu
  cases rv
  exact wpAny_truthy_bool ⟨.bl (!k), H', I', rfl, by rw [Bool.true_xor] at q; exact q⟩
theorem ov_inO {neg kb : Bool} (ho : R [.obj C fs, d1] c (.val (.bl kb) n2 c)) : OV X.K p (rInO C (spF X.K R) neg) d1 (.obj C fs) (.bl (neg ^^ kb)) true c := fun v u H Q dv du hp kk => by
  cases du with
  | obj hv r => exact ⟨_, _, _, rfl, (hide_some hv).1, p, c, _, _, .cons (.obj hv r) (.cons dv .nil), hp, ho, fun v H2 e2 p2 dw _ => by
      cases dw
      exact ⟨kb, rfl, kk (.bl _) H2 e2 p2 (.bl _) fun _ => New.sc (by intro a h; cases h)⟩⟩
/-! ### o == o' -/
def rEqO (C : Addr) (sp : Sp) : R2 := fun x z H Q => ∃ y y' dx fv dx' fv', x = .ref y ∧ z = .ref y' ∧ H y = some (.ins C dx fv) ∧ H y' = some (.ins C dx' fv') ∧ sp [.ref y, .ref y'] H (fun v H' => ∃ k : Bool, v = .bl k ∧ Q (.bl k) H') E0
theorem op_eqO (F : FnOk X.prog X.w X.K X.mg X.base CX0 k f fd ps sp) (hr : Room k X.A) (hb : Binds X.K fd ps []) (w : Own X.K C "__eq__" f) : OpR X (compareOp .Eq) (rEqO C sp) := by
  intro pins s σ H x z v u Q I rx rz h
  obtain ⟨y, y', dx, fv, dx', fv', rfl, rfl, hy, hy', hs⟩ := h
  cases rx
  cases rz
  obtain ⟨ox, od, J⟩ := ins_at I hy
  obtain ⟨ox', od', J'⟩ := ins_at I hy'
  obtain ⟨m, hF⟩ := I.fr
  show wpAny (model X.prog X.w) X.A (richCompare .Eq _ _) (EP X pins σ Q) X.xe s
  refine PySem.W.cmp_K (op := .Eq) (tb := .ref C) hr.units0 hF I.ok.mod.kin J J'.type (by simp [PySem.W.notFirst]) w.at_ w.fn (wpAny_mono (run_at F hr hb I (.cons (rref y) (.cons (rref y') .nil)) hs) (fun u s' hu => ?_) fun _ _ z => z)
  obtain ⟨v, H', I', rv, k, rfl, q⟩ := hu
  cases rv
  exact ⟨.bl k, H', I', rfl, q⟩
theorem ov_eqO {kb : Bool} (ho : R [.obj C fs, .obj C gs] c (.val (.bl kb) n2 c)) : OV X.K p (rEqO C (spF X.K R)) (.obj C fs) (.obj C gs) (.bl kb) true c := fun v u H Q dv du hp kk => by
  cases dv with
  | obj hv r =>
    cases du with
    | obj hv' r' => exact ⟨_, _, _, _, _, _, rfl, rfl, (hide_some hv).1, (hide_some hv').1, p, c, _, _, .cons (.obj hv r) (.cons (.obj hv' r') .nil), hp, ho, fun v H2 e2 p2 dw _ => by
        cases dw
        exact ⟨kb, rfl, kk (.bl _) H2 e2 p2 (.bl _) fun _ => New.sc (by intro a h; cases h)⟩⟩
/-! ### o == a text, a number, .. -/
def rEqX (X : Cx) (C : Addr) (sp : Sp) : R2 := fun x z H Q => ∃ y dx fv t, x = .ref y ∧ H y = some (.ins C dx fv) ∧ (∀ u, RelV z u → typeOf u = pure t) ∧ PySem.W.notFirst X.K C t = true ∧ sp [.ref y, z] H (fun v H' => ∃ k : Bool, v = .bl k ∧ Q (.bl k) H') E0
theorem op_eqX (F : FnOk X.prog X.w X.K X.mg X.base CX0 k f fd ps sp) (hr : Room k X.A) (hb : Binds X.K fd ps []) (w : Own X.K C "__eq__" f) : OpR X (compareOp .Eq) (rEqX X C sp) := by
  intro pins s σ H x z v u Q I rx rz h
  obtain ⟨y, dx, fv, t, rfl, hy, ht, hn, hs⟩ := h
  cases rx
  obtain ⟨ox, od, J⟩ := ins_at I hy
  obtain ⟨m, hF⟩ := I.fr
  show wpAny (model X.prog X.w) X.A (richCompare .Eq _ _) (EP X pins σ Q) X.xe s
  refine PySem.W.cmp_K (op := .Eq) (tb := t) hr.units0 hF I.ok.mod.kin J (PySem.W.Looks.of_pure (ht u rz)) hn w.at_ w.fn (wpAny_mono (run_at F hr hb I (.cons (rref y) (.cons rz .nil)) hs) (fun u s' hu => ?_) fun _ _ z => z)
  obtain ⟨v, H', I', rv, k, rfl, q⟩ := hu
  cases rv
  exact ⟨.bl k, H', I', rfl, q⟩
end
end LA

/-! own operators that may raise; an object's fields are set; its text -/
namespace LA
open PySem PySem.Spec PyProof.Rows L2
section
variable {X : Cx} {W : WX} {p : HD} {ρ ρ1 : Rho} {c c1 c2 c3 : PC} {e a b fe : Expr} {es : List Expr} {pos apos : Pos} {d d1 d2 : D} {n1 n2 nw : Bool} {o o' : EO}
variable {CX : CXT} {k : Nat} {f C g : Addr} {fd : FuncData} {ps : List Str} {R : FSpec} {x m : Str} {xp : Pos} {ds : List D} {fs gs : List (Str × D)} {sp : Sp} {E : L2.St → XK} {ta tb tf : TE} {t : TA}
/-! ### o(..) -/
def tCallI (C : Addr) (sp : Sp) (E : L2.St → XK) (tf : TE) (t : TA) : TE := fun σ H Q => tf σ H fun y H1 => ∃ z, y = V.ref z ∧ t σ H1 fun vs H2 => (∃ dx fv, H2 z = some (.ins C dx fv)) ∧ sp (V.ref z :: vs) H2 Q (E σ)
theorem pe_callI (hf : PE X fe tf) (w : StX.CallO X.K C g) (F : FnOk X.prog X.w X.K X.mg X.base CX k g fd ps sp) (hr : Room k X.A) (hb : Binds X.K fd ps []) (hx : ∀ σ, PassesAt CX X σ (E σ)) (ha : PA X (e :: es) t)
    (ht : eval (.Call fe (e :: es) [] pos) X.env = (do callWith pos (← eval fe X.env) [] (backTo pos (starEach (e :: es) X.env)) (backToKw pos (keywordEach [] X.env))))
    (he : starEach (e :: es) X.env = (false, eval e X.env) :: starEach es X.env) (hpl : (backTo pos (starEach es X.env)).any (·.1) = false) : PE X (.Call fe (e :: es) [] pos) (tCallI C sp E tf t) := ⟨fun pins s σ H Q I h => by
  refine Call_ (thn (hf.run pins s σ H _ I h) fun u s1 hu => ?_) ht
  obtain ⟨y, H1, I1, ry, z, rfl, q⟩ := hu
  obtain rfl : u = Value.ref z := ry
  refine StX.callO_with (thn (ha.run pos pins s1 σ H1 _ I1 q) fun us s2 hu => ?_) he hpl
  obtain ⟨vs, H2, I2, r, ⟨dx, fv, hz⟩, q2⟩ := hu
  obtain ⟨ox, od, J, hd⟩ := StX.insC_at I2 (C := C) (.inr ⟨dx, fv, hz⟩)
  refine ⟨⟨C, ox, od, J, hd⟩, wpAny_call (PySem.W.kco_code I2.kIn J hd w.at_ w.fn w.fi ?_)⟩
  have hl : (Value.ref z :: us).length = ps.length := by
    have rr : Vals (V.ref z :: vs) (Value.ref z :: us) := .cons rfl r
    rw [← rr.length]
    exact F.len _ _ _ _ q2
  have bd := hb s2 (Value.ref z :: us) I2.kIn (by rw [List.append_nil]; exact hl)
  rw [List.append_nil] at bd
  refine codeAny_mono (F.run X.A X.stack s2 H2 ⟨Value.ref z :: us, []⟩ (Value.ref z :: us) (V.ref z :: vs) Q (E σ) hr I2.env0 bd (.cons rfl r) q2) fun y s' hy => ?_
  match y, hy with
  | .error er, hy => exact hx σ pins H2 s2 er s' I2 hy
  | .ok (.ret u), hy => exact I2.after hy
  | .ok .next, hy => exact hy.elim
  | .ok .brk, hy => exact hy.elim
  | .ok .cont, hy => exact hy.elim⟩
theorem re_callO (tk : Takes X W) (G : FnOk X.prog X.w X.K X.mg X.base (L2.CX X.prog X.w) k g fd ps (spF X.K R)) (hr : Room k X.A) (hb : Binds X.K fd ps []) (w : StX.CallO X.K C g) (hf : RE X W p ρ c fe (.val (.obj C fs) nw c1)) (ha : RA X W p ρ c1 (e :: es) (.val ds c2)) (ho : R (.obj C fs :: ds) c2 o)
    (ht : eval (.Call fe (e :: es) [] pos) X.env = (do callWith pos (← eval fe X.env) [] (backTo pos (starEach (e :: es) X.env)) (backToKw pos (keywordEach [] X.env))) := by rfl)
    (he : starEach (e :: es) X.env = (false, eval e X.env) :: starEach es X.env := by rfl) (hpl : (backTo pos (starEach es X.env)).any (·.1) = false := by rfl) : RE X W p ρ c (.Call fe (e :: es) [] pos) o :=
  pe_imp (pe_callI hf w G hr hb (fun σ => passAt tk σ) ha ht he hpl) fun σ H Q h => ⟨tE_sr h, fun v H1 e1 p1 dv _ => by
    cases dv with
    | @obj y _ dx fv _ hv r =>
      refine ⟨y, rfl, (tE_sr h).mono e1 p1, fun vs H2 e2 p2 dvs => ?_⟩
      have d2 : DV X.K p H2 (.ref y) (.obj C fs) := (DV.obj hv r).mono e2
      have h2 := e2.hide y _ hv
      exact ⟨⟨dx, fv, (hide_some h2).1⟩, p, c2, _, o, .cons d2 dvs, p2, ho, fo_at h (e1.trans e2)⟩⟩
/-! ### o & o', and so on -/
def tBinO (C : Addr) (sp : Sp) (E : L2.St → XK) (ta tb : TE) : TE := fun σ H Q => ta σ H fun x H1 => tb σ H1 fun z H2 => ∃ y y' dx fv dx' fv', x = V.ref y ∧ z = V.ref y' ∧ H2 y = some (.ins C dx fv) ∧ H2 y' = some (.ins C dx' fv') ∧ sp [.ref y, .ref y'] H2 (fun v H' => (∃ r, v = V.ref r) ∧ Q v H') (E σ)
theorem pe_binO {op : Operator} (F : FnOk X.prog X.w X.K X.mg X.base CX k f fd ps sp) (hr : Room k X.A) (hb' : Binds X.K fd ps []) (hx : ∀ σ, PassesAt CX X σ (E σ)) (w : Own X.K C (PySem.dunder op.info.2) f) (hc : PySem.W.selfFirst X.K C = true)
    (ha : PE X a ta) (hb : PE X b tb) : PE X (.BinOp a op b pos) (tBinO C sp E ta tb) := ⟨fun pins s σ H Q I h =>
  wpAny_BinOp (binT ha hb I h fun v u s2 x z H2 I2 rx rz q => by
    obtain ⟨y, y', dx, fv, dx', fv', rfl, rfl, hy, hy', hs⟩ := q
    cases rx
    cases rz
    obtain ⟨ox, od, J⟩ := ins_at I2 hy
    obtain ⟨ox', od', J'⟩ := ins_at I2 hy'
    obtain ⟨m, hF⟩ := I2.fr
    refine PySem.W.binop_K hF I2.ok.mod.kin J J'.type hc w.at_ w.fn (wpAny_mono (run_fnS F hr hb' (hx σ) I2 (.cons (rref y) (.cons (rref y') .nil)) hs) (fun u s' hu => ?_) fun _ _ z => z)
    obtain ⟨v, H', I', rv, ⟨r, rfl⟩, q⟩ := hu
    cases rv
    exact ⟨.ref r, H', I', rfl, q⟩)⟩
def isObj : EO → Prop
  | .val (.obj _ _) _ _ => True
  | .ex _ _ _ => True
  | _ => False
theorem re_binO {op : Operator} (tk : Takes X W) (G : FnOk X.prog X.w X.K X.mg X.base (L2.CX X.prog X.w) k f fd ps (spF X.K R)) (hr : Room k X.A) (hb : Binds X.K fd ps []) (w : Own X.K C (PySem.dunder op.info.2) f) (hc : PySem.W.selfFirst X.K C = true)
    (ha : RE X W p ρ c a (.val (.obj C fs) n1 c1)) (hb' : RE X W p ρ c1 b (.val (.obj C gs) n2 c2)) (ho : R [.obj C fs, .obj C gs] c2 o) (hi : isObj o) : RE X W p ρ c (.BinOp a op b pos) o :=
  pe_imp (pe_binO G hr hb (fun σ => passAt tk σ) w hc ha hb') fun σ H Q h => two (W := W) (tE_sr h) rfl rfl fun v u H1 e1 p1 dv du => by
    cases dv with
    | obj hv r =>
      cases du with
      | obj hv' r' =>
        refine ⟨_, _, _, _, _, _, rfl, rfl, (hide_some hv).1, (hide_some hv').1, p, c2, _, o, .cons (.obj hv r) (.cons (.obj hv' r') .nil), p1, ho, ?_⟩
        cases o with
        | val dz nz cz =>
          cases dz <;> first | exact False.elim hi | skip
          intro w H2 e2 p2 dw hn
          refine ⟨?_, fo_at h e1 w H2 e2 p2 dw hn⟩
          cases dw
          exact ⟨_, rfl⟩
        | ex C' es' cz => exact fo_at h e1
/-! ### o.f = e, of what changes still -/
theorem hide_flat_sub {H : Hp} {y : Addr} {u : HO} (hm : y ∈ p.m) : Sub (hide p.flat H) (hide p.flat (L2.upd H y u)) := fun z q hz => by
  obtain ⟨h1, h2⟩ := hide_some hz
  rw [hide_ne h2, upd_ne (fun q => h2 (.inr (by rw [q]; exact List.mem_append.mpr (.inl hm))))]
  exact h1
def putD (f : Str) (v : D) : List (Str × D) → List (Str × D)
  | [] => [(f, v)]
  | (g, x) :: r => if g = f then (g, v) :: r else (g, x) :: putD f v r
theorem DVf.put {K : PySem.W.Frag} {H : Hp} {f : Str} {v : V} {d : D} (h : DV K p H v d) : ∀ {vs : List (Str × V)} {ds : List (Str × D)}, DVf K p H vs ds → DVf K p H (putF f v vs) (putD f d ds)
  | _, _, .nil => .cons h .nil
  | _, _, .cons (f := g) q r => by
    unfold putF putD
    split
    · exact .cons h r
    · exact .cons q (DVf.put h r)
theorem DVf.len {K : PySem.W.Frag} {H : Hp} : ∀ {vs : List (Str × V)} {ds : List (Str × D)}, DVf K p H vs ds → vs.length = ds.length
  | _, _, .nil => rfl
  | _, _, .cons _ r => by rw [List.length_cons, List.length_cons, DVf.len r]
theorem rs_fldM {i : Nat} {pos' : Pos} (he : RE X W p ρ c e (.val d nw c1)) (ha : RE X W p ρ c1 a (.val (.mut i) n2 c1)) (hc : c1[i]? = some (.ins C fs)) (cl : Cls X.K C) (na : NoAttr X.K C m) (hl : fs.length < 1000) (lo : lowD 0 d = true)
    (hs : swapsWith e (some (.Attribute a m pos')) pos.line X.env = pure false := by rfl) : RS X W p ρ c (.Assign [.Attribute a m pos'] e pos) (.nx ρ (c1.set i (.ins C (putD m d fs)))) :=
  ps_imp (ps_fld ha he hs) fun De σ H ⟨s, kk⟩ => ⟨s, fun v H1 e1 p1 dv _ => ⟨s.mono e1 p1, fun u H2 e2 p2 du hnn => by
    clear hnn
    generalize hm : D.mut i = dm at du
    cases du <;> cases hm
    rename_i y hi
    obtain ⟨dx, fv, hv, r⟩ : CellAt X.K p H2 y (.ins C fs) := p2.1.2.2 i y _ hi hc
    refine ⟨y, C, dx, fv, rfl, hv, cl, na, by rw [r.len]; exact hl, ?_⟩
    have hm := List.mem_of_getElem? hi
    have sb := hide_flat_sub (H := H2) (u := .ins C dx (putF m v fv)) hm
    have dz : DV X.K p.flat (L2.upd H2 y (.ins C dx (putF m v fv))) v d := ((dv.mono e2).low (n := 0) (p := p) (q := p.flat) (fun b q z => by rw [hide_flat]; exact z) (fun _ _ z => absurd z (Nat.not_lt_zero _)) lo).sub sb fun _ _ z => z
    have cell : CellAt X.K p (L2.upd H2 y (.ins C dx (putF m v fv))) y (.ins C (putD m d fs)) := ⟨dx, _, upd_same, DVf.put dz (r.sub sb fun _ _ z => z)⟩
    have pp := p2.put hi cell
    have ext : Ext p H (L2.upd H2 y (.ins C dx (putF m v fv))) := fun b q nb hq => by
      rw [upd_ne (fun z => nb (by rw [z]; exact hm))]
      exact e2 b q nb (e1 b q nb hq)
    exact kk σ _ ext (s.mono ext pp)⟩⟩
/-! ### str(o) -/
theorem run_in2 {pins : List (Addr × Obj)} {σ : L2.St} {H : Hp} {s : Shared} {Q : VK} {us : List Value} {vs : List V} {E' : Value → Shared → Prop} (F : FnOk X.prog X.w X.K X.mg X.base CX0 k f fd ps sp) (hr : Room (k + 1 + 1) X.A) (hb : Binds X.K fd ps [])
    (I : Inv X pins σ H s) (r : Vals vs us) (h : sp vs H Q E0) : wpAny (model X.prog X.w) X.A.in1.in1 (call (.ref f) us) (EP X pins σ Q) E' s := by
  have hl : us.length = ps.length := by
    rw [← r.length]
    exact F.len _ _ _ _ h
  have bd := hb s us I.kIn (by rw [List.append_nil]; exact hl)
  rw [List.append_nil] at bd
  have run := F.run X.A.in1.in1 X.stack s H ⟨us, []⟩ us vs Q E0 hr.in1.in1 I.env0.in1.in1 bd r h
  refine wpAny_call (codeAny_mono run fun z s' hz => ?_)
  match z, hz with
  | .error er, hz => exact hz.elim
  | .ok (.ret u), hz => exact I.after hz
  | .ok .next, hz => exact hz.elim
  | .ok .brk, hz => exact hz.elim
  | .ok .cont, hz => exact hz.elim
def rStrO (C : Addr) (sp : Sp) : List V → Hp → VK → Prop := fun xs H Q => ∃ y dx fv, xs = [.ref y] ∧ H y = some (.ins C dx fv) ∧ sp [.ref y] H (fun v H' => ∃ z, v = .str z ∧ Q (.str z) H') E0
theorem call_strO (F : FnOk X.prog X.w X.K X.mg X.base CX0 k f fd ps sp) (hr : Room (k + 1 + 1) X.A) (hb : Binds X.K fd ps []) (w : Own X.K C "__str__" f) : CallR X (.type "str") (rStrO C sp) := by
  intro pins s σ H xs us Q I rx h
  obtain ⟨y, dx, fv, rfl, hy, hs⟩ := h
  cases rx with
  | cons r1 r2 =>
    cases r2
    cases r1
    obtain ⟨ox, od, J⟩ := ins_at I hy
    refine PySem.W.kso_call hr.in1.in1.units0 I.kIn J w.at_ w.fn (wpAny_mono (run_in2 F hr hb I (.cons (rref y) .nil) hs) (fun u s' hu => ?_) fun _ _ z => z)
    obtain ⟨v, H', I', rv, z, rfl, q⟩ := hu
    obtain ⟨tk, rfl⟩ := rv
    exact ⟨.str z, H', I', ⟨_, rfl⟩, q⟩
theorem cv_strO {z : Str} (ho : R [.obj C fs] c (.val (.str z) n2 c)) : CV X.K p (rStrO C (spF X.K R)) [.obj C fs] (.str z) true c := fun vs H Q dvs hp kk => by
  cases dvs with
  | cons h r =>
    cases r
    cases h with
    | obj hv r => exact ⟨_, _, _, rfl, (hide_some hv).1, p, c, _, _, .cons (.obj hv r) .nil, hp, ho, fun v H2 e2 p2 dw _ => by
        cases dw
        exact ⟨z, rfl, kk (.str z) H2 e2 p2 (.str _) fun _ => New.sc (by intro a h; cases h)⟩⟩
end
end LA

/-! a walk over an object whose __iter__ gives the iterator of a list that it holds -/
namespace LA
open PySem PySem.Spec PyProof.Rows L2
/-- a def whose promise may speak of how large the heap is when it is called -/
structure FnSz (P : Program) (w : World) (K : PySem.W.Frag) (mg : Str → Option Value) (base : Heap) (k : Nat) (f : Addr) (fd : FuncData) (ps : List Str) (sp : Nat → Sp) : Prop where
  len : ∀ n vs H Q E, sp n vs H Q E → vs.length = ps.length
  run : ∀ (A : Around) (outer : List Env) (s : Shared) (H : Hp) (args : Args) (us : List Value) (vs : List V) (Q : VK) (E : XK), Room k A → Env0 P w K mg base A outer s H → BindsTo s fd args (ps.zip us) → Vals vs us → sp s.heap.objs.size vs H Q E →
    codeAny (model P w) A (.call (.ref f) args) (CR CX0 outer P w H s Q E) s
section
variable {P : Program} {w : World} {K : PySem.W.Frag} {mg : Str → Option Value} {base : Heap} {x qual : Str} {st : Stmt} {f : Addr} {fd : FuncData} {N ps : List Str} {k : Nat} {sp : Nat → Sp}
theorem fn_sz (F : Fun K x qual st f fd) (S : FnScope N ps (defScope st)) (hlen : ∀ n vs H Q E, sp n vs H Q E → vs.length = ps.length)
    (body : ∀ (cdv : Value) (A : Around) (outer : List Env) (s : Shared) (H : Hp) (vs : List V) (Q : VK) (E : XK), Room k (A.deeper (envOfC qual (defScope st) s.heap.objs.size f cdv)) → sp s.heap.objs.size vs H Q E →
      ∃ t, PSs (cxOf CX0 P w K mg base N qual (defScope st) f cdv A outer s H E).nox (defBody st) t ∧ t { nx := fun _ H' => Q .non H', rt := Q } (L2.start N vs) H) : FnSz P w K mg base (k + 1) f fd ps sp := by
  obtain ⟨oc, od, kV, doc, pm, an, cdv, ct, osl, rfl, lk, hcd⟩ := F.ex
  constructor
  · exact hlen
  · intro A outer s H args us vs Q E hr e0 hb rv hsp
    have eL := hlen _ _ _ _ _ hsp
    have kin : K.In s.heap := e0.mod.kin.keeps fun b o z => (e0.bs b o z).1
    have nol : s.heap.NoLimit := e0.mod.nolimit.keeps fun b o z => (e0.bs b o z).1
    have kinds : ∀ y ∈ ps.zip us, (defScope st).names.lookup y.1 = some .local ∨ ((defScope st).names.lookup y.1 = some .cell ∧ ((cellsFrom (s.heap.objs.size + 1) (defScope st).names []).lookup y.1).isSome = true) := by
      rintro ⟨n, v⟩ hy
      exact (S.par n (List.of_mem_zip hy).1).elim .inl fun q => .inr ⟨q, PySem.W.cellsFrom_some _ _ _ (.inl q)⟩
    refine codeAny_call_function hr.depth (kin _ _ lk) rfl S.co S.gen rfl (PySem.W.codeRec_of kin hcd) (hb _ _ _ _ (wpAny_newFunctionEnv_cells S.kind kinds fun env he s1 z => ?_))
    subst he
    refine ⟨nol.keeps z.toInCall.keep, codeAny_func ?_⟩
    obtain ⟨t, ht, hq⟩ := body cdv A outer s H vs Q E (hr.deeper _) hsp
    have J := inv_start (CX := CX0) (E := E) S hr.hd e0 eL rv z
    refine wpAny_mono (ht.nox.run [] s1 (L2.start N vs) H _ J hq) (fun fl s' hs => ?_) fun _ _ z => z
    match fl, hs with
    | .ret u, ⟨v, σ', H', J', rr, q⟩ => exact ⟨v, H', J'.os, J'.bare, J'.base, J'.hok, rr, q⟩
    | .next, ⟨σ', H', J', q⟩ => exact ⟨V.non, H', J'.os, J'.bare, J'.base, J'.hok, rfl, q⟩
    | .brk, ⟨_, _, _, q⟩ => exact q.elim
    | .cont, ⟨_, _, _, q⟩ => exact q.elim
end
/-- what such an __iter__ promises -/
def spIter (K : PySem.W.Frag) (C : Addr) (fld : Str) (n : Nat) : Sp := fun vs H Q _ => ∃ y dx fv l zs, vs = [.ref y] ∧ H y = some (.ins C dx fv) ∧ fv.lookup fld = some (.ref l) ∧ SqL K H l zs ∧ ∀ it, H it = none → n ≤ it → Q (.ref it) (L2.upd H it (ItO l it 0))
section
variable {X : Cx} {W : WX} {p : HD} {ρ ρ1 : Rho} {c c1 c2 : PC} {e tg : Expr} {nw : Bool} {k : Nat} {f C : Addr} {fd : FuncData} {ps : List Str} {fs : List (Str × D)} {m : Str}
theorem fn_iter {P : Program} {w : World} {K : PySem.W.Frag} {mg : Str → Option Value} {base : Heap} {x qual : Str} {st : Stmt} {N : List Str} {p1 p2 p3 p4 p5 : Pos} (F : Fun K x qual st f fd) (S : FnScope N ["self"] (defScope st)) (hN : N[0]? = some ("self" : Str)) (cl : Cls K C) (na : NoAttr K C m) (hm : mg "iter" = none)
    (hb : defBody st = [.Return (some (.Call (.Name "iter" p1) [.Attribute (.Name "self" p2) m p3] [] p4)) p5])
    (gl : ∀ (cdv : Value) (A : Around) (outer : List Env) (s : Shared) (H : Hp) (E : XK), Gl (cxOf CX0 P w K mg base N qual (defScope st) f cdv A outer s H E).nox "iter") : FnSz P w K mg base (k + 1) f fd ["self"] (spIter K C m) := by
  refine fn_sz F S (fun n vs H Q E h => ?_) fun cdv A outer s H vs Q E hr h => ?_
  · obtain ⟨y, dx, fv, l, zs, rfl, _⟩ := h
    rfl
  · obtain ⟨y, dx, fv, l, zs, rfl, hy, hl, hq, q⟩ := h
    rw [hb]
    refine ⟨_, pss_one (ps_ret (pe_callB ItX.call_iterN (gl cdv A outer s H E) hm (by first | rfl | decide +kernel) (pa_cons (pe_fld (pe_var (i := 0) hN ((S.par "self" (List.Mem.head _)).elim (fun z => .inl z) (fun z => .inr (.inl z)))) rfl) pa_nil))), ?_⟩
    exact ⟨.ref y, rfl, y, C, dx, fv, .ref l, rfl, hy, cl, na, hl, l, zs, rfl, hq, fun it n1 n2 => q it n1 n2⟩
def iObj (K : PySem.W.Frag) (C : Addr) (fld : Str) (tl : TE) : TI := fun σ H R => tl σ H fun x H1 => ∃ y dx fv l zs, x = .ref y ∧ H1 y = some (.ins C dx fv) ∧ fv.lookup fld = some (.ref l) ∧ SqL K H1 l zs ∧ R (Itl K l) H1
theorem pi_obj {tl : TE} (G : FnSz X.prog X.w X.K X.mg X.base k f fd ps (spIter X.K C m)) (hr : Room k X.A) (hb : Binds X.K fd ps []) (w : Own X.K C "__iter__" f) (hl : PE X e tl) : PI X tg e (iObj X.K C m tl) := ⟨fun pins s σ H R I h =>
  thn (hl.run pins s σ H _ I h) fun v s1 hv => by
    obtain ⟨xv, H1, I1, r1, y, dx, fv, l, zs, rfl, hy, hf, hq, q⟩ := hv
    cases r1
    obtain ⟨ox, od, J⟩ := ins_at I1 hy
    obtain ⟨mm, hF⟩ := I1.fr
    have hsp : spIter X.K C m s1.heap.objs.size [.ref y] H1 (fun z H' => ∃ it, z = .ref it ∧ H1 it = none ∧ s1.heap.objs.size ≤ it ∧ H' = L2.upd H1 it (ItO l it 0)) E0 := ⟨y, dx, fv, l, zs, rfl, hy, hf, hq, fun it n1 n2 => ⟨it, rfl, n1, n2, rfl⟩⟩
    have bd := hb s1 [Value.ref y] I1.kIn (by
      have := G.len _ _ _ _ _ hsp
      rw [List.append_nil]
      exact this)
    rw [List.append_nil] at bd
    have run := G.run X.A X.stack s1 H1 ⟨[.ref y], []⟩ [.ref y] [.ref y] _ E0 hr I1.env0 bd (.cons (rref y) .nil) hsp
    refine PySem.W.owit_iter hF I1.ok.mod.kin J w.at_ w.fn (wpAny_call (codeAny_mono run fun z s' hz => ?_))
    match z, hz with
    | .error er, hz => exact hz.elim
    | .ok .next, hz => exact hz.elim
    | .ok .brk, hz => exact hz.elim
    | .ok .cont, hz => exact hz.elim
    | .ok (.ret u), hz =>
      obtain ⟨v, H', I2, rv, it, rfl, n1, n2, rfl⟩ := I1.after hz
      cases rv
      have hi : L2.upd H1 it (ItO l it 0) it = some (ItO l it 0) := upd_same
      have eo := itO_get I2 hi
      have hT : s'.TypeIs (.ref it) "list_iterator" := ⟨_, eo, rfl⟩
      refine wpAny_specialOf (name := Str.ofString "__next__") hT slot_listiter_next.lookup ?_
      have hi' := hi
      unfold ItO at hi'
      have I3 := ItX.inv_drop I2 hi'
      have fp := ItX.inv_fp I2 hi (Nat.le_trans I1.sz n2)
      rw [ItX.dropH_upd n1] at I3 fp
      refine ⟨it, [it], _, _, H1, rfl, I3, turn_list l it, ⟨_, eo, rfl, rfl⟩, fun b hb' => ?_, q⟩
      obtain rfl : b = it := by simpa using hb'
      exact fp⟩
theorem ri_obj {g : LA.G} {xs : List D} (G : FnSz X.prog X.w X.K X.mg X.base k f fd ps (spIter X.K C m)) (hr : Room k X.A) (hb : Binds X.K fd ps []) (w : Own X.K C "__iter__" f) (h : RE X W p ρ c e (.val (.obj C fs) nw c1)) (hm : fs.lookup m = some (.lst g xs)) : RI X W p ρ c tg e xs c1 :=
  pi_imp (pi_obj G hr hb w h) fun σ H R ⟨s, kk⟩ => ⟨s, fun v H1 e1 p1 dv _ => by
    cases dv with
    | obj hv r =>
      obtain ⟨lv, hl, dl⟩ := r.get hm
      cases dl with
      | @lst a vs _ _ _ hq rr =>
        refine ⟨_, _, _, a, vs, rfl, (hide_some hv).1, hl, un_sqL hq, kk _ H1 e1 p1 fun q c' H2 qe qs p2 => ?_⟩
        have hq2 : SqL X.K H2 a vs := un_sqL (qs.sqL hq)
        refine ⟨⟨vs, hq2, Nat.le_of_eq rr.length⟩, fun i d hd => ?_⟩
        obtain ⟨u, h1, h2⟩ := rr.get hd
        refine ⟨⟨vs, u, hq2, h1⟩, fun z H3 yy => ?_⟩
        obtain ⟨rfl, h3⟩ := yy
        obtain rfl : z = u := Option.some.inj ((h3 vs hq2).symm.trans h1)
        exact ⟨Ext.refl _ _, p2, h2.sub qs (fun i b zz => by rw [qe]; exact zz)⟩⟩
end
end LA

/-! o != o', by an own __eq__ alone -/
namespace LA
open PySem PySem.Spec PyProof.Rows L2 PySem.W
section
variable {prog : Program} {w : World} {A : Around} {E : Value → Shared → Prop} {s : Shared} {K : Frag} {x C f : Addr} {ox : Obj} {od : Option Obj} {b tb : Value} {name : Str} {id : String}
theorem bound_blt {M : Model} {args : List Value} {Q : Option Value → Shared → Prop} (X : K.In s.heap) (I : InstAt s.heap x ox C od) (hs : findIn K (.ref C) name = some (some (.builtin id))) (hb : ∀ self, bindSpecial (.builtin id) self = pure (.builtin id, [self]))
    (h : wpAny M A (call (.builtin id) (.ref x :: args)) (fun v => Q (some v)) E s) : wpAny M A (callSpecialIfBound? (.ref x) name args) Q E s := by
  have done : wpAny M A (call (.builtin id) ([.ref x] ++ args) >>= fun v => pure (some v)) Q E s := wpAny_bind (wpAny_mono h (fun _ _ z => wpAny_pure z) fun _ _ z => z)
  simp only [callSpecialIfBound?, bindSpecialIfBound?]
  refine wpAny_holding (wpAny_bind (wpAny_bind (wpAny_bind (I.type.here ((looks_findIn X hs).here (wpAny_bind (wpAny_askSetting (wpAny_ite ?_))))))))
  split
  · exact wpAny_bind ((Looks.of_pure (hb _)).here (wpAny_pure (by exact done)))
  · exact wpAny_tryCatch (wpAny_bind ((Looks.of_pure (hb _)).here (wpAny_pure (by exact done))))
theorem obj_ne {Q : Value → Shared → Prop} (hu : A.in1.units < cLine) (X : K.In s.heap) (I : InstAt s.heap x ox C od) (hm : mroIn K C (.type "object") = some true) (hs : findIn K (.ref C) "__eq__" = some (some (.ref f))) (hf : isFn K (.ref f) = true)
    (h : wpAny (model prog w) A.in1 (call (.ref f) [.ref x, b]) (fun v s' => ∃ k, v = .bool k ∧ Q (.bool (!k)) s') E s) : wpAny (model prog w) A (call (.builtin "object.__ne__") [.ref x, b]) Q E s := by
  refine wpAny_call (codeAny_call_builtin PySem.F.slot_object_ne.plain PySem.F.cmpEntry_ne (check_slot (i := "object.__ne__") (owner := "object") (n := "__ne__") (by decide +kernel) (by decide +kernel) (I.type.andThen (looks_mroIn X hm)) (PySem.F.cmpArgs_ne _ _) ?_))
  unfold Builtin.«object.__ne__»
  repeat (first
    | with_reducible refine wpAny_cRoomFor hu ?_
    | (refine wpAny_bind (m := callSpecialIfBound? (.ref x) (Str.ofString "__eq__") [b]) (ifBound_K X I hs hf (wpAny_mono h (fun r s' hr => by
          obtain ⟨k, rfl, hq⟩ := hr
          repeat (first | exact hq | exact wpAny_pure hq | exact wpAny_truthy_bool hq | (refine wpAny_bind (m := truthy (.bool _)) (wpAny_truthy_bool ?_)) | wp_step)) fun _ _ e => e)))
    | wp_step)
theorem cmp_ne {Q : Value → Shared → Prop} (hu : A.units < cLine) (hu1 : A.in1.units < cLine) (X : K.In s.heap) (I : InstAt s.heap x ox C od) (hb : Looks (model prog w) s.heap (typeOf b) tb) (hn : notFirst K C tb = true)
    (hm : mroIn K C (.type "object") = some true) (hne : findIn K (.ref C) "__ne__" = some (some (.builtin "object.__ne__"))) (hs : findIn K (.ref C) "__eq__" = some (some (.ref f))) (hf : isFn K (.ref f) = true)
    (h : wpAny (model prog w) A.in1 (call (.ref f) [.ref x, b]) (fun v s' => ∃ k, v = .bool k ∧ Q (.bool (!k)) s') E s) : wpAny (model prog w) A (richCompare .NotEq (.ref x) b) Q E s := by
  have one : wpAny (model prog w) A (tryCompare (.ref x) "__ne__" b) (fun r s' => ∃ k, r = some (.bool k) ∧ Q (.bool k) s') E s := by
    simp only [tryCompare]
    refine wpAny_bind (bound_blt X I hne PySem.F.slot_object_ne.bind (obj_ne hu1 X I hm hs hf (wpAny_mono h (fun v s' hv => ?_) fun _ _ z => z)))
    obtain ⟨k, rfl, hq⟩ := hv
    exact ⟨k, rfl, wpAny_pure ⟨_, rfl, hq⟩⟩
  unfold richCompare
  simp only [oneThing_ref]
  refine wpAny_holding (wpAny_bind (wpAny_cRoomFor hu (wpAny_bind (I.type.here (wpAny_bind (hb.here ?_))))))
  rw [cmpInfo_NotEq]
  dsimp only
  split
  · rename_i q
    have e : subIn K tb (.ref C) = some false := (Bool.or_eq_true_iff.mp hn).elim (fun e => by
      rw [beq_iff_eq.mp e] at q
      simp at q) fun e => beq_iff_eq.mp e
    refine wpAny_bind ((looks_subIn X e).here ?_)
    simp only [Bool.false_eq_true, if_false]
    refine wpAny_bind (wpAny_mono one (fun r s' z => ?_) fun _ _ z => z)
    obtain ⟨k, rfl, hq⟩ := z
    exact wpAny_pure hq
  · refine wpAny_bind (wpAny_pure ?_)
    simp only [Bool.false_eq_true, if_false]
    refine wpAny_bind (wpAny_mono one (fun r s' z => ?_) fun _ _ z => z)
    obtain ⟨k, rfl, hq⟩ := z
    exact wpAny_pure hq
end
section
variable {X : Cx} {W : WX} {p : HD} {c : PC} {k : Nat} {f C : Addr} {fd : FuncData} {ps : List Str} {R : FSpec} {sp : Sp} {n2 : Bool} {fs gs : List (Str × D)}
def rNeO (C : Addr) (sp : Sp) : R2 := fun x z H Q => ∃ y y' dx fv dx' fv', x = .ref y ∧ z = .ref y' ∧ H y = some (.ins C dx fv) ∧ H y' = some (.ins C dx' fv') ∧ sp [.ref y, .ref y'] H (fun v H' => ∃ k : Bool, v = .bl k ∧ Q (.bl (!k)) H') E0
theorem op_neO (F : FnOk X.prog X.w X.K X.mg X.base CX0 k f fd ps sp) (hr : Room (k + 1) X.A) (hb : Binds X.K fd ps []) (w : Own X.K C "__eq__" f) (hm : mroIn X.K C (.type "object") = some true) (hne : findIn X.K (.ref C) "__ne__" = some (some (.builtin "object.__ne__"))) : OpR X (compareOp .NotEq) (rNeO C sp) := by
  intro pins s σ H x z v u Q I rx rz h
  obtain ⟨y, y', dx, fv, dx', fv', rfl, rfl, hy, hy', hs⟩ := h
  cases rx
  cases rz
  obtain ⟨ox, od, J⟩ := ins_at I hy
  obtain ⟨ox', od', J'⟩ := ins_at I hy'
  show wpAny (model X.prog X.w) X.A (richCompare .NotEq _ _) (EP X pins σ Q) X.xe s
  refine cmp_ne (tb := .ref C) hr.units0 hr.in1.units0 I.kIn J J'.type (by simp [PySem.W.notFirst]) hm hne w.at_ w.fn (wpAny_mono (run_in F hr hb I (.cons (rref y) (.cons (rref y') .nil)) hs) (fun u s' hu => ?_) fun _ _ z => z)
  obtain ⟨v, H', I', rv, k, rfl, q⟩ := hu
  cases rv
  exact ⟨k, rfl, .bl (!k), H', I', rfl, q⟩
theorem ov_neO {kb : Bool} (ho : R [.obj C fs, .obj C gs] c (.val (.bl kb) n2 c)) : OV X.K p (rNeO C (spF X.K R)) (.obj C fs) (.obj C gs) (.bl (!kb)) true c := fun v u H Q dv du hp kk => by
  cases dv with
  | obj hv r =>
    cases du with
    | obj hv' r' => exact ⟨_, _, _, _, _, _, rfl, rfl, (hide_some hv).1, (hide_some hv').1, p, c, _, _, .cons (.obj hv r) (.cons (.obj hv' r') .nil), hp, ho, fun v H2 e2 p2 dw _ => by
        cases dw
        exact ⟨kb, rfl, kk (.bl _) H2 e2 p2 (.bl _) fun _ => New.sc (by intro a h; cases h)⟩⟩
end
end LA

/-! int(t, 2) -/
namespace LA
open PySem PySem.Spec PyProof.Rows L2 PySem.NumText PySem.Calls L2.Hx
/-- the signs 0 and 1 -/
def IsB (c : Nat) : Prop := c = 48 ∨ c = 49
theorem IsB.hex {c : Nat} (h : IsB c) : IsHex c := .inl (by unfold IsB at h; omega)
theorem IsB.worth {c : Nat} (h : IsB c) : digit? c = some (c - 48) := by
  rw [digit_hex h.hex]
  unfold hv
  rw [if_pos (by unfold IsB at h; omega)]
theorem IsB.low {c : Nat} (h : IsB c) : c - 48 < 2 := by
  unfold IsB at h
  omega
def binNum (l : List Nat) : Nat := l.foldl (fun a c => a * 2 + (c - 48)) 0
theorem bin_step {ds : Array Nat} {b : Bool} {c : Nat} (h : IsB c) : PySem.NumText.step 2 (ds, b) c = some (ds.push (c - 48), true) := by
  have n95 : ¬ (c == 95) = true := fun z => by
    have := beq_iff_eq.mp z
    unfold IsB at h
    omega
  unfold PySem.NumText.step
  rw [if_neg n95, h.worth]
  exact if_pos h.low
theorem bin_fold : ∀ (cs : List Nat) (ds : Array Nat), (∀ c ∈ cs, IsB c) → cs.foldlM (PySem.NumText.step 2) (ds, true) = some (cs.foldl (fun acc c => acc.push (c - 48)) ds, true)
  | [], _, _ => rfl
  | c :: cs, ds, h => by
    rw [List.foldlM_cons, bin_step (h c List.mem_cons_self)]
    exact bin_fold cs (ds.push (c - 48)) fun z hz => h z (List.mem_cons_of_mem _ hz)
theorem bin_digits {cs : List Nat} (h : ∀ c ∈ cs, IsB c) (hne : cs ≠ []) : digits? 2 cs = some (cs.foldl (fun acc c => acc.push (c - 48)) #[]) := by
  match cs, hne with
  | c :: cs, _ =>
    unfold digits?
    rw [List.foldlM_cons, bin_step (h c List.mem_cons_self)]
    show (cs.foldlM (PySem.NumText.step 2) ((#[] : Array Nat).push (c - 48), true)).bind _ = _
    rw [bin_fold cs _ fun z hz => h z (List.mem_cons_of_mem _ hz)]
    rfl
theorem bin_push : ∀ (cs : List Nat) (ds : Array Nat), (cs.foldl (fun acc c => acc.push (c - 48)) ds).foldl (fun acc d => acc * 2 + d) 0 = cs.foldl (fun a c => a * 2 + (c - 48)) (ds.foldl (fun acc d => acc * 2 + d) 0)
  | [], _ => rfl
  | c :: cs, ds => by
    rw [List.foldl_cons, bin_push cs (ds.push (c - 48)), List.foldl_cons]
    congr 1
    simp
theorem bin_based {cs : List Nat} (h : ∀ c ∈ cs, IsB c) : based 2 cs = (2, false, cs) := match cs, h with
  | [], _ => rfl
  | [a], h => by rcases (show a = 48 ∨ a = 49 from h a List.mem_cons_self) with rfl | rfl <;> rfl
  | a :: c :: r, h => by
    rcases (show a = 48 ∨ a = 49 from h a List.mem_cons_self) with rfl | rfl
    · rcases (show c = 48 ∨ c = 49 from h c (List.mem_cons_of_mem _ List.mem_cons_self)) with rfl | rfl <;> rfl
    · rfl
theorem bin_read {cs : List Nat} (h : ∀ c ∈ cs, IsB c) (hne : cs ≠ []) : (int_private% "readNumeral") 0 2 cs = (int_private% "Numeral.value") ((binNum cs : Nat) : Int) := by
  have hh : ∀ c ∈ cs, IsHex c := fun c hc => (h c hc).hex
  have hr : ∀ c ∈ cs.reverse, IsHex c := fun c hc => hh c (List.mem_reverse.mp hc)
  refine (readNumeral_eq 0 2 cs).trans ?_
  rw [dropB hh, signH hh]
  show judge 0 false (based 2 cs).1 (based 2 cs).2.1 (digits? (based 2 cs).1 (((based 2 cs).2.2.reverse.dropWhile PySem.NumText.blank).reverse)) = _
  rw [bin_based h]
  show judge 0 false 2 false (digits? 2 ((cs.reverse.dropWhile PySem.NumText.blank).reverse)) = _
  rw [dropB hr, List.reverse_reverse, bin_digits h hne]
  show (int_private% "Numeral.value") (((cs.foldl (fun acc c => acc.push (c - 48)) (#[] : Array Nat)).foldl (fun acc d => acc * 2 + d) 0 : Nat) : Int) = _
  have z : (#[] : Array Nat).foldl (fun acc d => acc * 2 + d) 0 = 0 := by first | rfl | simp
  rw [bin_push, z] <;> rfl
theorem bin_gives {x : PySem.Str} {u t : Tok} (hl : x.length ≤ 640) (h : ∀ c ∈ x.cps.toList, IsB c) (hne : x.cps.toList ≠ []) : Gives (Builtin.«int.__new__» ⟨[.type "int", .str x u, .int 2 t], []⟩) (.int ((binNum x.cps.toList : Nat) : Int)) := .of_wp fun M A E s Q hQ => by
  have a1 := F.conv_sub_int
  have a2 := F.madeHere_int
  have a3 : typeOf (.str x u) = pure (.type "str") := rfl
  have seen := seen_hex (x := x) fun c hc => (h c hc).hex
  have k1 : (numSeenOf x).length ≤ 640 := by
    rw [seen.2, Array.length_toList]
    exact hl
  have k2 : (int_private% "readNumeral") 0 2 (numSeenOf x) = (int_private% "Numeral.value") ((binNum x.cps.toList : Nat) : Int) := by
    rw [seen.2]
    exact bin_read h hne
  have k3 : ((numSeenOf x).length == (numTextOf x).length) = true := by
    rw [seen.1, seen.2]
    exact beq_self_eq_true _
  have k := Hid.mk (And.intro k1 (And.intro k2 k3))
  clear k1 k2 k3 seen hl hne h
  obtain ⟨hp, gens, dr, tk, os⟩ := s
  repeat (any_goals (first | assumption | ((with_reducible show wpAny _ _ ((int_private% "intFromText") _ _ _) _ _ _); refine wp_textB k.out.1 k.out.2.1 k.out.2.2 ?_) | wp_step))
  all_goals first | exact ⟨_, rfl, hQ⟩ | skip
theorem bin_call {prog : Program} {w : World} {A : Around} {E : Value → Shared → Prop} {s : Shared} {Q : Value → Shared → Prop} {x : PySem.Str} {u t : Tok} (hl : x.length ≤ 640) (h : ∀ c ∈ x.cps.toList, IsB c) (hne : x.cps.toList ≠ [])
    (hQ : Q (.int ((binNum x.cps.toList : Nat) : Int) s.toks) { s with toks := s.toks + 1 }) : wpAny (model prog w) A (call (.type "int") [.str x u, .int 2 t]) Q E s :=
  callType_new F.called_int F.newNe_int (typeCall_int_2 _ _) (newCall_int_2 _ _) (fun obj => F.initArgs_range_2 obj _ _) F.entry_int_new (bin_gives hl h hne).meets (show (Made.int ((binNum x.cps.toList : Nat) : Int)).post _ s from ⟨rfl, hQ⟩)
def rBin : List V → Hp → VK → Prop := fun xs H Q => ∃ z : Str, xs = [.str z, .int 2] ∧ z.cps.toList ≠ [] ∧ z.length ≤ 640 ∧ (∀ c ∈ z.cps.toList, IsB c) ∧ Q (.int ((binNum z.cps.toList : Nat) : Int)) H
theorem call_bin {X : Cx} : CallR X (.type "int") rBin := by
  intro pins s σ H xs us Q I r h
  obtain ⟨z, rfl, hne, hl, hb, q⟩ := h
  obtain ⟨u, u', rfl, r1, r2⟩ := vals2 r
  obtain ⟨t1, rfl⟩ := r1
  obtain ⟨t2, rfl⟩ := r2
  exact bin_call hl hb hne ⟨.int ((binNum z.cps.toList : Nat) : Int), H, I.tok _, ⟨_, rfl⟩, q⟩
theorem cv_bin {K : PySem.W.Frag} {p : HD} {c : PC} {z : Str} (hl : z.length ≤ 640) (hb : ∀ c ∈ z.cps.toList, IsB c) (hne : z.cps.toList ≠ []) : CV K p rBin [.str z, .int 2] (.int ((binNum z.cps.toList : Nat) : Int)) true c := fun vs H Q dvs hp k => by
  match vs, dvs with
  | _, .cons h1 (.cons h2 .nil) =>
    cases h1
    cases h2
    exact ⟨z, rfl, hne, hl, hb, k _ H (Ext.refl _ _) hp (.int _) fun _ => New.sc (by intro a h; cases h)⟩
end LA

/-! list(o) of an object with an own __len__, whose __iter__ gives the iterator of a list that it holds -/
namespace LA
open PySem PySem.Spec PyProof.Rows L2 PySem.W
section
variable {prog : Program} {w : World} {A : Around} {E : Value → Shared → Prop} {s : Shared} {K : Frag} {y C f : Addr} {ox : Obj} {od : Option Obj}
theorem hint_own {Q : Bool → Shared → Prop} (X : K.In s.heap) (J : InstAt s.heap y ox C od) (hs : findIn K (.ref C) "__len__" = some (some (.ref f)))
    (h : wpAny (model prog w) A (call (.builtin "len") [.ref y]) (fun v s' => ∃ (n : Nat) (t : Tok), v = .int n t ∧ n < 100000 ∧ ∀ r, Q r s') (fun _ _ => False) s) : wpAny (model prog w) A (Builtin.List.listLengthHint (.ref y)) Q E s := by
  unfold Builtin.List.listLengthHint
  refine wpAny_bind (wpAny_bind (J.type.here ((looks_findIn X hs).here ?_)))
  refine KFB.if_not rfl ?_
  refine wpAny_ite_true rfl ?_
  refine wpAny_bind (wpAny_rule ?_)
  refine wpAny_bind (wpAny_attempt (wpAny_mono h (fun v s' hv => ?_) fun e s' he => ?_))
  · obtain ⟨n, t, rfl, hn, hq⟩ := hv
    dsimp only
    have nl : Builtin.List.listTooLong ((n : Int)).toNat = false := by
      rw [Int.toNat_natCast]
      exact notLongL (Nat.le_of_lt (sz_lt hn))
    repeat (any_goals (first | exact hq _ | exact wpAny_pure (hq _) | (refine KFB.if_not nl ?_) | wp_step))
  · exact he.elim
end
section
variable {X : Cx} {W : WX} {p : HD} {c : PC} {ki kl : Nat} {fi fl C : Addr} {fdi fdl : FuncData} {psi psl : List Str} {R : FSpec} {m : Str} {fs : List (Str × D)}
/-- the rest of a list goes behind the new one -/
theorem fill_it {pins : List (Addr × Obj)} {σ : L2.St} {H : Hp} {A1 : Around} {q it l : Addr} {zs : List V} {Rs : Result → Shared → Prop} (hh : A1.in1.handled = none) (ne : q ≠ l) (hz : zs.length < 100000) (hl : SqL X.K H l zs) (fp : FpOk X pins H it)
    (ni : q ≠ it) (hdone : ∀ s, Inv X pins σ (L2.upd H q (.lst zs)) s → Rs (.ok (.ret .none)) s) : ∀ (n i : Nat) (s : Shared), n = zs.length - i → i ≤ zs.length → Inv X pins σ (L2.upd H q (.lst (zs.take i))) s → s.heap.IsListIter it l i →
      codeAny (model X.prog X.w) A1 (.builtin "list.extend.loop" ⟨[.ref q, .ref it, .none], []⟩) Rs s := by
  have hl' : ∀ ys, SqL X.K (L2.upd H q (.lst ys)) l zs := fun ys => by
    have e : L2.upd H q (.lst ys) l = H l := upd_ne (Ne.symm ne)
    unfold SqL Rd at hl ⊢
    simp only [e]
    exact hl
  obtain ⟨f0, f1, f2, f3, f4, f5⟩ := fp
  have f0' : ∀ ys, L2.upd H q (.lst ys) it = none := fun ys => by
    rw [upd_ne (Ne.symm ni)]
    exact f0
  intro n
  induction n with
  | zero =>
    intro i s hn hi I st
    refine codeAny_builtin PySem.F.entry_extend_loop ?_
    rw [Around.under_plainId PySem.F.plain_extend_loop _]
    have ei : i = zs.length := by omega
    subst ei
    rw [List.take_length] at I
    obtain ⟨its, rv, pl, _⟩ := I.list (hl' _)
    have el := rv.length
    refine wpAny_bind (wpAny_pyNext_list_end hh st pl.isList (by simp; omega) fun h' eb => ?_)
    exact wpAny_pure (hdone _ (I.turned (t' := s.toks) (fun b o hb e => eb b o hb e) (f0' _) f1 f3 f4 f5))
  | succ n ih =>
    intro i s hn hi I st
    refine codeAny_builtin PySem.F.entry_extend_loop ?_
    rw [Around.under_plainId PySem.F.plain_extend_loop _]
    have li : i < zs.length := by omega
    obtain ⟨its, rv, pl, _⟩ := I.list (hl' _)
    obtain ⟨u, hu, ru⟩ := rv.get (List.getElem?_eq_getElem li)
    refine wpAny_bind (wpAny_pyNext_list_item st pl.isList (x := u) (by simpa using hu) fun h' st' sb => ?_)
    have I1 := I.turned (t' := s.toks) (fun b o hb e => (sb.2 b hb).trans e) (f0' _) f1 f3 f4 f5
    obtain ⟨z, its2, k, r2, h2, e⟩ := I1.lstM (l := q) upd_same
    have sz : its2.length < 100000 := by
      rw [← h2, List.length_take]
      omega
    refine wpAny_bind (wpAny_updateSeq e rfl (wpAny_pure ⟨plainId_quiet PySem.F.plain_extend_loop _, ?_⟩) (by rw [List.size_toArray]; exact Nat.le_of_lt (sz_lt sz)) (by rw [Array.size_push, List.size_toArray]; exact Nat.le_succ_of_le (Nat.succ_le_of_lt (sz_lt sz))))
    have J := I1.lset (f := (·.push u)) (its' := its2 ++ [u]) (t' := s.toks) upd_same e (by simp) (r2.append (.cons ru .nil)) (by
      rw [List.length_append, List.length_take, List.length_singleton]
      exact sz_le (by omega))
    rw [upd_upd] at J
    have tk : zs.take i ++ [zs[i]] = zs.take (i + 1) := by rw [List.take_add_one, List.getElem?_eq_getElem li]; rfl
    rw [tk] at J
    refine ih (i + 1) _ (by omega) (by omega) J ?_
    refine st'.at fun o ho => ?_
    exact (Heap.get?_update_other _ _ ni).trans ho
theorem run_on {k : Nat} {f : Addr} {fd : FuncData} {ps : List Str} {sp : Sp} {A1 : Around} {pins : List (Addr × Obj)} {σ : L2.St} {H : Hp} {s : Shared} {Q : VK} {us : List Value} {vs : List V} {E' : Value → Shared → Prop} (F : FnOk X.prog X.w X.K X.mg X.base CX0 k f fd ps sp) (hr : Room k A1) (he : Env0 X.prog X.w X.K X.mg X.base A1 X.stack s H)
    (hb : Binds X.K fd ps []) (I : Inv X pins σ H s) (r : Vals vs us) (h : sp vs H Q E0) : wpAny (model X.prog X.w) A1 (call (.ref f) us) (EP X pins σ Q) E' s := by
  have hl : us.length = ps.length := by
    rw [← r.length]
    exact F.len _ _ _ _ h
  have bd := hb s us I.kIn (by rw [List.append_nil]; exact hl)
  rw [List.append_nil] at bd
  refine wpAny_call (codeAny_mono (F.run A1 X.stack s H ⟨us, []⟩ us vs Q E0 hr he bd r h) fun z s' hz => ?_)
  match z, hz with
  | .error er, hz => exact hz.elim
  | .ok (.ret u), hz => exact I.after hz
  | .ok .next, hz => exact hz.elim
  | .ok .brk, hz => exact hz.elim
  | .ok .cont, hz => exact hz.elim
def rListO (K : Frag) (C : Addr) (m : Str) (spl : Sp) : List V → Hp → VK → Prop := fun xs H Q => ∃ y dx fv l zs, xs = [V.ref y] ∧ H y = some (.ins C dx fv) ∧ fv.lookup m = some (.ref l) ∧ SqL K H l zs ∧ zs.length < 100000 ∧
  ∀ q it, H q = none → H it = none → q ≠ it → spl [.ref y] (L2.upd (L2.upd H q (.lst [])) it (ItO l it 0)) (fun v H' => (∃ n : Nat, n < 100000 ∧ v = .int n) ∧ H' q = some (.lst []) ∧ H' it = some (ItO l it 0) ∧ SqL K H' l zs ∧ Q (.ref q) (L2.upd (ItX.dropH H' it) q (.lst zs))) E0
theorem call_listO {spl : Sp} (hc : X.calm = true) (Gi : FnSz X.prog X.w X.K X.mg X.base ki fi fdi psi (spIter X.K C m)) (hri : Room (ki + 1 + 1) X.A) (hbi : Binds X.K fdi psi []) (wi : Own X.K C "__iter__" fi)
    (Gl : FnOk X.prog X.w X.K X.mg X.base CX0 kl fl fdl psl spl) (hrl : Room (kl + 1 + 1 + 1) X.A) (hbl : Binds X.K fdl psl []) (wl : Own X.K C "__len__" fl) : CallR X (.type "list") (rListO X.K C m spl) := by
  intro pins s σ H xs us Q I rv h
  obtain ⟨y, dx, fv, l, zs, rfl, hy, hf, hq, hz, hk⟩ := h
  obtain ⟨u, rfl, ru⟩ := rv.one
  cases ru
  let nl : Obj := { cls := .type "list", data := .seq #[] }
  let q := s.heap.objs.size
  refine callType_codes (Q₁ := fun ob t => ob = .ref q ∧ t = { s with heap := s.heap.push nl }) PySem.F.called_list (PySem.F.typeCall_list_1 _) PySem.F.entry_list_init (code_list_new _ ⟨rfl, rfl⟩) fun ob t ht => ?_
  obtain ⟨rfl, rfl⟩ := ht
  have at_q : (s.heap.push nl).get? q = some nl := Heap.get?_push_size _ rfl
  refine ⟨⟨_, at_q, rfl⟩, PySem.F.args_list_init_2 _ _, ?_⟩
  have nq : H q = none := I.hok.fresh (Nat.le_refl _)
  have neL : q ≠ l := by
    obtain ⟨its, _, pl, _⟩ := I.list hq
    obtain ⟨o, ho, _⟩ := pl.isList
    exact Nat.ne_of_gt (Heap.lt_size ho)
  have I1 : Inv X pins σ (L2.upd H q (.lst [])) { s with heap := s.heap.push nl } := I.lnew (its := []) (t' := s.toks) .nil (Nat.zero_le _)
  show wpAny _ _ (do
    let old ← Builtin.List.listItems (.ref q)
    Builtin.List.listUpdate (.ref q) (fun _ => #[])
    letGo old.toList.reverse
    Builtin.List.listExtendWith (.ref q) (.ref y) .none) _ _ _
  refine wpAny_bind ?_
  unfold Builtin.List.listItems
  refine wpAny_bind (wpAny_seqItems at_q rfl (wpAny_pure ?_))
  show wpAny _ _ (do
    updateSeq q (fun _ => #[])
    letGo (#[] : Array Value).toList.reverse
    Builtin.List.listExtendWith (.ref q) (.ref y) .none) _ _ _
  refine wpAny_bind (wpAny_updateSeq at_q rfl ?_)
  have I2 := I1.lset (f := fun _ => #[]) (its := []) (its' := []) (ys := []) (t' := s.toks) upd_same at_q rfl .nil (Nat.zero_le _)
  rw [upd_upd] at I2
  refine wpAny_bind (wpAny_letGo ?_)
  have hy2 : L2.upd H q (.lst []) y = some (.ins C dx fv) := by
    rw [upd_ne (ne_of_none hy nq)]
    exact hy
  have hq2 : SqL X.K (L2.upd H q (.lst [])) l zs := by
    have e : L2.upd H q (.lst []) l = H l := upd_ne (Ne.symm neL)
    unfold SqL Rd at hq ⊢
    simp only [e]
    exact hq
  obtain ⟨ox, od, J⟩ := ins_at I2 hy2
  obtain ⟨mm, hF⟩ := I2.fr
  have neY : q ≠ y := fun z => by
    rw [← z, nq] at hy
    cases hy
  unfold Builtin.List.listExtendWith
  refine wpAny_bind (J.type.here ?_)
  have b1 : Builtin.List.listSameRef (.ref q) (.ref y) = false := by simp [Builtin.List.listSameRef, neY]
  have b2 : (Value.ref C == Value.type "list") = false := rfl
  have b3 : (Value.ref C == Value.type "tuple") = false := rfl
  simp only [b1, b2, b3, Bool.or_false, Bool.false_eq_true, if_false]
  -- __iter__
  refine wpAny_bind (PySem.W.owit_iter hF I2.ok.mod.kin J wi.at_ wi.fn ?_)
  generalize hs2 : ({ s with heap := (s.heap.push nl).update q (Obj.mapSeq fun _ => #[]), toks := s.toks } : Shared) = s2 at I2
  have gi : spIter X.K C m s2.heap.objs.size [.ref y] (L2.upd H q (.lst [])) (fun z H' => ∃ it, z = .ref it ∧ L2.upd H q (.lst []) it = none ∧ s2.heap.objs.size ≤ it ∧ H' = L2.upd (L2.upd H q (.lst [])) it (ItO l it 0)) E0 := ⟨y, dx, fv, l, zs, rfl, hy2, hf, hq2, fun it n1 n2 => ⟨it, rfl, n1, n2, rfl⟩⟩
  have bd := hbi s2 [Value.ref y] I2.kIn (by
    have := Gi.len _ _ _ _ _ gi
    rw [List.append_nil]
    exact this)
  rw [List.append_nil] at bd
  refine wpAny_call (codeAny_mono (Gi.run X.A.in1.in1 X.stack s2 _ ⟨[.ref y], []⟩ [.ref y] [.ref y] _ E0 hri.in1.in1 I2.env0.in1.in1 bd (.cons (rref y) .nil) gi) fun z s' hz' => ?_)
  match z, hz' with
  | .error er, hz' => exact hz'.elim
  | .ok .next, hz' => exact hz'.elim
  | .ok .brk, hz' => exact hz'.elim
  | .ok .cont, hz' => exact hz'.elim
  | .ok (.ret u), hz' =>
    obtain ⟨v, H', I3, rv', it, rfl, n1, n2, rfl⟩ := I2.after hz'
    cases rv'
    have hi : L2.upd (L2.upd H q (.lst [])) it (ItO l it 0) it = some (ItO l it 0) := upd_same
    have hT : s'.TypeIs (.ref it) "list_iterator" := ⟨_, itO_get I3 hi, rfl⟩
    have nqi : q ≠ it := fun z => by
      rw [← z, upd_same] at n1
      cases n1
    have nit : H it = none := by
      rw [upd_ne (Ne.symm nqi)] at n1
      exact n1
    refine wpAny_specialOf (name := Str.ofString "__next__") hT slot_listiter_next.lookup ?_
    -- the length
    have hy3 : L2.upd (L2.upd H q (.lst [])) it (ItO l it 0) y = some (.ins C dx fv) := by
      rw [upd_ne (ne_of_none hy2 n1)]
      exact hy2
    obtain ⟨ox3, od3, J3⟩ := ins_at I3 hy3
    obtain ⟨mm3, hF3⟩ := I3.fr
    refine wpAny_bind (wpAny_holding (hint_own I3.kIn J3 wl.at_ (PySem.W.len_K hF3 I3.ok.mod.kin J3 wl.at_ wl.fn (wpAny_mono (run_on Gl hrl.in1.in1.in1 I3.env0.in1.in1.in1 hbl I3 (.cons (rref y) .nil) (hk q it nq nit nqi)) (fun u s4 hu => ?_) fun _ _ z => z))))
    obtain ⟨v4, H4, I4, rv4, ⟨n, hn, rfl⟩, hq4, hi4, hl4, fin⟩ := hu
    obtain ⟨tk4, rfl⟩ := rv4
    refine ⟨⟨Int.natCast_nonneg n, by omega⟩, n, _, rfl, hn, fun rr => ?_⟩
    have I5 : Inv X pins σ H4 { s4 with toks := s4.toks + 1 } := I4.tok _
    have eo := itO_get I5 hi4
    have hi4' := hi4
    unfold ItO at hi4'
    have sz : X.s_0.heap.objs.size ≤ it := Nat.le_trans I2.sz n2
    have I6 := ItX.inv_drop I5 hi4'
    have fp := ItX.inv_fp I5 hi4 sz
    have hqd : ItX.dropH H4 it q = some (.lst []) := by
      rw [ItX.dropH_ne nqi]
      exact hq4
    have nel : it ≠ l := by
      obtain ⟨its, _, pl, _⟩ := I5.list hl4
      rintro rfl
      obtain ⟨o, ho, ec, _⟩ := pl.isList
      rw [eo] at ho
      cases ho
      exact absurd (Value.type.inj (show Value.type "list_iterator" = Value.type "list" from ec)) (by decide)
    have hld : SqL X.K (ItX.dropH H4 it) l zs := ItX.sqL_drop hl4 nel
    have same : L2.upd (ItX.dropH H4 it) q (.lst []) = ItX.dropH H4 it := by
      funext b
      by_cases hb : b = q
      · rw [hb, upd_same, hqd]
      · rw [upd_ne hb]
    have loop := fill_it (X := X) (A1 := X.A.in1) (Rs := wants (fun r s₂ => r = .none ∧ EP X pins σ Q (.ref q) s₂) X.xe) (I5.ok.hd hc) neL hz hld fp nqi fun s₂ I₂ => ⟨rfl, .ref q, _, I₂, rfl, fin⟩
    have st : ({ s4 with toks := s4.toks + 1 } : Shared).heap.IsListIter it l 0 := ⟨_, eo, rfl, rfl⟩
    refine wpAny_ite_split (fun _ => ?_) (fun _ => wpAny_pure ⟨plainId_quiet PySem.F.plain_extend_loop _, loop _ 0 _ rfl (Nat.zero_le _) (by rw [List.take_zero, same]; exact I6) st⟩)
    refine wpAny_bind (wpAny_rule (wpAny_bind ?_))
    show wpAny _ _ (updateSeq q (·.push .none) >>= fun _ => updateSeq q (·.pop)) _ _ _
    obtain ⟨_, ia, ka, ra, _, ea⟩ := I6.lstM hqd
    cases ra
    refine wpAny_bind (wpAny_updateSeq ea rfl ?_)
    have I7 := I6.lset (f := (·.push Value.none)) (its' := [Value.none]) (ys := [.non]) (t' := s4.toks + 1) hqd ea (by simp) (.cons rfl .nil) (sz_le (by decide))
    obtain ⟨_, ib, kb, rb, _, eb⟩ := I7.lstM upd_same
    obtain ⟨ub, rfl, rub⟩ := rb.one
    refine wpAny_updateSeq eb rfl ?_ (show 1 ≤ sizeLine from sz_le (by decide)) (Nat.zero_le _)
    have I8 := I7.lset (f := (·.pop)) (its := [ub]) (its' := []) (ys := []) (t' := s4.toks + 1) upd_same eb (by rfl) .nil (Nat.zero_le _)
    rw [upd_upd] at I8
    refine wpAny_pure ⟨plainId_quiet PySem.F.plain_extend_loop _, loop _ 0 _ rfl (Nat.zero_le _) (by rw [List.take_zero]; exact I8) ?_⟩
    refine st.at fun o ho => ?_
    exact (Heap.get?_update_other _ _ nqi).trans ((Heap.get?_update_other _ _ nqi).trans ho)
/-- what such a __len__ promises -/
def spLen (K : Frag) (C : Addr) (fld : Str) : Sp := fun vs H Q _ => ∃ y dx fv l zs, vs = [V.ref y] ∧ H y = some (.ins C dx fv) ∧ fv.lookup fld = some (.ref l) ∧ SqL K H l zs ∧ Q (.int (zs.length : Nat)) H
theorem fn_len {P : Program} {w : World} {K : Frag} {mg : Str → Option Value} {base : Heap} {k : Nat} {f : Addr} {fd : FuncData} {x qual : Str} {st : Stmt} {N : List Str} {p1 p2 p3 p4 p5 : Pos} (F : Fun K x qual st f fd) (S : FnScope N ["self"] (defScope st)) (hN : N[0]? = some ("self" : Str)) (cl : Cls K C) (na : NoAttr K C m) (hm : mg "len" = none)
    (hb : defBody st = [.Return (some (.Call (.Name "len" p1) [.Attribute (.Name "self" p2) m p3] [] p4)) p5])
    (gl : ∀ (cdv : Value) (A : Around) (outer : List Env) (s : Shared) (H : Hp) (E : XK), Gl (cxOf CX0 P w K mg base N qual (defScope st) f cdv A outer s H E).nox "len") : FnOk P w K mg base CX0 (k + 1) f fd ["self"] (spLen K C m) := by
  refine F.ok S (fun vs H Q E h => ?_) fun cdv A outer s H vs Q E hr h => ?_
  · obtain ⟨y, dx, fv, l, zs, rfl, _⟩ := h
    rfl
  · obtain ⟨y, dx, fv, l, zs, rfl, hy, hl, hq, q⟩ := h
    rw [hb]
    refine ⟨_, pss_one (ps_ret (pe_callB call_len_seq (gl cdv A outer s H E) hm (by first | rfl | decide +kernel) (pa_cons (pe_fld (pe_var (i := 0) hN ((S.par "self" (List.Mem.head _)).elim (fun z => .inl z) (fun z => .inr (.inl z)))) rfl) pa_nil))), ?_⟩
    exact ⟨.ref y, rfl, y, C, dx, fv, .ref l, rfl, hy, cl, na, hl, l, zs, rfl, .inl hq, q⟩
def rLenF (C : Addr) (m : Str) : FSpec := fun ds c o => ∃ fs g xs, ds = [.obj C fs] ∧ fs.lookup m = some (.lst g xs) ∧ o = .val (.int (xs.length : Nat)) true c
theorem len_spF {P : Program} {w : World} {K : Frag} {mg : Str → Option Value} {base : Heap} {k : Nat} {f : Addr} {fd : FuncData} {ps : List Str} (G : FnOk P w K mg base CX0 k f fd ps (spLen K C m)) : FnOk P w K mg base CX0 k f fd ps (spF K (rLenF C m)) := by
  refine G.imp fun vs H Q E h => ?_
  obtain ⟨p, c, ds, o, h1, h2, ⟨fs, g, xs, rfl, hm, rfl⟩, h4⟩ := h
  match vs, h1 with
  | _, .cons (.obj hv r) .nil =>
    obtain ⟨lv, hl, dl⟩ := r.get hm
    cases dl with
    | @lst a zs _ _ _ hq rr => exact ⟨_, _, _, a, zs, rfl, (hide_some hv).1, hl, un_sqL hq, h4 _ H (Ext.refl _ _) h2 (by rw [rr.length]; exact .int _) fun _ => New.sc (by intro a z; cases z)⟩
theorem cv_listO {g : LA.G} {xs : List D} (hm : fs.lookup m = some (.lst g xs)) (hz : xs.length < 100000) : CV X.K p (rListO X.K C m (spLen X.K C m)) [.obj C fs] (.lst ⟨false, true⟩ xs) true c := fun vs H Q dvs hp kk => by
  match vs, dvs with
  | _, .cons (.obj hv r) .nil =>
    obtain ⟨lv, hl, dl⟩ := r.get hm
    cases dl with
    | @lst a zs _ _ _ hq rr =>
      refine ⟨_, _, _, a, zs, rfl, (hide_some hv).1, hl, un_sqL hq, by rw [rr.length]; exact hz, fun q it nq nit nqi => ?_⟩
      have n1 : L2.upd H q (.lst []) it = none := by
        rw [upd_ne (Ne.symm nqi)]
        exact nit
      have e1 : Ext p H (L2.upd (L2.upd H q (.lst [])) it (ItO a it 0)) := (Ext.new nq).trans (Ext.new n1)
      have hv2 := e1.hide _ _ hv
      have hq2 := un_sqL (e1.sqL hq)
      refine ⟨_, _, _, a, zs, rfl, (hide_some hv2).1, hl, hq2, ⟨zs.length, by rw [rr.length]; exact hz, rfl⟩, ?_, upd_same, hq2, ?_⟩
      · rw [upd_ne nqi, upd_same]
      · rw [ItX.dropH_upd n1, upd_upd]
        have vis : hide p (L2.upd H q (.lst zs)) q = some (.lst zs) := hide_upd hp nq
        exact kk (.ref q) _ (Ext.new nq) (hp.upd nq) (.lst ⟨(fun z => nomatch z), fun _ => vis⟩ (.inl (.inl vis)) (rr.mono (Ext.new nq))) fun _ => New.lst hp nq rr
end
end LA

namespace K35
open PySem PySem.Spec PyProof.Rows L2 LA
/-! ### what the law hands in -/
structure Fit (d : D) : Prop where
  ty : ∃ t, tyD d = some t
  len : ∀ l, d = .str (tx l) → l.length ≤ 1000
/-- what any value may be: its type is told -/
def Ty (d : D) : Prop := ∃ t, tyD d = some t
/-! ### positions, bits, words -/
def cds : D → List Nat
  | .str s => s.cps.toList
  | _ => []
theorem cds_tx (l : List Nat) : cds (.str (tx l)) = l := tx_list l
def isW (a : List Nat) (d : D) : Bool := isStrD d && (decide ((cds d).length ≤ 6) && (cds d).all fun n => decide (n ∈ a))
def pats : List Nat := (Str.ofString "-01").cps.toList
def bins : List Nat := (Str.ofString "01").cps.toList
def wholeD : D → Bool
  | .int _ => true
  | _ => false
def posD (d : D) (n : Int) : Bool := match d with
  | .int i => decide (0 ≤ i) && decide (i < n)
  | _ => false
def intOf : D → Int
  | .int i => i
  | _ => 0
def wordR : FSpec := fun ds c o => ∃ d s, ds = [d, .str s] ∧ Fit d ∧ o = .val (.bl (isW s.cps.toList d)) true c
def isInR (s : Str) : FSpec := fun ds c o => ∃ d, ds = [d] ∧ Fit d ∧ o = .val (.bl (isW s.cps.toList d)) true c
def wholeR : FSpec := fun ds c o => ∃ d, ds = [d] ∧ Ty d ∧ o = .val (.bl (wholeD d)) true c
def posR : FSpec := fun ds c o => ∃ d n, ds = [d, .int n] ∧ Ty d ∧ o = .val (.bl (posD d n)) true c
section
variable {P : Program} {w : World} {K : PySem.W.Frag} {mg : Str → Option Value} {base : Heap} {B Cn fB fC : Addr}
theorem scWord : FnScope ["value", "letters", "one"] ["value", "letters"] (defScope (top 18)) := ⟨rfl, rfl, rfl, by decide +kernel, rfl, by decide +kernel, by decide +kernel⟩
theorem ok_word {f : Addr} {fd : FuncData} {tk : Tok} (G : Glb mg) (hM : mg "MOST" = some (.int 6 tk)) (F : Fun K "_is_word" "_is_word" (top 18) f fd) : FnOk P w K mg base CX0 1 f fd ["value", "letters"] (spF K wordR) := by
  refine fn_val F scWord (fun ds c o h => ?_) (fun ds c o h => ?_) (fun cdv A outer s H E hr p ds c o h => ?_)
  · obtain ⟨d, s, rfl, _⟩ := h
    rfl
  · obtain ⟨d, s, _, _, rfl⟩ := h
    exact ⟨_, _, _, rfl⟩
  · obtain ⟨d, z, rfl, fd', rfl⟩ := h
    obtain ⟨t, ht⟩ := fd'.ty
    obtain ⟨a, rfl⟩ := str_tx z
    rw [tx_list]
    refine .inl (rss_ret (rs_ret (re_and (k1 := isStrD d) (re_callB call_isi G.isi PyProof.Rows.boot_isinstance (ra_cons (re_var 0) (ra_cons (re_ty G.str PyProof.Rows.boot_str) ra_nil)) (cv_isi ht (isi_str ht))) (fun hk => ?_))))
    cases d with
    | str s =>
      obtain ⟨l, rfl⟩ := str_tx s
      have hl := fd'.len l rfl
      rw [cds_tx]
      refine re_and (n1 := true) (k1 := decide (l.length ≤ 6)) ?_ (fun hk => re_and1 ?_)
      · have e : decide (l.length ≤ 6) = decide (((l.length : Nat) : Int) ≤ 6) := by
          rw [Bool.eq_iff_iff]
          simp
          omega
        rw [e]
        exact re_cmp op_le (re_callB call_len G.len PySem.boot_len (ra_cons (re_var 0) ra_nil) (cv_lenT (by omega))) (re_gint hM) ov_ib
      · have key : ((List.range (chars (tx l)).length).map fun i => D.bl (decide (l.getD i 0 ∈ a))) = (l.map fun n => decide (n ∈ a)).map D.bl := by
          rw [signs_len]
          refine List.ext_getElem? fun i => ?_
          by_cases hi : i < l.length
          · simp [hi, List.getElem?_range]
          · simp [hi]
        have e : (l.all fun n => decide (n ∈ a)) = (l.map fun n => decide (n ∈ a)).all id := by rw [List.all_map]; rfl
        rw [e]
        refine re_callB (ds := [.lst ⟨false, true⟩ ((l.map fun n => decide (n ∈ a)).map D.bl)]) (cr_all rfl) G.all PyProof.Rows.boot_all (ra_cons (nw := true) ?_ ra_nil) cv_all
        rw [← key]
        refine re_lcA (own := [("one", 2)]) (g := gName 2) _ (fun _ => c) (fun i => [some (.str (tx l)), some (.str (tx a)), some (.str (chr1 (l.getD i 0)))]) (fun _ => true) rfl scWord.nd (ri_str (re_var 0)) (blkOk_by (N := ["value", "letters", "one"]) (sc := defScope (top 18)) (by decide +kernel)) (fun _ _ _ _ _ => pg_name (i := 2) scWord.nd rfl (Or.inl rfl)) (fun i d h => ?_) (fun i d h q s H C cl fp => ?_) (by rw [signs_len]; omega)
        · obtain ⟨rfl, _⟩ := signs_at h
          exact tg_name (by decide)
        · have q := ov_inC (K := K) (p := q) (c := c) (ch := l.getD i 0) (z := tx a)
          rw [tx_list] at q
          exact re_cmp op_in_sign (re_var 2) (re_var 1) q
    | _ => cases hk
abbrev WordD (P : Program) (w : World) (K : PySem.W.Frag) (mg : Str → Option Value) (base : Heap) := Def0 P w K mg base 1 "_is_word" ["value", "letters"] wordR
abbrev IsInD (P : Program) (w : World) (K : PySem.W.Frag) (mg : Str → Option Value) (base : Heap) := Def0 P w K mg base 2 "is_input" ["value"] (isInR "01")
theorem ok_isIn {f : Addr} {fd : FuncData} (T : WordD P w K mg base) (F : Fun K "is_input" "is_input" (top 14) f fd) : FnOk P w K mg base CX0 2 f fd ["value"] (spF K (isInR "01")) := by
  refine fn_val F (N := ["value"]) ⟨rfl, rfl, rfl, by decide +kernel, rfl, by decide +kernel, by decide +kernel⟩ (fun ds c o h => ?_) (fun ds c o h => ?_) (fun cdv A outer s H E hr p ds c o h => ?_)
  · obtain ⟨d, rfl, _⟩ := h
    rfl
  · obtain ⟨d, _, _, rfl⟩ := h
    exact ⟨_, _, _, rfl⟩
  · obtain ⟨d, rfl, fd', rfl⟩ := h
    exact .inl (rss_ret (rs_ret (re_c0 T hr (ra_cons (re_var 0) (ra_cons re_str ra_nil)) ⟨d, _, rfl, fd', rfl⟩)))
theorem ok_whole {f : Addr} {fd : FuncData} (G : Glb mg) (F : Fun K "is_whole" "is_whole" (top 10) f fd) : FnOk P w K mg base CX0 1 f fd ["value"] (spF K wholeR) := by
  refine fn_val F (N := ["value"]) ⟨rfl, rfl, rfl, by decide +kernel, rfl, by decide +kernel, by decide +kernel⟩ (fun ds c o h => ?_) (fun ds c o h => ?_) (fun cdv A outer s H E hr p ds c o h => ?_)
  · obtain ⟨d, rfl, _⟩ := h
    rfl
  · obtain ⟨d, _, _, rfl⟩ := h
    exact ⟨_, _, _, rfl⟩
  · obtain ⟨d, rfl, ⟨t, ht⟩, rfl⟩ := h
    have e : wholeD d = (isIntD d && !isBlD d) := by cases d <;> rfl
    rw [e]
    exact .inl (rss_ret (rs_ret (re_and (re_callB call_isi G.isi PyProof.Rows.boot_isinstance (ra_cons (re_var 0) (ra_cons (re_ty G.int PyProof.Rows.boot_int) ra_nil)) (cv_isi ht (isi_int ht))) fun _ => re_and1 (re_not (re_callB call_isi G.isi PyProof.Rows.boot_isinstance (ra_cons (re_var 0) (ra_cons (re_ty G.bool PyProof.Rows.boot_bool) ra_nil)) (cv_isi ht (isi_bool ht)))))))
abbrev WholeD (P : Program) (w : World) (K : PySem.W.Frag) (mg : Str → Option Value) (base : Heap) := Def0 P w K mg base 1 "is_whole" ["value"] wholeR
abbrev PosD (P : Program) (w : World) (K : PySem.W.Frag) (mg : Str → Option Value) (base : Heap) := Def0 P w K mg base 2 "is_position" ["value", "many"] posR
theorem ok_pos {f : Addr} {fd : FuncData} (T : WholeD P w K mg base) (F : Fun K "is_position" "is_position" (top 11) f fd) : FnOk P w K mg base CX0 2 f fd ["value", "many"] (spF K posR) := by
  refine fn_val F (N := ["value", "many"]) ⟨rfl, rfl, rfl, by decide +kernel, rfl, by decide +kernel, by decide +kernel⟩ (fun ds c o h => ?_) (fun ds c o h => ?_) (fun cdv A outer s H E hr p ds c o h => ?_)
  · obtain ⟨d, n, rfl, _⟩ := h
    rfl
  · obtain ⟨d, n, _, _, rfl⟩ := h
    exact ⟨_, _, _, rfl⟩
  · obtain ⟨d, n, rfl, fd', rfl⟩ := h
    have e : posD d n = (wholeD d && posD d n) := by cases d <;> rfl
    rw [e]
    refine .inl (rss_ret (rs_ret (re_and (re_c0 T hr (ra_cons (re_var 0) ra_nil) ⟨d, rfl, fd', rfl⟩) fun hk => re_and1 ?_)))
    cases d with
    | int i => exact re_chain op_le op_lt re_int (re_var 0) (re_var 1) ov_ib ov_ib
    | _ => cases hk
end
end K35

namespace K35
open PySem PySem.Spec PyProof.Rows L2 LA
def cntR (Cn : Addr) : FSpec := fun ds c o => ∃ d, ds = [d, .int 6] ∧ Ty d ∧ o = if posD d 7 then .val .non true c else .ex Cn [("given", d)] c
/-! ### words -/
def step (ws : List (List Nat)) (ls : List Nat) : List (List Nat) := ws.flatMap fun w => ls.map fun a => w ++ [a]
def wordsV : List (List Nat) → List (List Nat) → List (List Nat)
  | ws, [] => ws
  | ws, l :: r => wordsV (step ws l) r
def wD (ws : List (List Nat)) : List D := ws.map fun w => D.str (tx w)
theorem wordsV_app (ws : List (List Nat)) : ∀ (a b : List (List Nat)), wordsV ws (a ++ b) = wordsV (wordsV ws a) b := by
  intro a
  induction a generalizing ws with
  | nil => intro b; rfl
  | cons l r ih => intro b; exact ih (step ws l) b
theorem step_len (ws : List (List Nat)) (ls : List Nat) : (step ws ls).length = ws.length * ls.length := by
  unfold step
  induction ws with
  | nil => simp
  | cons a r ih => rw [List.flatMap_cons, List.length_append, ih, List.length_map, List.length_cons]; rw [Nat.add_mul]; omega
theorem step_all {ws : List (List Nat)} {ls : List Nat} {n : Nat} (h : ∀ w ∈ ws, w.length = n) : ∀ w ∈ step ws ls, w.length = n + 1 := by
  intro w hw
  unfold step at hw
  obtain ⟨a, ha, hb⟩ := List.mem_flatMap.mp hw
  obtain ⟨x, _, rfl⟩ := List.mem_map.mp hb
  rw [List.length_append, h a ha]
  rfl
theorem words_all : ∀ (cs : List (List Nat)) {ws : List (List Nat)} {n : Nat}, (∀ w ∈ ws, w.length = n) → ∀ w ∈ wordsV ws cs, w.length = n + cs.length
  | [], _, _, h => h
  | l :: r, ws, n, h => fun w hw => by
    have := words_all r (step_all (ls := l) h) w hw
    rw [this, List.length_cons]
    omega
theorem words_len : ∀ (cs : List (List Nat)) {ws : List (List Nat)}, (∀ l ∈ cs, l.length ≤ 3) → (wordsV ws cs).length ≤ ws.length * 3 ^ cs.length
  | [], ws, _ => by simp [wordsV]
  | l :: r, ws, h => by
    have a := words_len r (ws := step ws l) fun m hm => h m (List.mem_cons_of_mem _ hm)
    rw [step_len] at a
    have b := h l List.mem_cons_self
    show (wordsV (step ws l) r).length ≤ _
    rw [List.length_cons, Nat.pow_succ]
    have c : ws.length * l.length * 3 ^ r.length ≤ ws.length * 3 * 3 ^ r.length := Nat.mul_le_mul_right _ (Nat.mul_le_mul_left _ b)
    have d : ws.length * 3 * 3 ^ r.length = ws.length * (3 ^ r.length * 3) := by rw [Nat.mul_assoc, Nat.mul_comm 3]
    omega
theorem flat2_words (ws : List (List Nat)) (l : List Nat) : ∀ n, n ≤ ws.length → flat2 (fun _ => chars (tx l)) (fun i m => D.str (tx (ws.getD i []) ++ chr1 (l.getD m 0))) n = wD (step (ws.take n) l)
  | 0, _ => by simp [flat2, step, wD]
  | n + 1, h => by
    have ih := flat2_words ws l n (by omega)
    unfold flat2
    rw [ih]
    have e : ws.take (n + 1) = ws.take n ++ [ws.getD n []] := by
      rw [List.take_add_one, List.getD_eq_getElem?_getD, List.getElem?_eq_getElem (by omega)]
      rfl
    rw [e]
    unfold step wD
    rw [List.flatMap_append, List.map_append]
    congr 1
    rw [signs_len, List.flatMap_cons, List.flatMap_nil, List.append_nil, List.map_map]
    have q := range_get l (fun a => D.str (tx (ws.getD n []) ++ chr1 a))
    rw [show ((List.range l.length).map fun m => D.str (tx (ws.getD n []) ++ chr1 (l.getD m 0))) = l.map fun a => D.str (tx (ws.getD n []) ++ chr1 a) from q]
    refine List.map_congr_left fun a _ => ?_
    show D.str (tx _ ++ tx [a]) = D.str (tx (_ ++ [a]))
    rw [tx_app]
def wordsR : FSpec := fun ds c o => ∃ (g : G) (cs : List (List Nat)), ds = [.lst g (wD cs)] ∧ cs.length ≤ 6 ∧ (∀ l ∈ cs, l.length ≤ 3) ∧ o = .val (.lst ⟨decide (cs.length = 0), true⟩ (wD (wordsV [[]] cs))) false c
theorem range_get {α β : Type} [Inhabited α] (l : List α) (f : α → β) {z : α} : ((List.range l.length).map fun i => f (l.getD i z)) = l.map f := by
  refine List.ext_getElem? fun i => ?_
  by_cases hi : i < l.length
  · simp [hi, List.getElem?_range]
  · simp [hi]
section
variable {P : Program} {w : World} {K : PySem.W.Frag} {mg : Str → Option Value} {base : Heap} {B Cn : Addr}
theorem ok_cnt {f : Addr} {fd : FuncData} (T : PosD P w K mg base) (Er : Err1 P w K mg base "BadCount" "given" Cn) (F : FunD K "check_count" "check_count" (defArgs (top 12)) (defBody (top 12)) (defScope (top 12)) [.int 6] [] f fd) : FnOk P w K mg base (L2.CX P w) 3 f fd ["many", "most"] (spF K (cntR Cn)) := by
  refine fn_excD F (N := ["many", "most"]) ⟨rfl, rfl, rfl, by decide +kernel, rfl, by decide +kernel, by decide +kernel⟩ (fun ds c o h => ?_) (fun cdv A outer s H E hr p ds c o h tk => ?_)
  · obtain ⟨d, rfl, _⟩ := h
    rfl
  · obtain ⟨d, rfl, fd', rfl⟩ := h
    cases h : posD d 7 with
    | true =>
      rw [if_pos rfl]
      exact .inr ⟨rfl, _, rss_cons (rs_if (kb := false) (rt_not (rt_val (re_c0 (d := .bl true) T hr (ra_cons (re_var 0) (ra_cons (re_bin op_add (re_var 1) re_int ov_ii) ra_nil)) ⟨d, 7, rfl, fd', by rw [← h]⟩))) (fun z => nomatch z) fun _ => rss_nil) rss_nil⟩
    | false =>
      rw [if_neg Bool.false_ne_true]
      exact rss_ex (rs_if (kb := true) (rt_not (rt_val (re_c0 (d := .bl false) T hr (ra_cons (re_var 0) (ra_cons (re_bin op_add (re_var 1) re_int ov_ii) ra_nil)) ⟨d, 7, rfl, fd', by rw [← h]⟩))) (fun _ => rss_ex (rs_raiseG rfl tk Er hr (re_var 0))) fun z => nomatch z)
abbrev nWords : List Str := ["choices", "words", "letters", "word", "letter"]
theorem scWords : FnScope nWords ["choices"] (defScope (top 19)) := ⟨rfl, rfl, rfl, by decide +kernel, rfl, by decide +kernel, by decide +kernel⟩
theorem ok_words {f : Addr} {fd : FuncData} (F : Fun K "_words" "_words" (top 19) f fd) : FnOk P w K mg base CX0 1 f fd ["choices"] (spF K wordsR) := by
  refine fn_val F scWords (fun ds c o h => ?_) (fun ds c o h => ?_) (fun cdv A outer s H E hr p ds c o h => ?_)
  · obtain ⟨g, cs, rfl, _⟩ := h
    rfl
  · obtain ⟨g, cs, _, _, _, rfl⟩ := h
    exact ⟨_, _, _, rfl⟩
  · obtain ⟨g, cs, rfl, h6, h3, rfl⟩ := h
    refine .inl ?_
    have lz : (wD cs).length = cs.length := by unfold wD; rw [List.length_map]
    have fin : (.lst ⟨decide (cs.length = 0), true⟩ (wD (wordsV [[]] cs)) : D) = .lst ⟨decide ((wD cs).length = 0), true⟩ (wD (wordsV [[]] (cs.take (wD cs).length))) := by rw [lz, List.take_length]
    rw [fin]
    have at' : ∀ {j : Nat} {d : D}, (wD cs)[j]? = some d → d = .str (tx (cs.getD j [])) ∧ j < cs.length := fun {j d} h => by
      unfold wD at h
      rw [List.getElem?_map] at h
      by_cases hj : j < cs.length
      · rw [List.getElem?_eq_getElem hj] at h
        rw [List.getD_eq_getElem?_getD, List.getElem?_eq_getElem hj]
        exact ⟨(Option.some.inj h).symm, hj⟩
      · rw [List.getElem?_eq_none (by omega)] at h
        cases h
    have loop := rs_for_all (X := (cxOf CX0 P w K mg base nWords "_words" (defScope (top 19)) f cdv A outer s H E).nox) (W := Wf) (p := p) (ρ := [some (.lst g (wD cs)), some (.lst ⟨decide (0 = 0), true⟩ (wD (wordsV [[]] (cs.take 0)))), none, none, none]) (c := c) (xs := wD cs) (vs := [2]) (g := gName 2) (tg := (match defBody (top 19) with | [_, .For a _ _ _ _, _] => a | _ => .Name "" ⟨0, 0, 0, 0⟩)) (it := (match defBody (top 19) with | [_, .For _ a _ _ _, _] => a | _ => .Name "" ⟨0, 0, 0, 0⟩)) (body := (match defBody (top 19) with | [_, .For _ _ a _ _, _] => a | _ => [])) (pos := (match defBody (top 19) with | [_, .For _ _ _ _ a, _] => a | _ => ⟨0, 0, 0, 0⟩))
      (fun j => [some (.lst g (wD cs)), some (.lst ⟨decide (j = 0), true⟩ (wD (wordsV [[]] (cs.take j)))), none, none, none]) (fun j => [some (.lst g (wD cs)), some (.lst ⟨decide (j = 0), true⟩ (wD (wordsV [[]] (cs.take j)))), some (.str (tx (cs.getD j []))), none, none]) (fun _ => c) PassesOwn.never rfl rfl (ri_lst (re_var 0)) (pg_name (i := 2) scWords.nd rfl (Or.inr rfl)) (fun j d h => ?_) (fun j d h => rss_less (ρ1 := [some (.lst g (wD cs)), some (.lst ⟨decide (j + 1 = 0), true⟩ (wD (wordsV [[]] (cs.take (j + 1))))), some (.str (tx (cs.getD j []))), none, none]) (rss_cons (rest := []) ?_ rss_nil) (by repeat (first | exact Less.nil | apply Less.same | apply Less.skip)))
    · exact rss_cons (rs_set 1 scWords.nd (re_lst (ra_cons re_str ra_nil) (by show 1 ≤ 100000; decide))) (rss_cons loop (rss_ret (rs_ret (re_var 1))))
    · obtain ⟨rfl, _⟩ := at' h
      exact tg_name (by decide)
    · obtain ⟨rfl, hj⟩ := at' h
      have wl := words_all (cs.take j) (ws := [[]]) (n := 0) (fun w hw => by rcases List.mem_cons.mp hw with rfl | hw; rfl; cases hw)
      have wn := words_len (cs.take j) (ws := [[]]) fun l hl => h3 l (List.mem_of_mem_take hl)
      generalize hws : wordsV [[]] (cs.take j) = ws at *
      have tj : (cs.take j).length ≤ 6 := by rw [List.length_take]; omega
      have wn' : ws.length ≤ 729 := by
        have : 3 ^ (cs.take j).length ≤ 3 ^ 6 := Nat.pow_le_pow_right (by decide) tj
        have e : (3 : Nat) ^ 6 = 729 := by decide
        simp only [List.length_cons, List.length_nil] at wn
        omega
      have l3 : (cs.getD j []).length ≤ 3 := h3 _ (by rw [List.getD_eq_getElem?_getD, List.getElem?_eq_getElem hj]; exact List.getElem_mem _)
      generalize hl : cs.getD j [] = l at *
      have wz : (wD ws).length = ws.length := by unfold wD; rw [List.length_map]
      have next : (.lst ⟨decide (j + 1 = 0), true⟩ (wD (wordsV [[]] (cs.take (j + 1)))) : D) = .lst ⟨false, true⟩ (flat2 (fun _ => chars (tx l)) (fun i m => D.str (tx (ws.getD i []) ++ chr1 (l.getD m 0))) (wD ws).length) := by
        rw [wz, flat2_words ws l _ (Nat.le_refl _), List.take_length]
        have e : cs.take (j + 1) = cs.take j ++ [l] := by
          rw [List.take_add_one, ← hl, List.getD_eq_getElem?_getD, List.getElem?_eq_getElem hj]
          rfl
        rw [e, wordsV_app, hws]
        rfl
      rw [next]
      have wat : ∀ {i : Nat} {d : D}, (wD ws)[i]? = some d → d = .str (tx (ws.getD i [])) ∧ (ws.getD i []).length ≤ 6 := fun {i d} h => by
        unfold wD at h
        rw [List.getElem?_map] at h
        by_cases hi : i < ws.length
        · rw [List.getElem?_eq_getElem hi] at h
          have m : ws.getD i [] ∈ ws := by
            rw [List.getD_eq_getElem?_getD, List.getElem?_eq_getElem hi]
            exact List.getElem_mem _
          refine ⟨?_, by rw [wl _ m]; omega⟩
          rw [List.getD_eq_getElem?_getD, List.getElem?_eq_getElem hi]
          exact (Option.some.inj h).symm
        · rw [List.getElem?_eq_none (by omega)] at h
          cases h
      refine rs_lc2 (W := Wf) (own := [("word", 3), ("letter", 4)]) (vs1 := [4]) (g := gName 3) (g1 := gName 4) 1 (fun _ => chars (tx l)) (fun i m => D.str (tx (ws.getD i []) ++ chr1 (l.getD m 0))) (fun i => [some (.lst g (wD cs)), some (.lst ⟨decide (j = 0), true⟩ (wD ws)), some (.str (tx l)), some (.str (tx (ws.getD i []))), none]) (fun i m => [some (.lst g (wD cs)), some (.lst ⟨decide (j = 0), true⟩ (wD ws)), some (.str (tx l)), some (.str (tx (ws.getD i []))), some (.str (chr1 (l.getD m 0)))]) true rfl scWords.nd (ri_lst (re_var 1)) (blkOk_by (N := nWords) (sc := defScope (top 19)) (by decide +kernel)) (by decide) (fun _ _ _ _ _ => pg_name (i := 3) scWords.nd rfl (Or.inl rfl)) (fun _ _ _ _ _ => pg_name (i := 4) scWords.nd rfl (Or.inl rfl)) (fun i d h q s H C cl fp => ri_str (re_var 2)) (fun i d h => ?_) (fun i m d e h h' => ?_) (fun i m d e h h' q s H C cl fp => ?_) (fun i m d h hm => ?_)
      · obtain ⟨rfl, _⟩ := wat h
        exact tg_name (by decide)
      · obtain ⟨rfl, _⟩ := signs_at h'
        exact tg_name (by decide)
      · obtain ⟨_, hw⟩ := wat h
        exact re_bin op_add_str (re_var 3) (re_var 4) (ov_addS (sz_le (by rw [tx_len]; show _ + 1 ≤ _; omega)))
      · have hi : i < ws.length := by have := (List.getElem?_eq_some_iff.mp h).1; rw [wz] at this; exact this
        rw [flat2_words ws l i (by omega)]
        unfold wD
        rw [List.length_map, step_len, List.length_take]
        rw [signs_len] at hm
        have : min i ws.length * l.length ≤ 729 * 3 := Nat.mul_le_mul (by omega) l3
        omega
def cntN : D → Nat
  | .int i => i.toNat
  | _ => 0
def allV (a : List Nat) (n : Nat) : D := .lst ⟨decide (n = 0), true⟩ (wD (wordsV [[]] (List.replicate n a)))
def allR (Cn : Addr) (a : List Nat) : FSpec := fun ds c o => ∃ d, ds = [d] ∧ Ty d ∧ o = if posD d 7 then .val (allV a (cntN d)) false c else .ex Cn [("given", d)] c
theorem rep_wD (a : List Nat) : ∀ n : Nat, (List.replicate n [D.str (tx a)]).flatten = wD (List.replicate n a)
  | 0 => rfl
  | n + 1 => by
    rw [List.replicate_succ, List.replicate_succ, List.flatten_cons, rep_wD a n]
    rfl
abbrev CntD (P : Program) (w : World) (K : PySem.W.Frag) (mg : Str → Option Value) (base : Heap) (Cn : Addr) := Def1D P w K mg base 3 "check_count" ["many", "most"] (cntR Cn) [.int 6]
abbrev WordsD (P : Program) (w : World) (K : PySem.W.Frag) (mg : Str → Option Value) (base : Heap) := Def0 P w K mg base 1 "_words" ["choices"] wordsR
abbrev AllD (P : Program) (w : World) (K : PySem.W.Frag) (mg : Str → Option Value) (base : Heap) (Cn : Addr) (x : Str) (a : List Nat) := Def1 P w K mg base 4 x ["many"] (allR Cn a)
theorem sixes {q : HD} {H : Hp} : DVs K q H [V.int 6] [D.int 6] := .cons (.int 6) .nil
theorem ok_inputs {f : Addr} {fd : FuncData} (TC : CntD P w K mg base Cn) (TW : WordsD P w K mg base) (F : Fun K "inputs" "inputs" (top 15) f fd) : FnOk P w K mg base (L2.CX P w) 4 f fd ["many"] (spF K (allR Cn bins)) := by
  refine fn_exc F (N := ["many"]) ⟨rfl, rfl, rfl, by decide +kernel, rfl, by decide +kernel, by decide +kernel⟩ (fun ds c o h => ?_) (fun cdv A outer s H E hr p ds c o h tk => ?_)
  · obtain ⟨d, rfl, _⟩ := h
    rfl
  · obtain ⟨d, rfl, fd', rfl⟩ := h
    cases h : posD d 7 with
    | false =>
      rw [if_neg Bool.false_ne_true]
      exact rss_ex (rs_exprX (re_c1D (es' := [.int 6]) tk TC hr (ra_cons (re_var 0) ra_nil) (fun q H => sixes) ⟨d, rfl, fd', by rw [h, if_neg Bool.false_ne_true]⟩))
    | true =>
      rw [if_pos rfl]
      refine .inl (rss_cons (rs_expr (re_c1D (es' := [.int 6]) (o := .val .non true c) tk TC hr (ra_cons (re_var 0) ra_nil) (fun q H => sixes) ⟨d, rfl, fd', by rw [h, if_pos rfl]⟩)) ?_)
      cases d with
      | int i =>
        obtain ⟨i0, i1⟩ := Bool.and_eq_true_iff.mp (show (decide (0 ≤ i) && decide (i < 7)) = true from h)
        have i0 := of_decide_eq_true i0
        have i1 := of_decide_eq_true i1
        refine rss_ret (rs_ret (re_c0 (ds := [.lst ⟨false, true⟩ (List.replicate i.toNat [D.str (tx bins)]).flatten]) TW (hr.mono (by decide)) (ra_cons (re_bin op_rep (re_lst (ra_cons re_str ra_nil) (by show 1 ≤ 100000; decide)) (re_var 0) (ov_rep rfl (by omega) (by omega) (by show 1 * _ ≤ _; omega))) ra_nil) ⟨⟨false, true⟩, List.replicate i.toNat bins, by rw [rep_wD], by rw [List.length_replicate]; omega, fun l hl => by rw [List.eq_of_mem_replicate hl]; decide, ?_⟩))
        rw [List.length_replicate]
        rfl
      | _ => cases h
end
end K35

/-! a tuple of ints that stands at the top: read, its index, in it -/
namespace LA
open PySem PySem.Spec PyProof.Rows L2
structure CTup (K : PySem.W.Frag) (mg : Str → Option Value) (x : Str) (ns : List Int) : Prop where
  ex : ∃ (T : Addr) (o : Obj) (its : Array Value) (n : Nat), mg x = some (.ref T) ∧ K.lookup T = some o ∧ o.cls = .type "tuple" ∧ o.dict = none ∧ o.data = .seq its n ∧ its.size ≤ sizeLine ∧ Vals (ns.map V.int) its.toList
theorem dvs_intsZ {K : PySem.W.Frag} {p : HD} {H : Hp} : ∀ ns : List Int, DVs K p H (ns.map V.int) (ns.map D.int)
  | [] => .nil
  | n :: r => .cons (.int n) (dvs_intsZ r)
section
variable {X : Cx} {W : WX} {p : HD} {ρ : Rho} {c c1 : PC} {e : Expr} {pos apos np : Pos} {x : Str} {ns : List Int} {k : Int} {nw : Bool}
theorem re_ctup (t : CTup X.K X.mg x ns) (hg : Gl X x := by rfl) (hd : (x == ("__debug__" : Str)) = false := by decide) : RE X W p ρ c (.Name x np) (.val (.tup (ns.map D.int)) false c) := by
  obtain ⟨T, o, its, n, h1, h2, h3, _, h5, h6, h7⟩ := t.ex
  exact pe_imp (pe_glob (v := .ref T) hg h1 rfl hd) fun σ H Q ⟨s, kk⟩ => kk (.ref T) H (Ext.refl p H) s.pl (.tup (.inr ⟨o, its, n, h2, h3, h5, h6, h7⟩) (dvs_intsZ ns)) fun z => nomatch z
theorem mt_tupIx : MtR X "tuple.index" (fun x xs H Q => ∃ (q : Addr) (ns : List Int) (k : Int), x = V.ref q ∧ xs = [V.int k] ∧ SqT X.K H q (ns.map V.int) ∧ k ∈ ns ∧ Q (.int (ns.idxOf k : Nat)) H) := by
  intro pins s σ H x xs v us Q I rx rs h
  obtain ⟨q, ns, k, rfl, rfl, hq, hk, fin⟩ := h
  cases rx
  obtain ⟨u, rfl, t, rfl⟩ := vals1 rs
  obtain ⟨its, r, pl, hz⟩ := I.tuple hq
  exact PySem.SeqAt.tuple_index_ints (vs := its) (show s.heap.IsTuple q its.toArray from pl) (ints_of_vals r) hk ⟨.int (ns.idxOf k : Nat), H, I.tok _, ⟨_, rfl⟩, fin⟩
theorem re_ctupIx (t : CTup X.K X.mg x ns) (he : RE X W p ρ c e (.val (.int k) nw c1)) (hk : k ∈ ns) (hg : Gl X x := by rfl) (hd : (x == ("__debug__" : Str)) = false := by decide)
    (hbase : attributeBase (.Name x np) "index" X.env (eval (.Name x np) X.env) = eval (.Name x np) X.env := by rfl)
    (hfew : ((backTo pos (starEach [e] X.env)).all (fun x => !x.1) && (backToKw pos (keywordEach [] X.env)).all (fun x => x.1.isSome) && decide (([e] : List Expr).length + ([] : List Keyword).length + (if ([] : List Keyword).isEmpty then 0 else 1) < 30)) = true := by rfl)
    (hline : (apos.endLine == pos.line) = true := by rfl) (hs : starEach [e] X.env = (false, eval e X.env) :: starEach [] X.env := by rfl) (hplain : (backTo pos (starEach [] X.env)).any (·.1) = false := by rfl) :
    RE X W p ρ c (.Call (.Attribute (.Name x np) "index" apos) [e] [] pos) (.val (.int (ns.idxOf k : Nat)) true c1) := by
  obtain ⟨T, o, its, n, h1, h2, h3, h4, h5, h6, h7⟩ := t.ex
  refine pe_imp (pe_bm PySem.F.plainAttrs_tuple PySem.F.slot_tuple_index (by first | rfl | (show builtinType _ = _; rw [builtinType_eq_fast]; kernel_rfl)) mt_tupIx (pe_glob (v := .ref T) hg h1 rfl hd) (ra_cons (W := W) he ra_nil hs) hbase hfew hline hs hplain) fun σ H Q ⟨s, kk⟩ => ?_
  refine ⟨.inr (.inl ⟨rfl, o, h2, h3, h4⟩), s, fun vs H1 e1 p1 dvs => ?_⟩
  cases dvs with
  | cons hv hr =>
    cases hr
    cases hv
    exact ⟨T, ns, k, rfl, rfl, .inr ⟨o, its, n, h2, h3, h5, h6, h7⟩, hk, kk _ H1 e1 p1 (.int _) fun _ => New.sc (by intro a z; cases z)⟩
end
end LA

/-! a walk over zip(a list, a text) -/
namespace LA
open PySem PySem.Spec PyProof.Rows L2
def ItZ (K : PySem.W.Frag) (a : Addr) (z : Str) : It :=
  ⟨fun i H => ∃ xs, SqL K H a xs ∧ i < min xs.length z.cps.size, fun i H v H' => ∃ T x, v = .ref T ∧ H T = none ∧ (∀ ys, SqL K H a ys → ys[i]? = some x) ∧ H' = L2.upd H T (.tup [x, sgn z i]), fun i H => ∃ xs, SqL K H a xs ∧ i = min xs.length z.cps.size⟩
section
variable {P : Program} {w : World} {K : PySem.W.Frag} {elts : List Expr} {kk : Nat} {tpos : Pos} {a it TI TO i1 i2 : Addr} {z : Str} {tz : Tok}
def zSt (it TI TO i1 i2 a : Addr) (z : Str) (tz : Tok) (i : Nat) (h : Heap) : Prop := IsZip h it TI TO .none ∧ IsTupOf2 h TI (.ref i1) (.ref i2) ∧ (∃ a1 a2, IsTupOf2 h TO a1 a2) ∧ h.IsListIter i1 a i ∧ h.IsStrIter i2 (strIterType z) z tz i
theorem turn_zLS (S : ZipSep2 it TI TO i1 i2 [i1, a] [i2]) (hne : a ≠ i1) : Turn P w K (.Tuple elts kk tpos) (ItZ K a z) [it, TI, TO, i1, i2] it (zSt it TI TO i1 i2 a z tz) where
  mem := List.mem_cons_self
  obj := fun i h st c hc => by
    obtain ⟨e1, e2, ⟨x, y, e3⟩, ⟨o4, q4, _, d4⟩, ⟨o5, q5, _, d5⟩⟩ := st
    have q : c = it ∨ c = TI ∨ c = TO ∨ c = i1 ∨ c = i2 := by simpa using hc
    rcases q with rfl | rfl | rfl | rfl | rfl
    · exact ⟨_, e1, fun v q => nomatch q⟩
    · exact ⟨_, e2, fun v q => nomatch q⟩
    · exact ⟨_, e3, fun v q => nomatch q⟩
    · exact ⟨o4, q4, fun v q => by rw [d4] at q; cases q⟩
    · exact ⟨o5, q5, fun v q => by rw [d5] at q; cases q⟩
  keep := fun i h h' st k => by
    obtain ⟨e1, e2, ⟨x, y, e3⟩, e4, ⟨o5, q5, c5, d5⟩⟩ := st
    exact ⟨k it (by simp) _ e1, k TI (by simp) _ e2, ⟨x, y, k TO (by simp) _ e3⟩, e4.at fun o e => k i1 (by simp) o e, ⟨o5, k i2 (by simp) o5 q5, c5, d5⟩⟩
  item := by
    intro X hP hw hK hc i pins s σ H E I hf st hg
    subst hP hw hK
    obtain ⟨xs, hq, hi⟩ := hg
    obtain ⟨its, rv, pl, _⟩ := I.list hq
    have el := rv.length
    have hh := I.ok.hd hc
    obtain ⟨e1, e2, e3, e4, e5⟩ := st
    have G := GoesN.zip2 (elts := elts) (x1 := kk) (pos := tpos) S (Draws.list (prog := X.prog) (w := X.w) (A := X.A.in1) hh i1 a hne its.toArray) (Draws.text (prog := X.prog) (w := X.w) (A := X.A.in1) hh i2 z tz)
    have hi' : i < min its.toArray.size z.cps.size := by
      rw [List.size_toArray, ← el]
      exact hi
    refine wpAny_mono (G.goes i s (fun v s₂ => ∃ x H', Inv X pins σ H' s₂ ∧ RelV x v ∧ (ItZ X.K a z).yld i H x H' ∧ zSt it TI TO i1 i2 a z tz (i + 1) s₂.heap ∧ ∀ b ∈ [it, TI, TO, i1, i2], H' b = none) E hi' ⟨e1, e2, e3, ⟨e4, pl.isList⟩, e5⟩ fun v h' tk hY st' hk _ => ?_) (fun r s1 ⟨v, e, q⟩ => ⟨v, e, q⟩) fun _ _ q => q
    obtain ⟨T, x, y, rfl, hT, px, py, ht⟩ := hY
    have hx : its[i]? = some x := by simpa using px
    have li : i < xs.length := Nat.lt_of_lt_of_le hi (Nat.min_le_left _ _)
    obtain ⟨x', hx', rx⟩ := rv.get (List.getElem?_eq_getElem li)
    obtain rfl : x' = x := Option.some.inj (hx'.symm.trans hx)
    have new : ObjOk X.prog X.w (L2.upd H T (.tup [xs[i], sgn z i])) h' T (.tup [xs[i], sgn z i]) := ⟨by show 2 ≤ sizeLine; decide, [x', y], .cons rx (.cons (sgn_of py) .nil), ht⟩
    have I1 := I.turnedNew (t' := tk) (ch := [it, TO, i1, i2]) hk (fun b hb => hf b (by
      have q : b = it ∨ b = TO ∨ b = i1 ∨ b = i2 := by simpa using hb
      rcases q with rfl | rfl | rfl | rfl <;> simp)) hT new
    obtain ⟨t1, t2, t3, t4, t5⟩ := st'
    refine ⟨.ref T, _, I1, rfl, ⟨T, xs[i], rfl, I.hok.fresh hT, fun ys hy => by rw [I.list_inj hy hq]; exact List.getElem?_eq_getElem li, rfl⟩, ⟨t1, t2, t3, t4.1, t5⟩, fun b hb => ?_⟩
    have lt : b < s.heap.objs.size := by
      obtain ⟨x3, y3, e3⟩ := e3
      obtain ⟨o4, q4, _⟩ := e4
      obtain ⟨o5, q5, _⟩ := e5
      have q : b = it ∨ b = TI ∨ b = TO ∨ b = i1 ∨ b = i2 := by simpa using hb
      rcases q with rfl | rfl | rfl | rfl | rfl
      · exact Heap.lt_size e1
      · exact Heap.lt_size e2
      · exact Heap.lt_size e3
      · exact Heap.lt_size q4
      · exact Heap.lt_size q5
    rw [upd_ne (Nat.ne_of_lt (Nat.lt_of_lt_of_le lt hT))]
    exact (hf b hb).1
  done := by
    intro X hP hw hK hc i pins s σ H E I hf st hg
    subst hP hw hK
    obtain ⟨xs, hq, hi⟩ := hg
    obtain ⟨its, rv, pl, _⟩ := I.list hq
    have el := rv.length
    have hh := I.ok.hd hc
    obtain ⟨e1, e2, e3, e4, e5⟩ := st
    have G := GoesN.zip2 (elts := elts) (x1 := kk) (pos := tpos) S (Draws.list (prog := X.prog) (w := X.w) (A := X.A.in1) hh i1 a hne its.toArray) (Draws.text (prog := X.prog) (w := X.w) (A := X.A.in1) hh i2 z tz)
    have ei : i = min its.toArray.size z.cps.size := by
      rw [List.size_toArray, ← el]
      exact hi
    subst ei
    refine wpAny_mono (G.stops s (fun s1 => Inv X pins σ H s1) E ⟨e1, e2, e3, ⟨e4, pl.isList⟩, e5⟩ fun h' tk hk _ => I.turnedL (ch := [it, TO, i1, i2]) hk fun b hb => hf b ?_) (fun r s1 q => q) fun _ _ q => q
    have q : b = it ∨ b = TO ∨ b = i1 ∨ b = i2 := by simpa using hb
    rcases q with rfl | rfl | rfl | rfl <;> simp
  self := fun A i s Q E st h => wpAny_pyIter_zip st.1 h
end
def iZLS (K : PySem.W.Frag) (ta : TA) : TI := fun σ H R => ta σ H fun vs H1 => ∃ (a : Addr) (z : Str) (xs : List V), vs = [.ref a, .str z] ∧ SqL K H1 a xs ∧ R (ItZ K a z) H1
theorem pi_zLS {X : Cx} {e e2 : Expr} {ta : TA} {p pos tpos : Pos} {elts : List Expr} {kk : Nat} (hg : Gl X "zip") (hm : X.mg "zip" = none) (ha : PA X [e, e2] ta)
    (hs : starEach [e, e2] X.env = (false, eval e X.env) :: starEach [e2] X.env) (hpl : (backTo pos (starEach [e2] X.env)).any (·.1) = false) : PI X (.Tuple elts kk tpos) (.Call (.Name "zip" p) [e, e2] [] pos) (iZLS X.K ta) := ⟨fun pins s σ H R I h => by
  refine Call_ (ld_blt I hg hm PyProof.Rows.boot_zip (PyProof.Rows.callWith_type1 (thn (ha.run pos pins s σ H _ I h) fun us s1 hu => ?_) hs hpl))
  obtain ⟨vs, H1, I1, r1, a, z, xs, rfl, hq, q⟩ := hu
  obtain ⟨u, u', rfl, ra, rz⟩ := vals2 r1
  cases ra
  obtain ⟨tz, rfl⟩ := rz
  obtain ⟨its, rv, pl, _⟩ := I1.list hq
  have la : a < s1.heap.objs.size := by
    obtain ⟨o, ho, _⟩ := pl.isList
    exact Heap.lt_size ho
  let N := s1.heap.objs.size
  refine zip_begins2 (begins_list a its.toArray) (begins_text z tz) pl.isList trivial fun h' hz hTI hTO o1 o2 hsz hk => wpAny_pyIter_zip hz ?_
  have I2 : Inv X pins σ H1 { s1 with heap := h' } := I1.kept (t' := s1.toks) hk
  have S : ZipSep2 (N + 4) (N + 2) (N + 3) N (N + 1) [N, a] [N + 1] := zip_sep2 (N := N) (fp1 := [a]) (fp2 := []) (fun b hb => by
    rw [List.mem_singleton.mp hb]
    exact la) (fun b hb => nomatch hb)
  refine ⟨N + 4, [N + 4, N + 2, N + 3, N, N + 1], _, _, H1, rfl, I2, turn_zLS S (Nat.ne_of_lt la) (tz := tz), ⟨hz, hTI, ⟨_, _, hTO⟩, ⟨_, o1, rfl, rfl⟩, ⟨_, o2, rfl, rfl⟩⟩, fun c hc => ?_, q⟩
  have hle : N ≤ c := by
    have e : c = N + 4 ∨ c = N + 2 ∨ c = N + 3 ∨ c = N ∨ c = N + 1 := by simpa using hc
    rcases e with e | e | e | e | e
    · rw [e]; exact Nat.le_add_right _ _
    · rw [e]; exact Nat.le_add_right _ _
    · rw [e]; exact Nat.le_add_right _ _
    · rw [e]; exact Nat.le_refl _
    · rw [e]; exact Nat.le_add_right _ _
  exact I1.fpOk hle (I1.hok.fresh hle)⟩
/-- pairs of an item and a sign -/
def zipLS (xs : List D) (z : Str) : List D := (List.range (min xs.length z.cps.size)).map fun i => D.tup [xs.getD i .non, .str ⟨#[z.cps.toList.getD i 0]⟩]
theorem zipLS_at {xs : List D} {z : Str} {i : Nat} {d : D} (h : (zipLS xs z)[i]? = some d) : i < min xs.length z.cps.size ∧ d = D.tup [xs.getD i .non, .str ⟨#[z.cps.toList.getD i 0]⟩] := by
  have l := (List.getElem?_eq_some_iff.mp h).1
  unfold zipLS at h l
  rw [List.length_map, List.length_range] at l
  rw [List.getElem?_map, List.getElem?_range l] at h
  exact ⟨l, (Option.some.inj h).symm⟩
section
variable {X : Cx} {W : WX} {p : HD} {ρ : Rho} {c c1 : PC} {e e2 : Expr} {pos : Pos}
theorem ri_zLS {ps tpos : Pos} {elts : List Expr} {kk : Nat} {g : LA.G} {xs : List D} {z : Str} (hm : X.mg "zip" = none) (h : RA X W p ρ c [e, e2] (.val [.lst g xs, .str z] c1)) (hg : Gl X "zip" := by rfl)
    (hs : starEach [e, e2] X.env = (false, eval e X.env) :: starEach [e2] X.env := by rfl) (hpl : (backTo pos (starEach [e2] X.env)).any (·.1) = false := by rfl) :
    RI X W p ρ c (.Tuple elts kk tpos) (.Call (.Name "zip" ps) [e, e2] [] pos) (zipLS xs z) c1 :=
  pi_imp (pi_zLS hg hm h hs hpl) fun σ H R ⟨s, k⟩ => ⟨s, fun vs H1 e1 p1 dvs => by
    match vs, dvs with
    | _, .cons (.lst (a := a) (xs := ws) hb hq r) (.cons (.str _) .nil) =>
      refine ⟨a, z, ws, rfl, un_sqL hq, k _ H1 e1 p1 fun q c' H2 qe qs p2 => ?_⟩
      have hq2 : SqL X.K H2 a ws := un_sqL (qs.sqL hq)
      have len : (zipLS xs z).length = min ws.length z.cps.size := by
        unfold zipLS
        rw [List.length_map, List.length_range, r.length]
      refine ⟨⟨ws, hq2, len⟩, fun i d hd => ?_⟩
      obtain ⟨li, rfl⟩ := zipLS_at hd
      refine ⟨⟨ws, hq2, by rw [r.length]; exact li⟩, fun x H3 y => ?_⟩
      obtain ⟨T, w, rfl, hT, hw, rfl⟩ := y
      have lx : i < xs.length := Nat.lt_of_lt_of_le li (Nat.min_le_left _ _)
      obtain ⟨v, h1, h2⟩ := r.get (List.getElem?_eq_getElem lx)
      obtain rfl : w = v := Option.some.inj ((hw ws hq2).symm.trans h1)
      have ex : xs.getD i .non = xs[i] := by
        rw [List.getD_eq_getElem?_getD, List.getElem?_eq_getElem lx]
        rfl
      rw [ex]
      exact ⟨Ext.new hT, p2.upd hT, .tup (.inl (.inl (hide_upd p2 hT))) (.cons ((h2.sub qs (fun i b zz => by rw [qe]; exact zz)).mono (Ext.new hT)) (.cons (.str _) .nil))⟩⟩
end
end LA

namespace K35
open PySem PySem.Spec PyProof.Rows L2 LA
/-! ### the class Question -/
def mth (i : Nat) : Stmt := match top 23 with
  | .ClassDef (body := b) .. => b.getD i (.Pass ⟨0, 0, 0, 0⟩)
  | _ => .Pass ⟨0, 0, 0, 0⟩
def lensZ : List Int := [1, 2, 4, 8, 16, 32, 64]
theorem sc_ints (ns : List Int) : (ns.map D.int).map scD = (ns.map V.int).map some := by
  rw [List.map_map, List.map_map]
  rfl
theorem flat_ints (ns : List Int) : (ns.map V.int).all flatV = true := by
  rw [List.all_map, List.all_eq_true]
  intro n _
  rfl
def inLens (n : Nat) : Bool := inV (V.int (n : Nat)) (lensZ.map V.int)
def isTab (d : D) : Bool := isStrD d && (inLens (cds d).length && (cds d).all fun n => decide (n ∈ bins))
def tabR : FSpec := fun ds c o => ∃ d, ds = [d] ∧ Fit d ∧ o = .val (.bl (isTab d)) true c
section
variable {P : Program} {w : World} {K : PySem.W.Frag} {mg : Str → Option Value} {base : Heap} {B Cn : Addr}
theorem scTab : FnScope ["value", "answer"] ["value"] (defScope (top 24)) := ⟨rfl, rfl, rfl, by decide +kernel, rfl, by decide +kernel, by decide +kernel⟩
theorem ok_isTab {f : Addr} {fd : FuncData} (G : Glb mg) (hL : CTup K mg "LENGTHS" lensZ) (F : Fun K "_is_table" "_is_table" (top 24) f fd) : FnOk P w K mg base CX0 1 f fd ["value"] (spF K tabR) := by
  refine fn_val F scTab (fun ds c o h => ?_) (fun ds c o h => ?_) (fun cdv A outer s H E hr p ds c o h => ?_)
  · obtain ⟨d, rfl, _⟩ := h
    rfl
  · obtain ⟨d, _, _, rfl⟩ := h
    exact ⟨_, _, _, rfl⟩
  · obtain ⟨d, rfl, fd', rfl⟩ := h
    obtain ⟨t, ht⟩ := fd'.ty
    refine .inl (rss_ret (rs_ret (re_and (k1 := isStrD d) (re_callB call_isi G.isi PyProof.Rows.boot_isinstance (ra_cons (re_var 0) (ra_cons (re_ty G.str PyProof.Rows.boot_str) ra_nil)) (cv_isi ht (isi_str ht))) (fun hk => ?_))))
    cases d with
    | str s =>
      obtain ⟨l, rfl⟩ := str_tx s
      have hl := fd'.len l rfl
      rw [cds_tx]
      refine re_and (n1 := true) (k1 := inLens l.length) ?_ (fun hk => re_and1 ?_)
      · exact re_cmp op_in_seq (re_callB call_len G.len PySem.boot_len (ra_cons (re_var 0) ra_nil) (cv_lenT (by omega))) (re_ctup hL) (ov_inT rfl (sc_ints _) rfl (flat_ints _))
      · have key : ((List.range (chars (tx l)).length).map fun i => D.bl (decide (l.getD i 0 ∈ bins))) = (l.map fun n => decide (n ∈ bins)).map D.bl := by
          rw [signs_len]
          refine List.ext_getElem? fun i => ?_
          by_cases hi : i < l.length
          · simp [hi, List.getElem?_range]
          · simp [hi]
        have e : (l.all fun n => decide (n ∈ bins)) = (l.map fun n => decide (n ∈ bins)).all id := by rw [List.all_map]; rfl
        rw [e]
        refine re_callB (ds := [.lst ⟨false, true⟩ ((l.map fun n => decide (n ∈ bins)).map D.bl)]) (cr_all rfl) G.all PyProof.Rows.boot_all (ra_cons (nw := true) ?_ ra_nil) cv_all
        rw [← key]
        refine re_lcA (own := [("answer", 1)]) (g := gName 1) _ (fun _ => c) (fun i => [some (.str (tx l)), some (.str (chr1 (l.getD i 0)))]) (fun _ => true) rfl scTab.nd (ri_str (re_var 0)) (blkOk_by (N := ["value", "answer"]) (sc := defScope (top 24)) (by decide +kernel)) (fun _ _ _ _ _ => pg_name (i := 1) scTab.nd rfl (Or.inl rfl)) (fun i d h => ?_) (fun i d h q s H C cl fp => ?_) (by rw [signs_len]; omega)
        · obtain ⟨rfl, _⟩ := signs_at h
          exact tg_name (by decide)
        · exact re_cmp op_in_sign (re_var 1) re_str ov_inC
    | _ => cases hk
end
end K35

namespace K35
open PySem PySem.Spec PyProof.Rows L2 LA
/-! ### Question.__init__ -/
def manyOf (l : List Nat) : Nat := lensZ.idxOf (l.length : Int)
def insL (n : Nat) : List (List Nat) := wordsV [[]] (List.replicate n bins)
def yesL (l : List Nat) : List D := coll (fun i => decide (chr1 (l.getD i 0) = Str.ofString "1")) (fun i => .str (tx ((insL (manyOf l)).getD i []))) (min (insL (manyOf l)).length l.length)
def flds (l : List Nat) : List (Str × D) := [("_table", .str (tx l)), ("_many", .int (manyOf l : Nat)), ("_yes", .lst ⟨false, true⟩ (yesL l))]
def iniR (C B : Addr) : FSpec := fun ds c o => ∃ i d, ds = [.mut i, d] ∧ c[i]? = some (.ins C []) ∧ Fit d ∧ o = if isTab d then .val .non true (c.set i (.ins C (flds (cds d)))) else .ex B [("given", d)] c
theorem put1 {x y : D} : putD "_many" y [("_table", x)] = ([("_table", x), ("_many", y)] : List (Str × D)) := by
  unfold putD
  rw [if_neg (by decide)]
  rfl
theorem put2 {x y z : D} : putD "_yes" z [("_table", x), ("_many", y)] = ([("_table", x), ("_many", y), ("_yes", z)] : List (Str × D)) := by
  unfold putD
  rw [if_neg (by decide)]
  unfold putD
  rw [if_neg (by decide)]
  rfl
/-- a class whose objects have these attributes and no more -/
structure QC (K : PySem.W.Frag) (C : Addr) : Prop where
  cl : Cls K C
  t : NoAttr K C "_table"
  m : NoAttr K C "_many"
  y : NoAttr K C "_yes"
theorem tab_str {d : D} (h : isTab d = true) : ∃ l, d = .str (tx l) ∧ inLens l.length = true ∧ ∀ n ∈ l, n ∈ bins := by
  unfold isTab at h
  rw [Bool.and_eq_true_iff, Bool.and_eq_true_iff] at h
  obtain ⟨a1, a2, a3⟩ := h
  cases d with
  | str s =>
    obtain ⟨l, rfl⟩ := str_tx s
    rw [cds_tx] at a2 a3
    exact ⟨l, rfl, a2, fun n hn => of_decide_eq_true (List.all_eq_true.mp a3 n hn)⟩
  | _ => cases a1
theorem lens_of {n : Nat} (h : inLens n = true) : n = 1 ∨ n = 2 ∨ n = 4 ∨ n = 8 ∨ n = 16 ∨ n = 32 ∨ n = 64 := by
  by_cases h1 : n ≤ 64
  · have key : ∀ k : Fin 65, inLens k.val = true → (k.val = 1 ∨ k.val = 2 ∨ k.val = 4 ∨ k.val = 8 ∨ k.val = 16 ∨ k.val = 32 ∨ k.val = 64) := by decide +kernel
    exact key ⟨n, by omega⟩ h
  · exfalso
    unfold inLens at h
    obtain ⟨v, hv, e⟩ := List.any_eq_true.mp h
    simp only [lensZ, List.map_cons, List.map_nil, List.mem_cons, List.not_mem_nil, or_false] at hv
    rcases hv with rfl | rfl | rfl | rfl | rfl | rfl | rfl <;> (simp [eqV] at e; omega)
section
variable {P : Program} {w : World} {K : PySem.W.Frag} {mg : Str → Option Value} {base : Heap} {B Cn C : Addr}
theorem rs_to {X : Cx} {W : WX} {p : HD} {ρ ρ' : Rho} {c c1 c2 : PC} {st : Stmt} (h : RS X W p ρ c st (.nx ρ' c1)) (e : c1 = c2) : RS X W p ρ c st (.nx ρ' c2) := by
  subst e
  exact h
theorem low_app {n : Nat} : ∀ {a b : List D}, lowDs n a = true → lowDs n b = true → lowDs n (a ++ b) = true
  | [], _, _, h => h
  | x :: r, b, h, h' => by
    unfold lowDs at h
    show lowDs n (x :: (r ++ b)) = true
    unfold lowDs
    rw [(Bool.and_eq_true_iff.mp h).1, low_app (Bool.and_eq_true_iff.mp h).2 h']
    rfl
theorem low_coll {b : Nat → Bool} {y : Nat → Str} : ∀ n : Nat, lowDs 0 (coll b (fun i => .str (y i)) n) = true
  | 0 => rfl
  | n + 1 => by
    unfold coll
    refine low_app (low_coll n) ?_
    cases b n <;> rfl
abbrev TabD (P : Program) (w : World) (K : PySem.W.Frag) (mg : Str → Option Value) (base : Heap) := Def0 P w K mg base 1 "_is_table" ["value"] tabR
abbrev nIni : List Str := ["self", "table", "text", "answer"]
theorem scIni : FnScope nIni ["self", "table"] (defScope (mth 0)) := ⟨rfl, rfl, rfl, by decide +kernel, rfl, by decide +kernel, by decide +kernel⟩
theorem ok_ini {f : Addr} {fd : FuncData} (G : Glb mg) (hL : CTup K mg "LENGTHS" lensZ) (Q : QC K C) (T : TabD P w K mg base) (TI : AllD P w K mg base Cn "inputs" bins) (Er : Err1 P w K mg base "BadTable" "given" B) (F : Fun K "__init__" "Question.__init__" (mth 0) f fd) : FnOk P w K mg base (L2.CX P w) 5 f fd ["self", "table"] (spF K (iniR C B)) := by
  refine fn_exc F (N := nIni) scIni (fun ds c o h => ?_) (fun cdv A outer s H E hr p ds c o h tk => ?_)
  · obtain ⟨i, d, rfl, _⟩ := h
    rfl
  · obtain ⟨i, d, rfl, hc, fd', rfl⟩ := h
    cases h : isTab d with
    | false =>
      rw [if_neg Bool.false_ne_true]
      exact rss_ex (rs_if (kb := true) (rt_not (rt_val (re_c0 (d := .bl false) T (hr.mono (by decide)) (ra_cons (re_var 1) ra_nil) ⟨d, rfl, fd', by rw [← h]⟩))) (fun _ => rss_ex (rs_raiseG rfl tk Er (hr.mono (by decide)) (re_var 1))) fun z => nomatch z)
    | true =>
      rw [if_pos rfl]
      obtain ⟨l, rfl, h1, h2⟩ := tab_str h
      rw [cds_tx]
      have hlen := lens_of h1
      have hk : (l.length : Int) ∈ lensZ := by
        rcases hlen with e | e | e | e | e | e | e <;> rw [e] <;> decide
      have at0 := at_set (y := Cell.ins C [("_table", .str (tx l))]) hc
      have at1 := at_set (y := Cell.ins C [("_table", .str (tx l)), ("_many", .int (manyOf l : Nat))]) at0
      rw [List.set_set] at at1
      have fin : c.set i (Cell.ins C (flds l)) = (c.set i (Cell.ins C [("_table", .str (tx l)), ("_many", .int (manyOf l : Nat))])).set i (Cell.ins C (flds l)) := by rw [List.set_set]
      rw [fin]
      refine .inr ⟨rfl, startR nIni [D.mut i, D.str (tx l)], rss_cons (rs_if (kb := false) (rt_not (rt_val (re_c0 (d := .bl true) T (hr.mono (by decide)) (ra_cons (re_var 1) ra_nil) ⟨_, rfl, fd', by rw [← h]⟩))) (fun z => nomatch z) fun _ => rss_nil) ?_⟩
      refine rss_cons (c1 := c.set i (Cell.ins C [("_table", .str (tx l))])) (rs_fldM (fs := []) (re_var 1) (re_var 0) hc Q.cl Q.t (by decide) rfl) ?_
      refine rss_cons (c1 := c.set i (Cell.ins C [("_table", .str (tx l)), ("_many", .int (manyOf l : Nat))])) (rs_to (rs_fldM (fs := [("_table", .str (tx l))]) (re_ctupIx hL (re_callB call_len G.len PySem.boot_len (ra_cons (re_var 1) ra_nil) (cv_lenT (by omega))) hk) (re_var 0) at0 Q.cl Q.m (by show 1 < 1000; decide) rfl) (by rw [put1, List.set_set]; rfl)) ?_
      refine rss_cons (rs_to (rs_fldM (fs := [("_table", .str (tx l)), ("_many", .int (manyOf l : Nat))]) (d := .lst ⟨false, true⟩ (yesL l)) (nw := true) ?_ (re_var 0) at1 Q.cl Q.y (by show 2 < 1000; decide) ?_) (by rw [put2]; rfl)) rss_nil
      · have ym : (manyOf l : Int) = 0 ∨ (manyOf l : Int) = 1 ∨ (manyOf l : Int) = 2 ∨ (manyOf l : Int) = 3 ∨ (manyOf l : Int) = 4 ∨ (manyOf l : Int) = 5 ∨ (manyOf l : Int) = 6 := by
          unfold manyOf
          rcases hlen with e | e | e | e | e | e | e <;> rw [e] <;> decide
        have yp : posD (.int (manyOf l : Nat)) 7 = true := by
          show (decide ((0 : Int) ≤ (manyOf l : Nat)) && decide (((manyOf l : Nat) : Int) < 7)) = true
          rw [decide_eq_true (by omega), decide_eq_true (by omega)]
          rfl
        have zl : (zipLS (wD (insL (manyOf l))) (tx l)).length = min (insL (manyOf l)).length l.length := by
          unfold zipLS wD
          rw [List.length_map, List.length_range, List.length_map]
          have : (tx l).cps.size = l.length := by rw [← Array.length_toList, tx_list]
          rw [this]
        unfold yesL
        rw [← zl]
        refine re_lc (own := [("text", 2), ("answer", 3)]) (g := gTup K 2 (gCons (gName 2) (gCons (gName 3) gNil))) _ _ (fun _ => c.set i (Cell.ins C [("_table", .str (tx l)), ("_many", .int (manyOf l : Nat))])) (fun _ => c.set i (Cell.ins C [("_table", .str (tx l)), ("_many", .int (manyOf l : Nat))])) (fun j => [some (.mut i), some (.str (tx l)), some (.str (tx ((insL (manyOf l)).getD j []))), some (.str (chr1 (l.getD j 0)))]) (fun _ => false) rfl scIni.nd (ri_zLS G.zip (ra_cons (re_c1 (o := .val (allV bins (manyOf l)) false _) tk TI hr (ra_cons (re_fldM (re_var 0) at1 Q.cl Q.m rfl) ra_nil) ⟨.int (manyOf l : Nat), rfl, ⟨_, rfl⟩, ?_⟩) (ra_cons (re_var 1) ra_nil))) (blkOk_by (N := nIni) (sc := defScope (mth 0)) (by decide +kernel)) (fun _ _ _ _ _ => pg_tup rfl (pgs_cons (pg_name (i := 2) scIni.nd rfl (Or.inl rfl)) (pgs_cons (pg_name (i := 3) scIni.nd rfl (Or.inl rfl)) pgs_nil))) (fun j d h => ?_) (fun j d h q s H C' cl fp => ?_) (fun j d h hb q s H C' cl fp => ?_) (fun j d h hb => rfl) ?_
        · show _ = if posD (.int (manyOf l : Nat)) 7 = true then _ else _
          rw [yp, if_pos rfl]
          rfl
        · obtain ⟨lj, rfl⟩ := zipLS_at h
          have l1 : j < (insL (manyOf l)).length := by
            have := Nat.lt_of_lt_of_le lj (Nat.min_le_left _ _)
            unfold wD at this
            rw [List.length_map] at this
            exact this
          have e1 : (wD (insL (manyOf l))).getD j .non = .str (tx ((insL (manyOf l)).getD j [])) := by
            unfold wD
            rw [List.getD_eq_getElem?_getD, List.getElem?_map, List.getD_eq_getElem?_getD, List.getElem?_eq_getElem l1]
            rfl
          rw [e1, tx_list]
          exact tg_two (by decide) (by decide)
        · have qq := ov_eqS (K := K) (p := q) (c := c.set i (Cell.ins C [("_table", .str (tx l)), ("_many", .int (manyOf l : Nat))])) (x := .str (chr1 (l.getD j 0))) (y := .str (Str.ofString "1")) (v := .str (chr1 (l.getD j 0))) (u := .str (Str.ofString "1")) rfl rfl rfl
          rw [show decide (V.str (chr1 (l.getD j 0)) = V.str (Str.ofString "1")) = decide (chr1 (l.getD j 0) = Str.ofString "1") by simp] at qq
          exact pts_one (rt_cmp op_eq (re_var 3) re_str qq)
        · exact re_var 2
        · rw [zl]
          omega
      · show lowDs 0 (yesL l) = true
        exact low_coll _
end
end K35

namespace K35
open PySem PySem.Spec PyProof.Rows L2 LA
/-! ### what a question tells -/
def qD (C : Addr) (l : List Nat) : D := .obj C (flds l)
/-- a table -/
def Tab (l : List Nat) : Prop := inLens l.length = true ∧ ∀ n ∈ l, n ∈ bins
def tableR (C : Addr) : FSpec := fun ds c o => ∃ l, ds = [qD C l] ∧ o = .val (.str (tx l)) false c
def manyR (C : Addr) : FSpec := fun ds c o => ∃ l, ds = [qD C l] ∧ o = .val (.int (manyOf l : Nat)) false c
def placeR : FSpec := fun ds c o => ∃ l, ds = [.str (tx l)] ∧ l.length ≤ 6 ∧ (∀ n ∈ l, n ∈ bins) ∧ o = .val (.int (binNum (48 :: l) : Nat)) true c
def inOfR (B : Addr) : FSpec := fun ds c o => ∃ d n, ds = [d, .int n] ∧ Fit d ∧ o = if isW bins d && decide (((cds d).length : Int) = n) then .val .non true c else .ex B [("given", d)] c
theorem rt_to {X : Cx} {W : WX} {p : HD} {ρ : Rho} {c c1 : PC} {e : Expr} {k k' : Bool} (h : RT X W p ρ c e (.val k c1)) (q : k = k') : RT X W p ρ c e (.val k' c1) := by
  subst q
  exact h
theorem cv_lenT' {K : PySem.W.Frag} {p : HD} {c : PC} {l : List Nat} (h : l.length ≤ 1000) : CV K p (fun xs H Q => ∃ z, xs = [.str z] ∧ z.length ≤ sizeLine ∧ Q (.int z.length) H) [.str (tx l)] (.int (l.length : Nat)) true c := by
  have q := cv_lenS (K := K) (p := p) (c := c) (s := tx l) (sz_le (by rw [tx_len]; omega))
  rw [tx_len] at q
  exact q
theorem isW_str {a : List Nat} {d : D} (h : isW a d = true) : ∃ l, d = .str (tx l) ∧ l.length ≤ 6 ∧ ∀ n ∈ l, n ∈ a := by
  unfold isW at h
  rw [Bool.and_eq_true_iff, Bool.and_eq_true_iff] at h
  obtain ⟨a1, a2, a3⟩ := h
  cases d with
  | str s =>
    obtain ⟨l, rfl⟩ := str_tx s
    rw [cds_tx] at a2 a3
    exact ⟨l, rfl, of_decide_eq_true a2, fun n hn => of_decide_eq_true (List.all_eq_true.mp a3 n hn)⟩
  | _ => cases a1
section
variable {P : Program} {w : World} {K : PySem.W.Frag} {mg : Str → Option Value} {base : Heap} {B Cn C : Addr}
theorem ok_table {f : Addr} {fd : FuncData} (Q : QC K C) (F : Fun K "table" "Question.table" (mth 1) f fd) : FnOk P w K mg base CX0 1 f fd ["self"] (spF K (tableR C)) := by
  refine fn_val F (N := ["self"]) ⟨rfl, rfl, rfl, by decide +kernel, rfl, by decide +kernel, by decide +kernel⟩ (fun ds c o h => ?_) (fun ds c o h => ?_) (fun cdv A outer s H E hr p ds c o h => ?_)
  · obtain ⟨l, rfl, _⟩ := h
    rfl
  · obtain ⟨l, _, rfl⟩ := h
    exact ⟨_, _, _, rfl⟩
  · obtain ⟨l, rfl, rfl⟩ := h
    exact .inl (rss_ret (rs_ret (re_fld (C := C) (fs := flds l) (re_var 0) Q.cl Q.t rfl)))
theorem ok_many {f : Addr} {fd : FuncData} (Q : QC K C) (F : Fun K "many" "Question.many" (mth 2) f fd) : FnOk P w K mg base CX0 1 f fd ["self"] (spF K (manyR C)) := by
  refine fn_val F (N := ["self"]) ⟨rfl, rfl, rfl, by decide +kernel, rfl, by decide +kernel, by decide +kernel⟩ (fun ds c o h => ?_) (fun ds c o h => ?_) (fun cdv A outer s H E hr p ds c o h => ?_)
  · obtain ⟨l, rfl, _⟩ := h
    rfl
  · obtain ⟨l, _, rfl⟩ := h
    exact ⟨_, _, _, rfl⟩
  · obtain ⟨l, rfl, rfl⟩ := h
    exact .inl (rss_ret (rs_ret (re_fld (C := C) (fs := flds l) (re_var 0) Q.cl Q.m rfl)))
theorem bins_B {n : Nat} (h : n ∈ bins) : IsB n := by
  have : n = 48 ∨ n = 49 := by
    have e : bins = [48, 49] := by decide
    rw [e] at h
    simpa using h
  exact this
theorem ok_place {f : Addr} {fd : FuncData} (G : Glb mg) (F : Fun K "_place" "_place" (top 26) f fd) : FnOk P w K mg base CX0 1 f fd ["text"] (spF K placeR) := by
  refine fn_val F (N := ["text"]) ⟨rfl, rfl, rfl, by decide +kernel, rfl, by decide +kernel, by decide +kernel⟩ (fun ds c o h => ?_) (fun ds c o h => ?_) (fun cdv A outer s H E hr p ds c o h => ?_)
  · obtain ⟨l, rfl, _⟩ := h
    rfl
  · obtain ⟨l, _, _, _, rfl⟩ := h
    exact ⟨_, _, _, rfl⟩
  · obtain ⟨l, rfl, h6, hb, rfl⟩ := h
    have e : Str.ofString "0" ++ tx l = tx (48 :: l) := by
      show tx [48] ++ tx l = _
      rw [tx_app]
      rfl
    have q := cv_bin (K := K) (p := p) (c := c) (z := tx (48 :: l)) (by rw [tx_len]; show l.length + 1 ≤ 640; omega) (by
      rw [tx_list]
      intro n hn
      rcases List.mem_cons.mp hn with rfl | hn
      · exact .inl rfl
      · exact bins_B (hb n hn)) (by rw [tx_list]; exact List.cons_ne_nil _ _)
    rw [tx_list] at q
    have s := ov_addS (K := K) (p := p) (c := c) (s := Str.ofString "0") (t := tx l) (sz_le (by rw [tx_len]; show 1 + _ ≤ _; omega))
    rw [e] at s
    exact .inl (rss_ret (rs_ret (re_callT call_bin G.int PyProof.Rows.boot_int (ra_cons (re_bin op_add_str re_str (re_var 0) s) (ra_cons re_int ra_nil)) q)))
theorem ok_inOf {f : Addr} {fd : FuncData} (G : Glb mg) (T : IsInD P w K mg base) (Er : Err1 P w K mg base "BadInput" "given" B) (F : Fun K "check_input_of" "check_input_of" (top 17) f fd) : FnOk P w K mg base (L2.CX P w) 3 f fd ["text", "many"] (spF K (inOfR B)) := by
  refine fn_exc F (N := ["text", "many"]) ⟨rfl, rfl, rfl, by decide +kernel, rfl, by decide +kernel, by decide +kernel⟩ (fun ds c o h => ?_) (fun cdv A outer s H E hr p ds c o h tk => ?_)
  · obtain ⟨d, n, rfl, _⟩ := h
    rfl
  · obtain ⟨d, n, rfl, fd', rfl⟩ := h
    have len : isW bins d = true → CV K p (fun xs H Q => ∃ z, xs = [.str z] ∧ z.length ≤ sizeLine ∧ Q (.int z.length) H) [d] (.int (cds d).length) true c := fun hw => by
      obtain ⟨l, rfl, h6, _⟩ := isW_str hw
      rw [cds_tx]
      exact cv_lenT' (by omega)
    cases h : (isW bins d && decide (((cds d).length : Int) = n)) with
    | true =>
      rw [if_pos rfl]
      exact .inr ⟨rfl, _, rss_cons (rs_if (kb := false) (rt_to (rt_not (RW.rt (rw_and (k1 := isW bins d) (k2 := decide (((cds d).length : Int) = n)) (rt_val (re_c0 T hr (ra_cons (re_var 0) ra_nil) ⟨d, rfl, fd', rfl⟩)) fun hk => rw_and1 (rt_cmp op_eq (re_callB call_len_str G.len PySem.boot_len (ra_cons (re_var 0) ra_nil) (len hk)) (re_var 1) ov_eqI)))) (by rw [h]; rfl)) (fun z => nomatch z) fun _ => rss_nil) rss_nil⟩
    | false =>
      rw [if_neg Bool.false_ne_true]
      exact rss_ex (rs_if (kb := true) (rt_to (rt_not (RW.rt (rw_and (k1 := isW bins d) (k2 := decide (((cds d).length : Int) = n)) (rt_val (re_c0 T hr (ra_cons (re_var 0) ra_nil) ⟨d, rfl, fd', rfl⟩)) fun hk => rw_and1 (rt_cmp op_eq (re_callB call_len_str G.len PySem.boot_len (ra_cons (re_var 0) ra_nil) (len hk)) (re_var 1) ov_eqI)))) (by rw [h]; rfl)) (fun _ => rss_ex (rs_raiseG rfl tk Er hr (re_var 0))) fun z => nomatch z)
end
end K35

namespace K35
open PySem PySem.Spec PyProof.Rows L2 LA
/-! ### Question.__call__ and the rest -/
theorem fold_bin : ∀ (l : List Nat) (a : Nat), (∀ n ∈ l, n ∈ bins) → l.foldl (fun a c => a * 2 + (c - 48)) a < (a + 1) * 2 ^ l.length
  | [], a, _ => by simp
  | n :: r, a, h => by
    have hn : n - 48 < 2 := (bins_B (h n List.mem_cons_self)).low
    have ih := fold_bin r (a * 2 + (n - 48)) fun m hm => h m (List.mem_cons_of_mem _ hm)
    rw [List.foldl_cons, List.length_cons, Nat.pow_succ]
    refine Nat.lt_of_lt_of_le ih ?_
    have : (a * 2 + (n - 48) + 1) ≤ (a + 1) * 2 := by omega
    calc (a * 2 + (n - 48) + 1) * 2 ^ r.length ≤ ((a + 1) * 2) * 2 ^ r.length := Nat.mul_le_mul_right _ this
      _ = (a + 1) * (2 ^ r.length * 2) := by rw [Nat.mul_assoc, Nat.mul_comm 2]
theorem place_lt {l : List Nat} (h : ∀ n ∈ l, n ∈ bins) : binNum (48 :: l) < 2 ^ l.length := by
  have := fold_bin l 0 h
  unfold binNum
  rw [List.foldl_cons]
  simpa using this
theorem tab_pow {l : List Nat} (h : inLens l.length = true) : l.length = 2 ^ manyOf l ∧ manyOf l ≤ 6 := by
  have e := lens_of h
  unfold manyOf
  rcases e with e | e | e | e | e | e | e <;> rw [e] <;> decide
def ansV (l x : List Nat) : Int := if l.getD (binNum (48 :: x)) 0 = 49 then 1 else 0
def callR (C B : Addr) : FSpec := fun ds c o => ∃ l d, ds = [qD C l, d] ∧ Tab l ∧ Fit d ∧ o = if isW bins d && decide (((cds d).length : Int) = (manyOf l : Nat)) then .val (.int (ansV l (cds d))) true c else .ex B [("given", d)] c
section
variable {P : Program} {w : World} {K : PySem.W.Frag} {mg : Str → Option Value} {base : Heap} {B Cn C : Addr}
abbrev PlaceD (P : Program) (w : World) (K : PySem.W.Frag) (mg : Str → Option Value) (base : Heap) := Def0 P w K mg base 1 "_place" ["text"] placeR
abbrev InOfD (P : Program) (w : World) (K : PySem.W.Frag) (mg : Str → Option Value) (base : Heap) (B : Addr) := Def1 P w K mg base 3 "check_input_of" ["text", "many"] (inOfR B)
theorem ok_call {f : Addr} {fd : FuncData} (G : Glb mg) (Q : QC K C) (TP : PlaceD P w K mg base) (TI : InOfD P w K mg base B) (F : Fun K "__call__" "Question.__call__" (mth 5) f fd) : FnOk P w K mg base (L2.CX P w) 4 f fd ["self", "text"] (spF K (callR C B)) := by
  refine fn_exc F (N := ["self", "text"]) ⟨rfl, rfl, rfl, by decide +kernel, rfl, by decide +kernel, by decide +kernel⟩ (fun ds c o h => ?_) (fun cdv A outer s H E hr p ds c o h tk => ?_)
  · obtain ⟨l, d, rfl, _⟩ := h
    rfl
  · obtain ⟨l, d, rfl, ht, fd', rfl⟩ := h
    cases h : (isW bins d && decide (((cds d).length : Int) = (manyOf l : Nat))) with
    | false =>
      rw [if_neg Bool.false_ne_true]
      exact rss_ex (rs_exprX (re_c1 tk TI hr (ra_cons (re_var 1) (ra_cons (re_fld (C := C) (fs := flds l) (re_var 0) Q.cl Q.m rfl) ra_nil)) ⟨d, _, rfl, fd', by rw [h, if_neg Bool.false_ne_true]⟩))
    | true =>
      rw [if_pos rfl]
      obtain ⟨hw, hn⟩ := Bool.and_eq_true_iff.mp h
      have hn := of_decide_eq_true hn
      refine .inl (rss_cons (rs_expr (re_c1 (o := .val .non true c) tk TI hr (ra_cons (re_var 1) (ra_cons (re_fld (C := C) (fs := flds l) (re_var 0) Q.cl Q.m rfl) ra_nil)) ⟨d, _, rfl, fd', by rw [h, if_pos rfl]⟩)) ?_)
      obtain ⟨x, rfl, h6, hb⟩ := isW_str hw
      rw [cds_tx] at hn ⊢
      have hp := place_lt hb
      obtain ⟨hq, _⟩ := tab_pow ht.1
      have hx : x.length = manyOf l := by omega
      rw [hx, ← hq] at hp
      have hg : (tx l).cps.toList[binNum (48 :: x)]? = some (l.getD (binNum (48 :: x)) 0) := by
        rw [tx_list, List.getD_eq_getElem?_getD, List.getElem?_eq_getElem hp]
        rfl
      have hl : l.length ≤ 64 := by
        have := lens_of ht.1
        omega
      have hm : l.getD (binNum (48 :: x)) 0 ∈ bins := ht.2 _ (by
        rw [List.getD_eq_getElem?_getD, List.getElem?_eq_getElem hp]
        exact List.getElem_mem _)
      refine rss_ret (rs_ret (re_callT call_int_str G.int PyProof.Rows.boot_int (ra_cons (re_ix ix_seq (re_fld (C := C) (fs := flds l) (re_var 0) Q.cl Q.t rfl) (re_c0 TP (hr.mono (by decide)) (ra_cons (re_var 1) ra_nil) ⟨x, rfl, h6, hb, rfl⟩) (ov_ixS (by rw [tx_len]; exact sz_le (by omega)) rfl hg)) ra_nil) (cv_intS ?_ (by show 1 ≤ 640; decide))))
      unfold ansV
      rcases bins_B hm with e | e
      · rw [e]
        decide +kernel
      · rw [e]
        decide +kernel
theorem ok_lenQ {f : Addr} {fd : FuncData} (G : Glb mg) (Q : QC K C) (F : Fun K "__len__" "Question.__len__" (mth 6) f fd) : FnOk P w K mg base CX0 1 f fd ["self"] (spLen K C "_yes") :=
  fn_len F (N := ["self"]) ⟨rfl, rfl, rfl, by decide +kernel, rfl, by decide +kernel, by decide +kernel⟩ rfl Q.cl Q.y G.len rfl fun _ _ _ _ _ _ => rfl
theorem ok_iterQ {f : Addr} {fd : FuncData} (G : Glb mg) (Q : QC K C) (F : Fun K "__iter__" "Question.__iter__" (mth 7) f fd) : FnSz P w K mg base 1 f fd ["self"] (spIter K C "_yes") :=
  fn_iter F (N := ["self"]) ⟨rfl, rfl, rfl, by decide +kernel, rfl, by decide +kernel, by decide +kernel⟩ rfl Q.cl Q.y G.iter rfl fun _ _ _ _ _ _ => rfl
/-- the yes inputs, as texts -/
def yesT (l : List Nat) : List Str := ((List.range (min (insL (manyOf l)).length l.length)).filter fun i => decide (chr1 (l.getD i 0) = Str.ofString "1")).map fun i => tx ((insL (manyOf l)).getD i [])
theorem coll_filter (b : Nat → Bool) (y : Nat → Str) : ∀ n : Nat, coll b (fun i => .str (y i)) n = (((List.range n).filter b).map y).map D.str
  | 0 => rfl
  | n + 1 => by
    unfold coll
    rw [coll_filter b y n, List.range_succ, List.filter_append, List.map_append, List.map_append]
    congr 1
    cases h : b n <;> simp [h]
theorem yes_eq (l : List Nat) : yesL l = (yesT l).map D.str := coll_filter _ _ _
def inQ (l : List Nat) (d : D) : Bool := isStrD d && (yesT l).any fun z => match d with
  | .str s => decide (z = s)
  | _ => false
def conR (C : Addr) : FSpec := fun ds c o => ∃ l d, ds = [qD C l, d] ∧ Ty d ∧ o = .val (.bl (inQ l d)) true c
theorem sc_strs (ns : List Str) : (ns.map D.str).map scD = (ns.map V.str).map some := by
  rw [List.map_map, List.map_map]
  rfl
theorem flat_strs' (ns : List Str) : (ns.map V.str).all flatV = true := by
  rw [List.all_map, List.all_eq_true]
  intro n _
  rfl
theorem ok_con {f : Addr} {fd : FuncData} (G : Glb mg) (Q : QC K C) (F : Fun K "__contains__" "Question.__contains__" (mth 8) f fd) : FnOk P w K mg base CX0 1 f fd ["self", "value"] (spF K (conR C)) := by
  refine fn_val F (N := ["self", "value"]) ⟨rfl, rfl, rfl, by decide +kernel, rfl, by decide +kernel, by decide +kernel⟩ (fun ds c o h => ?_) (fun ds c o h => ?_) (fun cdv A outer s H E hr p ds c o h => ?_)
  · obtain ⟨l, d, rfl, _⟩ := h
    rfl
  · obtain ⟨l, d, _, _, rfl⟩ := h
    exact ⟨_, _, _, rfl⟩
  · obtain ⟨l, d, rfl, ⟨t, ht⟩, rfl⟩ := h
    refine .inl (rss_ret (rs_ret (re_and (k1 := isStrD d) (re_callB call_isi G.isi PyProof.Rows.boot_isinstance (ra_cons (re_var 1) (ra_cons (re_ty G.str PyProof.Rows.boot_str) ra_nil)) (cv_isi ht (isi_str ht))) (fun hk => re_and1 ?_))))
    cases d with
    | str s =>
      have e : ((yesT l).any fun z => decide (z = s)) = inV (V.str s) ((yesT l).map V.str) := by
        unfold inV
        rw [List.any_map]
        rfl
      show RE _ _ _ _ _ _ (.val (.bl ((yesT l).any fun z => decide (z = s))) true c)
      rw [e]
      refine re_cmp op_in_seq (re_var 1) (re_fld (C := C) (fs := flds l) (d := .lst ⟨false, true⟩ ((yesT l).map D.str)) (re_var 0) Q.cl Q.y (by rw [← yes_eq]; rfl)) (ov_inL rfl (sc_strs _) rfl (flat_strs' _))
    | _ => cases hk
end
end K35

namespace K35
open PySem PySem.Spec PyProof.Rows L2 LA
/-! ### Question.__str__, Question.__eq__ -/
section
variable {K : PySem.W.Frag} {p : HD} {c : PC} {C : Addr} {fs : List (Str × D)}
theorem cv_isiO (w : C8.InsC K C) : CV K p (rIsi K) [.obj C fs, .cls C] (.bl true) true c := fun vs H Q dvs hp kk => by
  match vs, dvs with
  | _, .cons (.obj hv r) (.cons (.cls _) .nil) => exact ⟨_, _, .ref C, .ref C, true, rfl, .own C, .base (TyOf.ins (hide_some hv).1 w.cl w.ha w.hn w.htk w.hm), w.me, kk _ H (Ext.refl p H) hp (.bl _) fun _ => New.sc (by intro a h; cases h)⟩
theorem cv_isiN {d : D} {t : String} (hd : tyD d = some t) (hk : PySem.W.kitOne K (.type t) (.ref C) = some false) : CV K p (rIsi K) [d, .cls C] (.bl false) true c := fun vs H Q dvs hp kk => by
  match vs, dvs with
  | _, .cons hv (.cons (.cls _) .nil) => exact ⟨_, _, _, .ref C, false, rfl, .own C, tyx_of hv hd, hk, kk _ H (Ext.refl p H) hp (.bl _) fun _ => New.sc (by intro a h; cases h)⟩
end
def strR (C : Addr) : FSpec := fun ds c o => ∃ l, ds = [qD C l] ∧ o = .val (.str (tx l)) true c
def eqR (K : PySem.W.Frag) (C : Addr) : FSpec := fun ds c o => (∃ l l', ds = [qD C l, qD C l'] ∧ o = .val (.bl (decide (tx l = tx l'))) true c) ∨ ∃ l d t, ds = [qD C l, d] ∧ tyD d = some t ∧ PySem.W.kitOne K (.type t) (.ref C) = some false ∧ o = .val (.bl false) true c
section
variable {P : Program} {w : World} {K : PySem.W.Frag} {mg : Str → Option Value} {base : Heap} {B Cn C : Addr}
theorem cv_strS {p : HD} {c : PC} {z : Str} : CV K p (fun xs H Q => ∃ a, xs = [.str a] ∧ Q (.str a) H) [.str z] (.str z) true c := fun vs H Q dvs hp kk => by
  match vs, dvs with
  | _, .cons (.str _) .nil => exact ⟨z, rfl, kk _ H (Ext.refl p H) hp (.str _) fun _ => New.sc (by intro a h; cases h)⟩
theorem ok_strQ {f : Addr} {fd : FuncData} (G : Glb mg) (Q : QC K C) (F : Fun K "__str__" "Question.__str__" (mth 3) f fd) : FnOk P w K mg base CX0 1 f fd ["self"] (spF K (strR C)) := by
  refine fn_val F (N := ["self"]) ⟨rfl, rfl, rfl, by decide +kernel, rfl, by decide +kernel, by decide +kernel⟩ (fun ds c o h => ?_) (fun ds c o h => ?_) (fun cdv A outer s H E hr p ds c o h => ?_)
  · obtain ⟨l, rfl, _⟩ := h
    rfl
  · obtain ⟨l, _, rfl⟩ := h
    exact ⟨_, _, _, rfl⟩
  · obtain ⟨l, rfl, rfl⟩ := h
    exact .inl (rss_ret (rs_ret (re_callT SkE.call_str_str G.str PyProof.Rows.boot_str (ra_cons (re_fld (C := C) (fs := flds l) (re_var 0) Q.cl Q.t rfl) ra_nil) cv_strS)))
theorem re_cls {X : Cx} {W : WX} {p : HD} {ρ : Rho} {c : PC} {x : Str} {pos : Pos} (hm : X.mg x = some (.ref C)) (hg : Gl X x := by rfl) (hd : (x == ("__debug__" : Str)) = false := by decide) : RE X W p ρ c (.Name x pos) (.val (.cls C) false c) :=
  pe_imp (pe_glob (v := .ref C) hg hm rfl hd) fun σ H Q ⟨s, kk⟩ => kk (.ref C) H (Ext.refl p H) s.pl (.cls C) fun z => nomatch z
theorem ok_eqQ {f : Addr} {fd : FuncData} (G : Glb mg) (Q : QC K C) (I : C8.InsC K C) (hm : mg "Question" = some (.ref C)) (F : Fun K "__eq__" "Question.__eq__" (mth 4) f fd) : FnOk P w K mg base CX0 1 f fd ["self", "other"] (spF K (eqR K C)) := by
  refine fn_val F (N := ["self", "other"]) ⟨rfl, rfl, rfl, by decide +kernel, rfl, by decide +kernel, by decide +kernel⟩ (fun ds c o h => ?_) (fun ds c o h => ?_) (fun cdv A outer s H E hr p ds c o h => ?_)
  · rcases h with ⟨l, l', rfl, _⟩ | ⟨l, d, t, rfl, _⟩ <;> rfl
  · rcases h with ⟨l, l', _, rfl⟩ | ⟨l, d, t, _, _, _, rfl⟩ <;> exact ⟨_, _, _, rfl⟩
  · rcases h with ⟨l, l', rfl, rfl⟩ | ⟨l, d, t, rfl, ht, hk, rfl⟩
    · have q := ov_eqS (K := K) (p := p) (c := c) (x := .str (tx l)) (y := .str (tx l')) (v := .str (tx l)) (u := .str (tx l')) rfl rfl rfl
      rw [show decide (V.str (tx l) = V.str (tx l')) = decide (tx l = tx l') by simp] at q
      exact .inl (rss_ret (rs_ret (re_and (k1 := true) (re_callB call_isi G.isi PyProof.Rows.boot_isinstance (ra_cons (re_var 1) (ra_cons (re_cls hm) ra_nil)) (cv_isiO I)) fun _ => re_and1 (re_cmp op_eq (re_fld (C := C) (fs := flds l) (re_var 0) Q.cl Q.t rfl) (re_fld (C := C) (fs := flds l') (re_var 1) Q.cl Q.t rfl) q))))
    · exact .inl (rss_ret (rs_ret (re_and (k1 := false) (k2 := true) (re_callB call_isi G.isi PyProof.Rows.boot_isinstance (ra_cons (re_var 1) (ra_cons (re_cls hm) ra_nil)) (cv_isiN ht hk)) fun z => nomatch z)))
end
end K35

namespace K35
open PySem PySem.Spec PyProof.Rows L2 LA
/-! ### the law's own strings -/
def strsV (a : List Nat) (n : Nat) : List (List Nat) := wordsV [[]] (List.replicate n a)
def strsR : FSpec := fun ds c o => ∃ (a : List Nat) (n : Nat), ds = [.int (n : Nat), .str (tx a)] ∧ n ≤ 6 ∧ a.length ≤ 3 ∧ a ≠ [] ∧ o = .val (.lst ⟨false, true⟩ (wD (strsV a n))) false c
theorem wD_len (ws : List (List Nat)) : (wD ws).length = ws.length := by unfold wD; rw [List.length_map]
theorem wD_at {ws : List (List Nat)} {i : Nat} {d : D} (h : (wD ws)[i]? = some d) : d = .str (tx (ws.getD i [])) ∧ i < ws.length ∧ ws.getD i [] ∈ ws := by
  unfold wD at h
  rw [List.getElem?_map] at h
  by_cases hi : i < ws.length
  · rw [List.getElem?_eq_getElem hi] at h
    rw [List.getD_eq_getElem?_getD, List.getElem?_eq_getElem hi]
    exact ⟨(Option.some.inj h).symm, hi, List.getElem_mem _⟩
  · rw [List.getElem?_eq_none (by omega)] at h
    cases h
theorem strs_all (a : List Nat) (n : Nat) : ∀ w ∈ strsV a n, w.length = n := fun w hw => by
  have := words_all (List.replicate n a) (ws := [[]]) (n := 0) (fun w hw => by rcases List.mem_cons.mp hw with rfl | hw; rfl; cases hw) w hw
  rw [List.length_replicate] at this
  omega
theorem strs_len {a : List Nat} (h : a.length ≤ 3) {n : Nat} (hn : n ≤ 6) : (strsV a n).length ≤ 729 := by
  have wn := words_len (List.replicate n a) (ws := [[]]) fun l hl => by rw [List.eq_of_mem_replicate hl]; exact h
  rw [List.length_replicate] at wn
  have : 3 ^ n ≤ 3 ^ 6 := Nat.pow_le_pow_right (by decide) hn
  have e : (3 : Nat) ^ 6 = 729 := by decide
  simp only [List.length_cons, List.length_nil] at wn
  unfold strsV
  omega
theorem strs_next (a : List Nat) (n : Nat) : strsV a (n + 1) = step (strsV a n) a := by
  unfold strsV
  rw [List.replicate_succ', wordsV_app]
  rfl
section
variable {P : Program} {w : World} {K : PySem.W.Frag} {mg : Str → Option Value} {base : Heap} {B Cn fB fC : Addr}
end
end K35

namespace K35
open PySem PySem.Spec PyProof.Rows L2 LA
theorem re_to {X : Cx} {W : WX} {p : HD} {ρ : Rho} {c c1 : PC} {e : Expr} {d d' : D} {nw : Bool} (h : RE X W p ρ c e (.val d nw c1)) (q : d = d') : RE X W p ρ c e (.val d' nw c1) := by
  subst q
  exact h
/-! ### other values -/
def oddL : List D := [.non, .bl true, .bl false, .int (-1), .int 7, .int ((10 : Int) ^ (30 : Int).toNat), .str "2", .str "0110010", .str " 01", .lst ⟨true, true⟩ [.str "0"], .tup [.str "0", .str "1"], .dct [(.inr "0", .int 1)], .lst ⟨true, true⟩ [.non], .str "x"]
def oddV (c : Pl) : D := oddL.getD (drawV c 14).toNat .non
def oddR : FSpec := fun ds c o => ∃ x : Pl, c = [x.c] ∧ ds = [.mut 0] ∧ o = .val (oddV x) false [(drawC x 14).c]
def rngD (d : D) (lo hi : Int) : Bool := match d with
  | .int i => decide (lo ≤ i) && decide (i ≤ hi)
  | _ => false
def lwR : FSpec := fun ds c o => ∃ d lo hi, ds = [d, .int lo, .int hi] ∧ Ty d ∧ o = .val (.bl (rngD d lo hi)) true c
theorem rng_pos (d : D) (n : Int) : rngD d 0 (n - 1) = posD d n := by
  cases d <;> try rfl
  rename_i i
  show (decide (0 ≤ i) && decide (i ≤ n - 1)) = (decide (0 ≤ i) && decide (i < n))
  congr 1
  rw [Bool.eq_iff_iff, decide_eq_true_eq, decide_eq_true_eq]
  omega
section
variable {P : Program} {w : World} {K : PySem.W.Frag} {mg : Str → Option Value} {base : Heap} {B : Ers}
end
end K35

namespace K35
open PySem PySem.Spec PyProof.Rows L2 LA
/-! ### drawn tables -/
def itC (x : Pl) (m : Int) : Nat → Pl
  | 0 => x
  | n + 1 => drawC (itC x m n) m
section
variable {X : Cx} {W : WX} {p : HD} {ρ : Rho} {c c1 c2 : PC} {e o : Expr} {pos ps apos : Pos} {nw n2 : Bool}
/-- str of a bit -/
theorem re_strB {i : Int} (hm : X.mg "str" = none) (h : RE X W p ρ c e (.val (.int i) nw c1)) (hi : i = 0 ∨ i = 1) (hg : Gl X "str" := by rfl)
    (he : starEach [e] X.env = (false, eval e X.env) :: starEach [] X.env := by rfl) : RE X W p ρ c (.Call (.Name "str" ps) [e] [] pos) (.val (.str (chr1 (48 + i.toNat))) true c1) := by
  have e1 : Str.ofString (toString i) = chr1 (48 + i.toNat) := by
    rcases hi with rfl | rfl <;> decide
  rw [← e1]
  exact re_callT call_str_int hm PyProof.Rows.boot_str (ra_cons h ra_nil he) (cv_strI (by rcases hi with rfl | rfl <;> decide)) hg (by decide) (by decide) he
theorem re_intB {n : Nat} (hm : X.mg "int" = none) (h : RE X W p ρ c e (.val (.str (chr1 n)) nw c1)) (hi : n = 48 ∨ n = 49) (hg : Gl X "int" := by rfl)
    (he : starEach [e] X.env = (false, eval e X.env) :: starEach [] X.env := by rfl) : RE X W p ρ c (.Call (.Name "int" ps) [e] [] pos) (.val (.int ((n : Int) - 48)) true c1) := by
  refine re_callT call_int_str hm PyProof.Rows.boot_int (ra_cons h ra_nil he) (cv_intS ?_ (by show 1 ≤ 640; decide)) hg (by decide) (by decide) he
  rcases hi with rfl | rfl <;> decide +kernel
theorem re_count {l : List Nat} {n : Nat} (ho : RE X W p ρ c o (.val (.str (tx l)) nw c1)) (he : RE X W p ρ c1 e (.val (.str (chr1 n)) n2 c2)) (hs : starEach [e] X.env = [(false, eval e X.env)] := by rfl) (hbase : attributeBase o "count" X.env (eval o X.env) = eval o X.env := by rfl) (hline : (apos.endLine == pos.line) = true := by rfl) :
    RE X W p ρ c (.Call (.Attribute o "count" apos) [e] [] pos) (.val (.int (Txt.count (tx l) (chr1 n))) true c2) :=
  pe_imp (pe_m1 PySem.F.slot_str_count (by first | rfl | (show builtinType _ = _; rw [builtinType_eq_fast]; kernel_rfl)) mt_count ho he hs hbase hline) fun σ H Q ⟨s, k⟩ => ⟨s, fun v H1 e1 p1 dv _ => by
    cases dv
    refine ⟨⟨tx l, rfl⟩, s.mono e1 p1, fun u H2 e2 p2 du _ => ?_⟩
    cases du
    exact ⟨_, _, rfl, rfl, k _ H2 (e1.trans e2) p2 (.int _) fun _ => New.sc (by intro a h; cases h)⟩⟩
end
theorem count_nat (l : List Nat) (n : Nat) : Txt.count (tx l) (chr1 n) = (l.count n : Nat) := by
  have h := count_cnt (tx l) n
  rw [tx_list] at h
  refine h.trans ?_
  clear h
  induction l with
  | nil => rfl
  | cons m r ih =>
    rw [cnt_cons, ih, List.count_cons]
    by_cases e : m = n
    · subst e
      simp
      omega
    · simp [e]
/-- which of the four ways -/
def wayI (x : Pl) : Nat := (drawV x 6).toNat
def insT (n : Nat) : List (List Nat) := strsV bins n
/-- by the number of bits 1 -/
def rowC (x : Pl) (n : Nat) : List Nat := (insT n).map fun t => 48 + (drawV (itC x 2 (t.count 49)) 2).toNat
/-- one bit chosen by another -/
def spotC (x : Pl) (n i : Nat) : Nat := (drawV (itC x (n : Nat) i) (n : Nat)).toNat
def mixC (x : Pl) (n : Nat) : List Nat := (insT n).map fun t => 48 + ((((if t.getD (spotC x n 0) 0 = 49 then t.getD (spotC x n 1) 0 else t.getD (spotC x n 2) 0) : Int) - 48 + drawV (itC x (n : Nat) 3) 2) % 2).toNat
def shareI (w : Nat) : Int := if w = 1 ∨ w = 2 then 4 else 2
def rareC (w : Nat) (x : Pl) (n : Nat) : List Nat := (List.range (insT n).length).map fun j => 48 + (if w = 2 then (if drawV (itC x (shareI w) j) (shareI w) = 0 then 0 else 1) else if drawV (itC x (shareI w) j) (shareI w) = 0 then 1 else 0)
def tabL (x : Pl) (n : Nat) : List Nat :=
  if wayI x = 4 then rowC (drawC x 6) n else if wayI x = 5 ∧ 0 < n then mixC (drawC x 6) n else rareC (wayI x) (drawC x 6) n
def tabP (x : Pl) (n : Nat) : Pl :=
  if wayI x = 4 then itC (drawC x 6) 2 (n + 1) else if wayI x = 5 ∧ 0 < n then drawC (itC (drawC x 6) (n : Nat) 3) 2 else itC (drawC x 6) (shareI (wayI x)) (insT n).length
theorem insT_len : ∀ n : Nat, (insT n).length = 2 ^ n
  | 0 => rfl
  | n + 1 => by
    have e : bins.length = 2 := by decide
    show (strsV bins (n + 1)).length = _
    rw [strs_next, step_len, e, Nat.pow_succ]
    have := insT_len n
    unfold insT at this
    rw [this]
theorem tabL_len (x : Pl) (n : Nat) : (tabL x n).length = 2 ^ n := by
  unfold tabL
  split
  · unfold rowC
    rw [List.length_map, insT_len]
  · split
    · unfold mixC
      rw [List.length_map, insT_len]
    · unfold rareC
      rw [List.length_map, List.length_range, insT_len]
theorem bin_of {n : Nat} (h : n = 48 ∨ n = 49) : n ∈ bins := by
  have e : bins = [48, 49] := by decide
  rw [e]
  simpa using h
theorem tabL_bin (x : Pl) (n : Nat) : ∀ m ∈ tabL x n, m ∈ bins := fun m hm => by
  unfold tabL at hm
  split at hm
  · unfold rowC at hm
    obtain ⟨t, _, rfl⟩ := List.mem_map.mp hm
    have := drawV_in (c := itC (drawC x 6) 2 (t.count 49)) (show (0 : Int) < 2 by decide)
    exact bin_of (by omega)
  · split at hm
    · unfold mixC at hm
      obtain ⟨t, _, rfl⟩ := List.mem_map.mp hm
      exact bin_of (by omega)
    · unfold rareC at hm
      obtain ⟨j, _, rfl⟩ := List.mem_map.mp hm
      refine bin_of ?_
      split <;> split <;> omega
theorem tab_tab (x : Pl) {n : Nat} (h : n ≤ 6) : Tab (tabL x n) := by
  refine ⟨?_, tabL_bin x n⟩
  rw [tabL_len]
  have key : ∀ k : Fin 7, inLens (2 ^ k.val) = true := by decide +kernel
  exact key ⟨n, by omega⟩
def tabFR : FSpec := fun ds c o => ∃ (x : Pl) (n : Nat), c = [x.c] ∧ ds = [.mut 0, .int (n : Nat)] ∧ n ≤ 6 ∧ o = .val (.str (tx (tabL x n))) true [(tabP x n).c]
end K35

namespace K35
open PySem PySem.Spec PyProof.Rows L2 LA
section
variable {P : Program} {w : World} {K : PySem.W.Frag} {mg : Str → Option Value} {base : Heap}
theorem rs_to2 {X : Cx} {W : WX} {p : HD} {ρ ρ1 ρ2 : Rho} {c c1 c2 : PC} {st : Stmt} (h : RS X W p ρ c st (.nx ρ1 c1)) (e1 : ρ1 = ρ2) (e2 : c1 = c2) : RS X W p ρ c st (.nx ρ2 c2) := by
  subst e1 e2
  exact h
theorem wD_map (ws : List (List Nat)) (f : List Nat → Nat) : (List.range (wD ws).length).map (fun j => D.str (chr1 (f (ws.getD j [])))) = (ws.map f).map fun n => D.str (chr1 n) := by
  rw [wD_len]
  refine List.ext_getElem? fun i => ?_
  by_cases hi : i < ws.length
  · simp [hi, List.getElem?_range]
  · simp [hi]
def btC (y : Pl) (n : Nat) (t : List Nat) : Nat := if t.getD (spotC y n 0) 0 = 49 then t.getD (spotC y n 1) 0 else t.getD (spotC y n 2) 0
theorem mix_eq (y : Pl) (n : Nat) : mixC y n = (insT n).map fun t => 48 + ((((btC y n t : Nat) : Int) - 48 + drawV (itC y (n : Nat) 3) 2) % 2).toNat := by
  unfold mixC
  refine List.map_congr_left fun t _ => ?_
  unfold btC
  split <;> rfl
theorem insT_mem {n : Nat} {t : List Nat} (h : t ∈ insT n) : ∀ m ∈ t, m ∈ bins := by
  have key : ∀ (k : Nat), ∀ t ∈ strsV bins k, ∀ m ∈ t, m ∈ bins := fun k => by
    induction k with
    | zero =>
      intro t ht m hm
      rcases List.mem_cons.mp (show t ∈ [[]] from ht) with rfl | h
      · cases hm
      · cases h
    | succ k ih =>
      intro t ht m hm
      rw [strs_next] at ht
      unfold step at ht
      obtain ⟨a, ha, hb⟩ := List.mem_flatMap.mp ht
      obtain ⟨z, hz, rfl⟩ := List.mem_map.mp hb
      rcases List.mem_append.mp hm with hm | hm
      · exact ih a ha m hm
      · rw [List.mem_singleton.mp hm]
        exact hz
  exact key n t h
theorem chr_one {a : Nat} : (chr1 a = Str.ofString "1") ↔ a = 49 := by
  constructor
  · intro h
    have : (chr1 a).cps.toList = [49] := by
      rw [h]
      rfl
    simpa [chr1] using this
  · rintro rfl
    rfl
theorem at_tx {t : List Nat} {i : Nat} (h : i < t.length) : (tx t).cps.toList[i]? = some (t.getD i 0) := by
  rw [tx_list, List.getD_eq_getElem?_getD, List.getElem?_eq_getElem h]
  rfl
theorem cv_intK {p : HD} {c : PC} {k : Bool} : CV K p (fun xs H Q => (∃ i, xs = [.int i] ∧ Q (.int i) H) ∨ ∃ k, xs = [.bl k] ∧ Q (.int (if k then 1 else 0)) H) [.bl k] (.int (if k then 1 else 0)) true c := fun vs H Q dvs hp kk => by
  match vs, dvs with
  | _, .cons (.bl _) .nil => exact .inr ⟨k, rfl, kk _ H (Ext.refl p H) hp (.int _) fun _ => New.sc (by intro a h; cases h)⟩
theorem share_at {w : Nat} (h : w < 6) : ([.int 2, .int 4, .int 4, .int 2, .int 2, .int 2] : List D)[w]? = some (.int (shareI w)) := by
  have : w = 0 ∨ w = 1 ∨ w = 2 ∨ w = 3 ∨ w = 4 ∨ w = 5 := by omega
  rcases this with rfl | rfl | rfl | rfl | rfl | rfl <;> rfl
theorem share_in (w : Nat) : 0 < shareI w ∧ shareI w < 1073741824 := by
  unfold shareI
  split <;> decide
end
end K35

/-! two lists of flat items that are alike -/
namespace LA
open PySem PySem.Spec PyProof.Rows L2
section
variable {K : PySem.W.Frag} {p : HD} {c : PC}
theorem flat_self {ds : List D} (e : ds.all flatOk = true) : PyData.eqv (.list (toPys ds)) (.list (toPys ds)) = true := by
  refine PySem.SeqAt.eqv_refl _ ?_
  unfold PyData.canLay0
  exact (flat_lay e).1
theorem lst_dp {v : V} {H : Hp} {g : G} {ds : List D} (dv : DV K p H v (.lst g ds)) (e : ds.all flatOk = true) : Dp K H v (.list (toPys ds)) := by
  cases dv with
  | lst _ hq r => exact .lst (un_sqL hq) (dps_of r e)
theorem ov_neSelf {g g2 : G} {ds : List D} (e : ds.all flatOk = true) : OV K p (rNeD K) (.lst g ds) (.lst g2 ds) (.bl false) true c := fun v u H Q dv du hp k => by
  refine ⟨_, _, lst_dp dv e, lst_dp du e, shaped_flat e, shaped_flat e, ?_⟩
  rw [flat_self e]
  exact k _ H (Ext.refl p H) hp (.bl _) fun _ => New.sc (by intro a h; cases h)
theorem ov_eqSelf {g g2 : G} {ds : List D} (e : ds.all flatOk = true) : OV K p (rEqD K) (.lst g ds) (.lst g2 ds) (.bl true) true c := fun v u H Q dv du hp k => by
  refine ⟨_, _, lst_dp dv e, lst_dp du e, shaped_flat e, shaped_flat e, ?_⟩
  rw [flat_self e]
  exact k _ H (Ext.refl p H) hp (.bl _) fun _ => New.sc (by intro a h; cases h)
end
end LA

namespace K35
open PySem PySem.Spec PyProof.Rows L2 LA
/-! ### Question(..), in the law's hands -/
structure QMk (P : Program) (w : World) (K : PySem.W.Frag) (mg : Str → Option Value) (base : Heap) (C B : Addr) : Prop where
  ex : ∃ f fd, Mk K C f ∧ FnOk P w K mg base (L2.CX P w) 5 f fd ["self", "table"] (spF K (iniR C B)) ∧ Binds K fd ["self", "table"] []
  mg : mg "Question" = some (.ref C)
structure QProp (P : Program) (w : World) (K : PySem.W.Frag) (mg : Str → Option Value) (base : Heap) (C : Addr) (x : Str) (R : FSpec) : Prop where
  ex : ∃ q g fd, PropOf K C x q g ∧ FnOk P w K mg base CX0 1 g fd ["self"] (spF K R) ∧ Binds K fd ["self"] []
theorem set_last {α : Type} (c : List α) (x y : α) : (c ++ [x]).set c.length y = c ++ [y] := by
  rw [List.set_append_right _ _ (Nat.le_refl _), Nat.sub_self]
  rfl
section
variable {X : Cx} {W : WX} {p : HD} {ρ : Rho} {c c1 : PC} {e a : Expr} {pos xp : Pos} {nw : Bool} {d : D} {C B : Addr} {l : List Nat}
def outQ (C B : Addr) (d : D) (c : PC) : EO := if isTab d then .val (qD C (cds d)) true c else .ex B [("given", d)] c
theorem re_makeQ (tk : Takes X W) (T : QMk X.prog X.w X.K X.mg X.base C B) (hr : Room 6 X.A) (he : RE X W p ρ c e (.val d nw c1)) (fd' : Fit d) (lo : ∀ n, lowD n d = true) {o : EO} (hq : outQ C B d c1 = o) (hg : Gl X "Question" := by rfl)
    (hs : starEach [e] X.env = (false, eval e X.env) :: starEach [] X.env := by rfl) (hpl : (backTo pos (starEach [] X.env)).any (·.1) = false := by rfl) : RE X W p ρ c (.Call (.Name "Question" xp) [e] [] pos) o := by
  subst hq
  obtain ⟨f, fd, h1, h2, h3⟩ := T.ex
  have hc : (c1 ++ [Cell.ins C []])[c1.length]? = some (.ins C []) := by simp
  refine re_makeX (o' := if isTab d then .val .non true (c1 ++ [.ins C (flds (cds d))]) else .ex B [("given", d)] (c1 ++ [.ins C []])) tk h1 h2 hr T.mg h3 (ra_cons he ra_nil hs) ⟨c1.length, d, rfl, hc, fd', ?_⟩ ?_ hg (by decide) hs hpl
  · rw [set_last]
  · unfold outQ
    cases isTab d with
    | true => exact .val rfl
    | false => exact .ex rfl (by
        show (lowD _ d && lowDf _ []) = true
        rw [lo]
        rfl)
theorem re_qprop {x : Str} {R : FSpec} {d2 : D} {n2 : Bool} (T : QProp X.prog X.w X.K X.mg X.base C x R) (Q : QC X.K C) (hr : Room 2 X.A) (ha : RE X W p ρ c a (.val (qD C l) nw c1)) (ho : R [qD C l] c1 (.val d2 n2 c1))
    (hab : attributeBase a x X.env (eval a X.env) = eval a X.env := by rfl) : RE X W p ρ c (.Attribute a x pos) (.val d2 n2 c1) := by
  obtain ⟨q, g, fd, h1, h2, h3⟩ := T.ex
  exact re_prop h2 hr h3 ha Q.cl h1 ho hab
theorem re_qpropX {x : Str} {R : FSpec} {E : Addr} {es : List (Str × D)} (T : QProp X.prog X.w X.K X.mg X.base C x R) (Q : QC X.K C) (hr : Room 2 X.A) (ha : RE X W p ρ c a (.ex E es c1))
    (hab : attributeBase a x X.env (eval a X.env) = eval a X.env := by rfl) : RE X W p ρ c (.Attribute a x pos) (.ex E es c1) := by
  obtain ⟨q, g, fd, h1, h2, h3⟩ := T.ex
  exact pe_imp (pe_prop ha Q.cl h1 h2 hr h3 .nil pass0 hab) fun σ H Q h => h
theorem ra_consX1 {es : List Expr} {E : Addr} {fs : List (Str × D)} (ha : RE X W p ρ c e (.ex E fs c1)) (hs : starEach (e :: es) X.env = (false, eval e X.env) :: starEach es X.env := by rfl) : RA X W p ρ c (e :: es) (.ex E fs c1) :=
  pa_imp (pa_cons ha (⟨fun ps pins s σ H Q I h => h.elim⟩ : PA X es fun _ _ _ => False) hs) fun σ H Q h => h
theorem ra_consX2 {c2 : PC} {es : List Expr} {E : Addr} {fs : List (Str × D)} (ha : RE X W p ρ c e (.val d nw c1)) (hr : RA X W p ρ c1 es (.ex E fs c2)) (hs : starEach (e :: es) X.env = (false, eval e X.env) :: starEach es X.env := by rfl) : RA X W p ρ c (e :: es) (.ex E fs c2) :=
  pa_imp (pa_cons ha hr hs) fun σ H Q ⟨s, k⟩ => ⟨s, fun v H1 e1 p1 dv _ => ⟨s.mono e1 p1, fun dx fv σ' H' e2 s2 hx hf => k dx fv σ' H' (e1.trans e2) s2 hx hf⟩⟩
theorem re_lstX {es : List Expr} {E : Addr} {fs : List (Str × D)} (h : RA X W p ρ c es (.ex E fs c1)) : RE X W p ρ c (.List es pos) (.ex E fs c1) := pe_imp (pe_lstB h) fun σ H Q h => h
end
structure QCall (P : Program) (w : World) (K : PySem.W.Frag) (mg : Str → Option Value) (base : Heap) (C B : Addr) : Prop where
  ex : ∃ g fd, StX.CallO K C g ∧ FnOk P w K mg base (L2.CX P w) 4 g fd ["self", "text"] (spF K (callR C B)) ∧ Binds K fd ["self", "text"] []
def okIn (l : List Nat) (d : D) : Bool := isW bins d && decide (((cds d).length : Int) = (manyOf l : Nat))
def ansD (l : List Nat) (d : D) : D := if okIn l d then .int (ansV l (cds d)) else .lst ⟨true, true⟩ [.str "none", d]
section
variable {P : Program} {w : World} {K : PySem.W.Frag} {mg : Str → Option Value} {base : Heap} {C BT BI Lk : Addr}
end
/-! ### bent tables -/
theorem cut_hiA {l : List Nat} {i : Nat} : cutS (tx l) (some (i : Nat)) none = tx (l.drop i) := by
  by_cases h : i ≤ l.length
  · exact cut_hi h
  · have e : HT.sIx (tx l).length 0 (some (i : Nat)) = l.length := by
      rw [tx_len]
      have := HT.sIx_nat
      rw [this, Nat.min_eq_right (by omega)]
    unfold cutS
    rw [e, tx_list, List.drop_of_length_le (Nat.le_refl _), List.drop_of_length_le (by omega)]
    simp
    rfl
theorem mul_tx (l : List Nat) (n : Nat) : Txt.mul (tx l) (n : Nat) = tx (List.replicate n l).flatten := by
  unfold Txt.mul
  by_cases h0 : n = 0
  · subst h0
    rfl
  · rw [if_neg (by omega)]
    split
    · rename_i h
      rcases Bool.or_eq_true_iff.mp h with h | h
      · have : n = 1 := by
          have := beq_iff_eq.mp h
          omega
        subst this
        simp
      · have hl : l = [] := List.length_eq_zero_iff.mp (by
          have := beq_iff_eq.mp h
          rw [tx_len] at this
          exact this)
        subst hl
        simp
    · have key : ∀ (k : Nat) (a : Array Nat), (List.replicate k (tx l).cps).foldl (· ++ ·) a = a ++ (List.replicate k l).flatten.toArray := fun k => by
        induction k with
        | zero => intro a; simp
        | succ k ih =>
          intro a
          rw [List.replicate_succ, List.foldl_cons, ih, List.replicate_succ, List.flatten_cons]
          have : (tx l).cps = l.toArray := rfl
          rw [this]
          simp
      rw [Int.toNat_natCast, key]
      simp
      rfl
/-! ### what the law asks of a question -/
structure QObj (P : Program) (w : World) (K : PySem.W.Frag) (mg : Str → Option Value) (base : Heap) (C BI : Addr) : Prop where
  qc : QC K C
  tab : QProp P w K mg base C "table" (tableR C)
  many : QProp P w K mg base C "many" (manyR C)
  call : QCall P w K mg base C BI
  len : ∃ f fd, Own K C "__len__" f ∧ FnOk P w K mg base CX0 1 f fd ["self"] (spLen K C "_yes") ∧ Binds K fd ["self"] []
  iter : ∃ f fd, Own K C "__iter__" f ∧ FnSz P w K mg base 1 f fd ["self"] (spIter K C "_yes") ∧ Binds K fd ["self"] []
  str : ∃ f fd, Own K C "__str__" f ∧ FnOk P w K mg base CX0 1 f fd ["self"] (spF K (strR C)) ∧ Binds K fd ["self"] []
  con : ∃ f fd, Own K C "__contains__" f ∧ FnOk P w K mg base CX0 1 f fd ["self", "value"] (spF K (conR C)) ∧ Binds K fd ["self", "value"] []
section
variable {X : Cx} {W : WX} {p : HD} {ρ : Rho} {c c1 c2 : PC} {e a tg : Expr} {pos ps : Pos} {nw n2 : Bool} {d : D} {C BI : Addr} {l : List Nat}
theorem re_qlen (hm : X.mg "len" = none) (Q : QObj X.prog X.w X.K X.mg X.base C BI) (hr : Room 2 X.A) (ha : RE X W p ρ c a (.val (qD C l) nw c1)) (hl : (yesL l).length < 100000) (hg : Gl X "len" := by rfl)
    (hs : starEach [a] X.env = (false, eval a X.env) :: starEach [] X.env := by rfl) : RE X W p ρ c (.Call (.Name "len" ps) [a] [] pos) (.val (.int ((yesL l).length : Nat)) true c1) := by
  obtain ⟨f, fd, h1, h2, h3⟩ := Q.len
  exact re_callB (call_lenO (len_spF h2) hr h3 h1) hm PySem.boot_len (ra_cons ha ra_nil hs) (cv_lenO (fs := flds l) hl ⟨flds l, ⟨false, true⟩, yesL l, rfl, rfl, rfl⟩) hg (by decide) (by decide) hs
theorem re_qstr (hm : X.mg "str" = none) (Q : QObj X.prog X.w X.K X.mg X.base C BI) (hr : Room 3 X.A) (ha : RE X W p ρ c a (.val (qD C l) nw c1)) (hg : Gl X "str" := by rfl)
    (hs : starEach [a] X.env = (false, eval a X.env) :: starEach [] X.env := by rfl) : RE X W p ρ c (.Call (.Name "str" ps) [a] [] pos) (.val (.str (tx l)) true c1) := by
  obtain ⟨f, fd, h1, h2, h3⟩ := Q.str
  exact re_callT (call_strO h2 hr h3 h1) hm PyProof.Rows.boot_str (ra_cons ha ra_nil hs) (cv_strO (fs := flds l) ⟨l, rfl, rfl⟩) hg (by decide) (by decide) hs
theorem re_qlist (hc : X.calm = true) (hm : X.mg "list" = none) (Q : QObj X.prog X.w X.K X.mg X.base C BI) (hr : Room 4 X.A) (ha : RE X W p ρ c a (.val (qD C l) nw c1)) (hl : (yesL l).length < 100000) (hg : Gl X "list" := by rfl)
    (hs : starEach [a] X.env = (false, eval a X.env) :: starEach [] X.env := by rfl) : RE X W p ρ c (.Call (.Name "list" ps) [a] [] pos) (.val (.lst ⟨false, true⟩ (yesL l)) true c1) := by
  obtain ⟨f, fd, h1, h2, h3⟩ := Q.len
  obtain ⟨fi, fdi, i1, i2, i3⟩ := Q.iter
  exact re_callT (call_listO hc i2 (hr.mono (by decide)) i3 i1 h2 hr h3 h1) hm PyProof.Rows.boot_list (ra_cons ha ra_nil hs) (cv_listO (fs := flds l) (g := ⟨false, true⟩) rfl hl) hg (by decide) (by decide) hs
theorem ri_q (Q : QObj X.prog X.w X.K X.mg X.base C BI) (hr : Room 1 X.A) (ha : RE X W p ρ c a (.val (qD C l) nw c1)) : RI X W p ρ c tg a (yesL l) c1 := by
  obtain ⟨fi, fdi, i1, i2, i3⟩ := Q.iter
  exact ri_obj (fs := flds l) (g := ⟨false, true⟩) i2 hr i3 i1 ha rfl
theorem re_qin (Q : QObj X.prog X.w X.K X.mg X.base C BI) (hr : Room 1 X.A) (he : RE X W p ρ c e (.val d nw c1)) (ha : RE X W p ρ c1 a (.val (qD C l) n2 c2)) (ht : Ty d) (hm : behindInMarks .In a = false := by first | rfl | exact nomark _) : RE X W p ρ c (.Compare e [.In] [a] pos) (.val (.bl (inQ l d)) true c2) := by
  obtain ⟨f, fd, h1, h2, h3⟩ := Q.con
  have q := ov_inO (X := X) (p := p) (c := c2) (C := C) (fs := flds l) (d1 := d) (n2 := true) (neg := false) (kb := inQ l d) (R := conR C) ⟨l, d, rfl, ht, rfl⟩
  rw [Bool.false_xor] at q
  exact re_cmp (op_inO h2 hr h3 h1) he ha q hm
theorem rt_qin (Q : QObj X.prog X.w X.K X.mg X.base C BI) (hr : Room 1 X.A) (he : RE X W p ρ c e (.val d nw c1)) (ha : RE X W p ρ c1 a (.val (qD C l) n2 c2)) (ht : Ty d) (hm : behindInMarks .In a = false := by first | rfl | exact nomark _) : RT X W p ρ c (.Compare e [.In] [a] pos) (.val (inQ l d) c2) := by
  obtain ⟨f, fd, h1, h2, h3⟩ := Q.con
  have q := ov_inO (X := X) (p := p) (c := c2) (C := C) (fs := flds l) (d1 := d) (n2 := true) (neg := false) (kb := inQ l d) (R := conR C) ⟨l, d, rfl, ht, rfl⟩
  rw [Bool.false_xor] at q
  exact rt_cmp (op_inO h2 hr h3 h1) he ha q hm
end
theorem ins_is (n : Nat) : insL n = insT n := rfl
theorem many_pow {n : Nat} (h : n ≤ 6) {l : List Nat} (hl : l.length = 2 ^ n) : manyOf l = n := by
  unfold manyOf
  rw [hl]
  have key : ∀ k : Fin 7, lensZ.idxOf ((2 ^ k.val : Nat) : Int) = k.val := by decide
  exact key ⟨n, by omega⟩
theorem yesL_eq {n : Nat} (h : n ≤ 6) {l : List Nat} (hl : l.length = 2 ^ n) : yesL l = coll (fun i => decide (chr1 (l.getD i 0) = Str.ofString "1")) (fun i => .str (tx ((insT n).getD i []))) (2 ^ n) := by
  unfold yesL
  rw [many_pow h hl, ins_is, insT_len, hl, Nat.min_self]
theorem yesL_len {n : Nat} (h : n ≤ 6) {l : List Nat} (hl : l.length = 2 ^ n) : (yesL l).length ≤ 64 := by
  rw [yesL_eq h hl]
  refine Nat.le_trans (coll_len _ _ _) ?_
  calc 2 ^ n ≤ 2 ^ 6 := Nat.pow_le_pow_right (by decide) h
    _ = 64 := by decide
theorem str_flat {t : List Nat} (h : ∀ m ∈ t, m < 0x110000) : flatOk (.str (tx t)) = true := by
  show PyData.strOk (tx t) = true
  unfold PyData.strOk tx
  simpa using h
theorem bin_low {t : List Nat} (h : ∀ m ∈ t, m ∈ bins) : ∀ m ∈ t, m < 0x110000 := fun m hm => by
  have := bins_B (h m hm)
  rcases this with e | e <;> omega
theorem yesL_flat {n : Nat} (h : n ≤ 6) {l : List Nat} (hl : l.length = 2 ^ n) : (yesL l).all flatOk = true := by
  rw [yesL_eq h hl, coll_some, List.all_map, List.all_eq_true]
  intro i hi
  have hi' := List.mem_range.mp (List.mem_filter.mp hi).1
  refine str_flat (bin_low (insT_mem (n := n) ?_))
  rw [← insT_len] at hi'
  rw [List.getD_eq_getElem?_getD, List.getElem?_eq_getElem hi']
  exact List.getElem_mem _
theorem wD_flat {ws : List (List Nat)} (h : ∀ t ∈ ws, ∀ m ∈ t, m ∈ bins) : (wD ws).all flatOk = true := by
  unfold wD
  rw [List.all_map, List.all_eq_true]
  intro t ht
  exact str_flat (bin_low (h t ht))
theorem range_self (xs : List D) : (List.range xs.length).map (fun i => xs.getD i .non) = xs := by
  refine List.ext_getElem? fun i => ?_
  by_cases hi : i < xs.length
  · simp [hi, List.getElem?_range]
  · simp [hi]
theorem at_self {xs : List D} {i : Nat} {d : D} (h : xs[i]? = some d) : d = xs.getD i .non := by
  rw [List.getD_eq_getElem?_getD, h]
  rfl
theorem yes_at {n : Nat} (h : n ≤ 6) {l : List Nat} (hl : l.length = 2 ^ n) {i : Nat} {d : D} (hd : (yesL l)[i]? = some d) : ∃ t ∈ insT n, d = .str (tx t) := by
  rw [yesL_eq h hl, coll_some, List.getElem?_map] at hd
  obtain ⟨k, hk, e⟩ := Option.map_eq_some_iff.mp hd
  have m := List.mem_of_getElem? hk
  have hk' := List.mem_range.mp (List.mem_filter.mp m).1
  rw [← insT_len] at hk'
  refine ⟨(insT n).getD k [], ?_, e.symm⟩
  rw [List.getD_eq_getElem?_getD, List.getElem?_eq_getElem hk']
  exact List.getElem_mem _
def catD : D → D → D
  | .str a, .str b => .str (a ++ b)
  | _, _ => .non
/-! ### the k-th text has place k -/
theorem bins_is : bins = [48, 49] := by decide
theorem step_at : ∀ (ws : List (List Nat)) (k : Nat), k < 2 * ws.length → (step ws bins).getD k [] = ws.getD (k / 2) [] ++ [48 + k % 2]
  | [], k, h => by simp at h
  | w :: r, 0, _ => by
    unfold step
    rw [bins_is]
    rfl
  | w :: r, 1, _ => by
    unfold step
    rw [bins_is]
    rfl
  | w :: r, k + 2, h => by
    have ih := step_at r k (by
      rw [List.length_cons] at h
      omega)
    have e : step (w :: r) bins = (w ++ [48]) :: (w ++ [49]) :: step r bins := by
      unfold step
      rw [bins_is, List.flatMap_cons]
      rfl
    rw [e, show (k + 2) / 2 = k / 2 + 1 by omega, show (k + 2) % 2 = k % 2 by omega]
    exact ih
theorem binNum_snoc (t : List Nat) (c : Nat) : binNum (48 :: (t ++ [c])) = binNum (48 :: t) * 2 + (c - 48) := by
  unfold binNum
  rw [← List.cons_append, List.foldl_append]
  rfl
theorem place_at : ∀ (n k : Nat), k < 2 ^ n → binNum (48 :: (insT n).getD k []) = k
  | 0, k, h => by
    have : k = 0 := by
      rw [Nat.pow_zero] at h
      omega
    subst this
    rfl
  | n + 1, k, h => by
    have e : insT (n + 1) = step (insT n) bins := strs_next bins n
    rw [Nat.pow_succ] at h
    rw [e, step_at _ _ (by rw [insT_len]; omega), binNum_snoc, place_at n (k / 2) (by omega)]
    omega
theorem ins_inj {n i k : Nat} (hi : i < 2 ^ n) (hk : k < 2 ^ n) (h : (insT n).getD i [] = (insT n).getD k []) : i = k := by
  rw [← place_at n i hi, h, place_at n k hk]
/-- the answer at the k-th text is the k-th sign -/
theorem ans_at {n k : Nat} (hk : k < 2 ^ n) (l : List Nat) : ansV l ((insT n).getD k []) = if l.getD k 0 = 49 then 1 else 0 := by
  unfold ansV
  rw [place_at n k hk]
theorem tx_inj {a b : List Nat} (h : tx a = tx b) : a = b := by
  rw [← tx_list a, h, tx_list]
/-- a text is a yes input just where its sign is 1 -/
theorem in_at {n k : Nat} (hn : n ≤ 6) (hk : k < 2 ^ n) {l : List Nat} (hl : l.length = 2 ^ n) : inQ l (.str (tx ((insT n).getD k []))) = decide (l.getD k 0 = 49) := by
  show ((yesT l).any fun z => decide (z = tx ((insT n).getD k []))) = _
  unfold yesT
  rw [many_pow hn hl, ins_is, insT_len, hl, Nat.min_self, List.any_map, Bool.eq_iff_iff, List.any_eq_true, decide_eq_true_eq]
  constructor
  · rintro ⟨i, hi, e⟩
    obtain ⟨h1, h2⟩ := List.mem_filter.mp hi
    have h1 := List.mem_range.mp h1
    have e := tx_inj (of_decide_eq_true e)
    rw [← ins_inj h1 hk e]
    exact chr_one.mp (of_decide_eq_true h2)
  · intro h
    exact ⟨k, List.mem_filter.mpr ⟨List.mem_range.mpr hk, decide_eq_true (chr_one.mpr h)⟩, decide_eq_true rfl⟩
/-! ### the last of a list; longer texts shown; values that are no inputs -/
theorem ov_ixLast {K : PySem.W.Frag} {p : HD} {c : PC} {g : G} {ds : List D} {d : D} (h : ds.getLast? = some d) : OV K p (rIx K) (.lst g ds) (.int (-1)) d false c := fun v u H Q dv du hp k => by
  cases dv with
  | lst _ hq r =>
    cases du
    rename_i xs _
    have hl := r.length
    have hne : ds ≠ [] := by
      rintro rfl
      cases h
    have hx : xs ≠ [] := by
      rintro rfl
      exact hne (List.length_eq_zero_iff.mp hl.symm)
    have e1 := List.dropLast_concat_getLast hx
    have a1 : atI xs (-1) = some (xs.getLast hx) := by
      have := atI_last xs.dropLast (xs.getLast hx)
      rw [e1] at this
      exact this
    obtain ⟨w, h1, h2⟩ := r.get (i := ds.length - 1) (d := d) (by
      rw [← h, List.getLast?_eq_getElem?])
    have e2 : w = xs.getLast hx := by
      rw [← hl] at h1
      rw [List.getElem?_eq_getElem (by have := List.length_pos_iff.mpr hx; omega)] at h1
      rw [List.getLast_eq_getElem]
      exact (Option.some.inj h1).symm
    rw [e2] at h2
    exact .inl ⟨_, _, -1, _, rfl, rfl, un_sqL hq, a1, k _ H (Ext.refl p H) hp h2 fun q => nomatch q⟩
theorem mulOk_small {z : Str} {n : Nat} (h1 : z.length = 1) (hn : n ≤ 1000) : MulOk z ((n : Nat) : Int) := by
  refine ⟨?_, fun a b => ?_, fun a b => ?_⟩
  · rw [decide_eq_false (by omega), decide_eq_false (by omega)]
    rfl
  · rw [h1]
    have : ∀ k : Nat, 1 ≤ k → k ≤ 1000 → ¬ (((1 : Nat) : Int) > (2 ^ 63 - 1) / ((k : Nat) : Int)) := fun k h1 h2 => by
      have : (1 : Int) ≤ (2 ^ 63 - 1) / ((k : Nat) : Int) := (Int.le_ediv_iff_mul_le (by omega)).mpr (by omega)
      omega
    exact this n (by omega) hn
  · rw [h1]
    exact decide_eq_false (Nat.not_lt.mpr (sz_le (by omega)))
theorem tiny_long {l : List Nat} {n : Nat} (hl : l.length ≤ n) (h : ∀ m ∈ l, m < 0x110000) : Tiny n 0 (.str (tx l)) := by
  have ok : PyData.strOk (tx l) = true := by
    unfold PyData.strOk tx
    simpa using h
  exact ⟨rfl, by unfold toPy PyData.showable; rfl, by unfold toPy PyData.canLay0; exact ok, by unfold toPy PyData.intsShort; rfl, by
    unfold toPy PyData.weight
    have := tx_len l
    exact Nat.le_trans (Nat.le_of_eq this) hl, by unfold toPy PyData.depth; exact Nat.le_refl _, by unfold toPy PyData.hasDict; rfl⟩
def shB (d : D) : Bool := okD (toPy d).hasDict d && ((toPy d).showable && (decide ((toPy d).depth ≤ 60) && decide ((toPy d).shown.length ≤ sizeLine)))
theorem shB_of {d : D} (h : shB d = true) : Shows d := by
  obtain ⟨h1, h⟩ := Bool.and_eq_true_iff.mp h
  obtain ⟨h2, h⟩ := Bool.and_eq_true_iff.mp h
  obtain ⟨h3, h4⟩ := Bool.and_eq_true_iff.mp h
  exact ⟨h1, h2, of_decide_eq_true h3, of_decide_eq_true h4⟩
/-- what the law does with any value -/
structure Val (d : D) : Prop where
  fit : Fit d
  low : ∀ n, lowD n d = true
  cp : ∀ l, d = .str (tx l) → ∀ n ∈ l, n < 0x110000
  sh : ∀ s ∈ (["none", "made", "pattern"] : List Str), Shows (.lst ⟨true, true⟩ [.str s, d])
theorem str_eq {l : List Nat} {s : Str} (h : D.str s = .str (tx l)) : l = s.cps.toList := by
  injection h with h
  rw [h, tx_list]
def valB (d : D) : Bool := (tyD d).isSome && ((match d with | .str s => decide (s.length ≤ 100) && s.cps.toList.all (fun n => decide (n < 0x110000)) | _ => true) && (["none", "made", "pattern"] : List Str).all fun s => shB (.lst ⟨true, true⟩ [.str s, d]))
theorem val_of {d : D} (h : valB d = true) (lo : ∀ n, lowD n d = true) : Val d := by
  obtain ⟨h1, h⟩ := Bool.and_eq_true_iff.mp h
  obtain ⟨h2, h3⟩ := Bool.and_eq_true_iff.mp h
  refine ⟨⟨Option.isSome_iff_exists.mp h1, fun l e => ?_⟩, lo, fun l e n hn => ?_, fun s hs => shB_of (List.all_eq_true.mp h3 s hs)⟩
  · subst e
    obtain ⟨a, b⟩ := Bool.and_eq_true_iff.mp h2
    have := of_decide_eq_true a
    rw [tx_len] at this
    omega
  · subst e
    obtain ⟨a, b⟩ := Bool.and_eq_true_iff.mp h2
    rw [tx_list] at b
    exact of_decide_eq_true (List.all_eq_true.mp b n hn)
theorem low_odd : ∀ d ∈ oddL, ∀ n, lowD n d = true := fun d hd n => by
  simp only [oddL, List.mem_cons, List.not_mem_nil, or_false] at hd
  rcases hd with rfl | rfl | rfl | rfl | rfl | rfl | rfl | rfl | rfl | rfl | rfl | rfl | rfl | rfl <;> rfl
theorem odd_mem (x : Pl) : oddV x ∈ oddL := by
  have h := drawV_in (c := x) (show (0 : Int) < 14 by decide)
  unfold oddV
  have hl : (drawV x 14).toNat < oddL.length := by show _ < 14; omega
  rw [List.getD_eq_getElem?_getD, List.getElem?_eq_getElem hl]
  exact List.getElem_mem _
theorem odd_val (x : Pl) : Val (oddV x) := by
  have all : oddL.all valB = true := by decide +kernel
  exact val_of (List.all_eq_true.mp all _ (odd_mem x)) (low_odd _ (odd_mem x))
theorem smw : ∀ s ∈ (["none", "made", "pattern"] : List Str), smallD (.str s) = true := by decide +kernel
theorem txt_val {l : List Nat} (hl : l.length ≤ 1000) (h : ∀ m ∈ l, m < 0x110000) : Val (.str (tx l)) := by
  refine ⟨⟨⟨_, rfl⟩, fun l' e => ?_⟩, fun _ => rfl, fun l' e => ?_, fun s hs => (tiny_long hl h).one (smw s hs) (by omega) (by omega) (by omega)⟩
  · rw [str_eq e, tx_list]
    exact hl
  · rw [str_eq e, tx_list]
    exact h
theorem lst_val {g : G} {ws : List (List Nat)} (hl : ws.length ≤ 100) (h : ∀ t ∈ ws, t.length ≤ 100 ∧ ∀ m ∈ t, m < 0x110000) : Val (.lst g (wD ws)) := by
  have t : Tiny ((100 + 1) * 100 + 10) 1 (.lst g (wD ws)) := Tiny.lst (w := 100) (k := 0) (n := 100) (fun d hd => by
    obtain ⟨t, ht, rfl⟩ := List.mem_map.mp hd
    exact tiny_long (h t ht).1 (h t ht).2) (by rw [wD_len]; exact hl)
  refine ⟨⟨⟨_, rfl⟩, (fun l' e => nomatch e)⟩, (fun n => ?_), (fun l' e => nomatch e), fun s hs => t.one (smw s hs) (by omega) (by omega) (by omega)⟩
  show lowDs n (wD ws) = true
  clear hl h t
  unfold wD
  induction ws with
  | nil => rfl
  | cons a r ih => exact ih
/-- a value that is no input of so many positions -/
structure Bad (l : List Nat) (d : D) : Prop where
  v : Val d
  ok : okIn l d = false
  inq : inQ l d = false
theorem bad_of {n : Nat} (hn : n ≤ 6) {l : List Nat} (hl : l.length = 2 ^ n) {d : D} (v : Val d) (h : isW bins d = false ∨ (cds d).length ≠ n) : Bad l d := by
  have em := many_pow hn hl
  refine ⟨v, ?_, ?_⟩
  · unfold okIn
    rw [em]
    rcases h with h | h
    · rw [h]
      rfl
    · rw [decide_eq_false (by omega), Bool.and_false]
  · cases hq : inQ l d with
    | false => rfl
    | true =>
      exfalso
      unfold inQ at hq
      obtain ⟨h1, h2⟩ := Bool.and_eq_true_iff.mp hq
      cases d with
      | str s =>
        obtain ⟨z, hz, e⟩ := List.any_eq_true.mp h2
        have e := of_decide_eq_true e
        subst e
        have hz' : D.str z ∈ yesL l := by
          rw [yes_eq]
          exact List.mem_map.mpr ⟨z, hz, rfl⟩
        obtain ⟨i, hi⟩ := List.getElem?_of_mem hz'
        obtain ⟨t, ht, e⟩ := yes_at hn hl hi
        have lt := strs_all bins n t ht
        rw [e, cds_tx] at h
        rcases h with h | h
        · have : isW bins (.str (tx t)) = true := by
            unfold isW
            rw [cds_tx, decide_eq_true (by omega)]
            exact Bool.and_eq_true_iff.mpr ⟨rfl, Bool.and_eq_true_iff.mpr ⟨rfl, List.all_eq_true.mpr fun m hm => decide_eq_true (insT_mem ht m hm)⟩⟩
          rw [this] at h
          cases h
        · exact h lt
      | _ => cases h1
theorem odd_bad {n : Nat} (hn : n ≤ 6) {l : List Nat} (hl : l.length = 2 ^ n) (x : Pl) : Bad l (oddV x) := by
  refine bad_of hn hl (odd_val x) ?_
  left
  have all : oddL.all (fun d => !isW bins d) = true := by decide +kernel
  have := List.all_eq_true.mp all _ (odd_mem x)
  simpa using this
def othersL (n : Nat) : List D := if n = 0 then [.str (tx [45]), .str (tx [50])] else [.str (tx (List.replicate n [45]).flatten), .str (tx (((insT n).getLastD []).drop 1))]
def valsL (x : Pl) (n : Nat) : List D := [oddV x, .str (tx (List.replicate (n + 1) [48]).flatten), .lst ⟨false, true⟩ (wD (insT n))] ++ othersL n
theorem flat_rep (n a : Nat) : (List.replicate n [a]).flatten = List.replicate n a := by
  induction n with
  | zero => rfl
  | succ n ih => rw [List.replicate_succ, List.flatten_cons, ih, List.replicate_succ]; rfl
theorem last_mem {n : Nat} : (insT n).getLastD [] ∈ insT n := by
  have hl := insT_len n
  have hp : 0 < 2 ^ n := Nat.pow_pos (by decide)
  cases e : insT n with
  | nil =>
    rw [e] at hl
    simp at hl
    omega
  | cons a r =>
    rw [List.getLastD_cons]
    cases r with
    | nil => exact List.mem_cons_self
    | cons b r =>
      rw [List.getLastD_cons, ← List.getLast_eq_getLastD (a := b) (l := r) (h := List.cons_ne_nil _ _)]
      exact List.mem_cons_of_mem _ (List.getLast_mem _)
theorem vals_bad {n : Nat} (hn : n ≤ 6) {l : List Nat} (hl : l.length = 2 ^ n) (x : Pl) : ∀ d ∈ valsL x n, Bad l d := fun d hd => by
  unfold valsL at hd
  rcases List.mem_append.mp hd with hd | hd
  · simp only [List.mem_cons, List.not_mem_nil, or_false] at hd
    rcases hd with rfl | rfl | rfl
    · exact odd_bad hn hl x
    · rw [flat_rep]
      refine bad_of hn hl (txt_val (by rw [List.length_replicate]; omega) fun m hm => ?_) (.inr ?_)
      · rw [List.eq_of_mem_replicate hm]
        decide
      · rw [cds_tx, List.length_replicate]
        omega
    · refine bad_of hn hl (lst_val ?_ fun t ht => ⟨?_, bin_low (insT_mem ht)⟩) (.inl rfl)
      · rw [insT_len]
        have : 2 ^ n ≤ 2 ^ 6 := Nat.pow_le_pow_right (by decide) hn
        have e : (2 : Nat) ^ 6 = 64 := by decide
        omega
      · rw [strs_all bins n t ht]
        omega
  · unfold othersL at hd
    split at hd
    · rename_i h0
      simp only [List.mem_cons, List.not_mem_nil, or_false] at hd
      rcases hd with rfl | rfl
      · exact bad_of hn hl (txt_val (by decide) (by decide)) (.inr (by rw [cds_tx, h0]; decide))
      · exact bad_of hn hl (txt_val (by decide) (by decide)) (.inr (by rw [cds_tx, h0]; decide))
    · rename_i h0
      simp only [List.mem_cons, List.not_mem_nil, or_false] at hd
      rcases hd with rfl | rfl
      · rw [flat_rep]
        refine bad_of hn hl (txt_val (by rw [List.length_replicate]; omega) fun m hm => ?_) (.inl ?_)
        · rw [List.eq_of_mem_replicate hm]
          decide
        · cases n with
          | zero => exact absurd rfl h0
          | succ n =>
            unfold isW
            rw [cds_tx, List.replicate_succ, List.all_cons]
            have e : decide (45 ∈ bins) = false := by decide
            rw [e, Bool.false_and, Bool.and_false, Bool.and_false]
      · have ht := last_mem (n := n)
        have lt := strs_all bins n _ ht
        refine bad_of hn hl (txt_val (by rw [List.length_drop, lt]; omega) fun m hm => bin_low (insT_mem ht) m (List.mem_of_mem_drop hm)) (.inr ?_)
        rw [cds_tx, List.length_drop, lt]
        omega
end K35

/-! what the head leaves of a class, of defaults, of a tuple at the top -/
namespace LA
open PySem PySem.Spec PyProof.Rows L2
/-- a def with one default, an int -/
structure Gd (K : PySem.W.Frag) (x : Str) (st : Stmt) (i : Int) : Prop where
  ex : ∃ f fd, PySem.W.nsIn K mainGlobals x = some (some (.ref f)) ∧ FunD K x x (defArgs st) (defBody st) (defScope st) [.int i] [] f fd
theorem gd_mk {K : PySem.W.Frag} {x : Str} {st : Stmt} {i : Int} {f T : Addr} {oc kV dc pm cd ct oc2 : Value} {od an od2 : Option Addr} {sl sl2 : Array (Option Value)} {tk : Tok} {n : Nat} (a : PySem.W.nsIn K mainGlobals x = some (some (.ref f)))
    (l : K.lookup f = some ⟨oc, od, .func (PySem.W.fnOf x x (defArgs st) (defBody st) (defScope st) (.ref T) kV dc pm an cd ct), sl⟩) (lT : K.lookup T = some ⟨oc2, od2, .seq #[.int i tk] n, sl2⟩) (c : PySem.W.codeIn K cd x = true) (k : PySem.W.keepIn K (.ref f) = true) : Gd K x st i :=
  ⟨⟨f, _, a, ⟨⟨oc, od, .ref T, kV, dc, pm, an, cd, ct, sl, rfl, l, c, .inr ⟨by simp, T, _, [.int i tk], n, rfl, lT, rfl, .cons ⟨tk, rfl⟩ .nil⟩, .inl rfl⟩, k⟩⟩⟩
/-- a method -/
structure Gm (K : PySem.W.Frag) (C : Addr) (m q : Str) (st : Stmt) : Prop where
  ex : ∃ f fd, PySem.W.findIn K (.ref C) m = some (some (.ref f)) ∧ PySem.W.isFn K (.ref f) = true ∧ PySem.W.fnIn K f = true ∧ Fun K m q st f fd
theorem gm_mk {K : PySem.W.Frag} {C : Addr} {m q : Str} {st : Stmt} {f : Addr} {oc kV dc pm cd ct : Value} {od an : Option Addr} {sl : Array (Option Value)} (a : PySem.W.findIn K (.ref C) m = some (some (.ref f))) (i : PySem.W.isFn K (.ref f) = true)
    (l : K.lookup f = some ⟨oc, od, .func (PySem.W.fnOf m q (defArgs st) (defBody st) (defScope st) .none kV dc pm an cd ct), sl⟩) (c : PySem.W.codeIn K cd q = true) (k : PySem.W.keepIn K (.ref f) = true) : Gm K C m q st :=
  ⟨f, _, a, i, by unfold PySem.W.fnIn; rw [l], fun_mk l c k⟩
/-- a property -/
structure Gp (K : PySem.W.Frag) (C : Addr) (m q : Str) (st : Stmt) : Prop where
  ex : ∃ p g fd, PropOf K C m p g ∧ Fun K m q st g fd
theorem gp_mk {K : PySem.W.Frag} {C : Addr} {m q : Str} {st : Stmt} {p g : Addr} {rest : List Value} {oc kV dc pm cd ct : Value} {od an : Option Addr} {sl : Array (Option Value)} (a : PySem.W.findIn K (.ref C) m = some (some (.ref p))) (s : PySem.W.specialIn K (.ref p) "__get__" = some (some (.builtin "property.__get__"))) (t : PySem.W.takesIn K (.ref p) = some true) (r : PySem.W.recIn K p "property" = some (.ref g :: rest))
    (l : K.lookup g = some ⟨oc, od, .func (PySem.W.fnOf m q (defArgs st) (defBody st) (defScope st) .none kV dc pm an cd ct), sl⟩) (c : PySem.W.codeIn K cd q = true) (k : PySem.W.keepIn K (.ref g) = true) : Gp K C m q st :=
  ⟨p, g, _, ⟨a, s, t, rest, r⟩, fun_mk l c k⟩
/-- a class -/
structure Gc (K : PySem.W.Frag) (x q : Str) (st : Stmt) (C : Addr) : Prop where
  ns : PySem.W.nsIn K mainGlobals x = some (some (.ref C))
  cl : Cls K C
  ini : ∃ f fd, Mk K C f ∧ Fun K "__init__" q st f fd
theorem gc_mk {K : PySem.W.Frag} {x q : Str} {st : Stmt} {C f : Addr} {oc kV dc pm cd ct : Value} {od an : Option Addr} {sl : Array (Option Value)} (ns : PySem.W.nsIn K mainGlobals x = some (some (.ref C)))
    (pg : PySem.W.plainGet K C Str.empty = true) (hd : PySem.W.hasDictIn K C = true) (po : PySem.W.plainOver K C = true) (sa : PySem.W.findIn K (.ref C) "__setattr__" = some (some (.builtin "object.__setattr__"))) (mk : PySem.W.makesIn K C = true) (a : PySem.W.findIn K (.ref C) "__init__" = some (some (.ref f))) (i : PySem.W.isFn K (.ref f) = true) (kc : PySem.W.keepIn K (.ref C) = true)
    (l : K.lookup f = some ⟨oc, od, .func (PySem.W.fnOf "__init__" q (defArgs st) (defBody st) (defScope st) .none kV dc pm an cd ct), sl⟩) (c : PySem.W.codeIn K cd q = true) (k : PySem.W.keepIn K (.ref f) = true) : Gc K x q st C :=
  ⟨ns, ⟨pg, hd, po, sa⟩, f, _, ⟨mk, a, i, kc⟩, fun_mk l c k⟩
theorem kit_self {K : PySem.W.Frag} {C : Addr} : PySem.W.kitOne K (.ref C) (.ref C) = some true := by
  unfold PySem.W.kitOne
  rw [if_pos (by simp)]
/-- isinstance, == and != of its objects -/
structure Gi (K : PySem.W.Frag) (C : Addr) : Prop where
  ha : PySem.W.findIn K (.ref C) "__class__" = some (some (.builtin "object.__class__"))
  hn : PySem.W.specialIn K (.builtin "object.__class__") "__get__" = some (some (.builtin "getset_descriptor.__get__"))
  htk : PySem.W.takesIn K (.builtin "object.__class__") = some true
  hm : PySem.W.mroIn K C (.type "object") = some true
  ic : PySem.W.isClsIn K C = true
  ty : PySem.W.typeIn K (.ref C) = some (.type "type")
theorem Gi.ins {K : PySem.W.Frag} {C : Addr} (g : Gi K C) (c : Cls K C) : C8.InsC K C := ⟨c, g.ha, g.hn, g.htk, g.hm, kit_self⟩
theorem gi_mk {K : PySem.W.Frag} {C : Addr} (ha : PySem.W.findIn K (.ref C) "__class__" = some (some (.builtin "object.__class__"))) (hn : PySem.W.specialIn K (.builtin "object.__class__") "__get__" = some (some (.builtin "getset_descriptor.__get__"))) (htk : PySem.W.takesIn K (.builtin "object.__class__") = some true) (hm : PySem.W.mroIn K C (.type "object") = some true) (ic : PySem.W.isClsIn K C = true) (ty : PySem.W.typeIn K (.ref C) = some (.type "type")) : Gi K C := ⟨ha, hn, htk, hm, ic, ty⟩
/-- a tuple of ints at the top -/
theorem ct_mk {K : PySem.W.Frag} {x : Str} {T : Addr} {its : Array Value} {n : Nat} {sl : Array (Option Value)} {ns : List Int} (a : PySem.W.nsIn K mainGlobals x = some (some (.ref T))) (l : K.lookup T = some ⟨.type "tuple", none, .seq its n, sl⟩) (z : its.size ≤ sizeLine) (v : Vals (ns.map V.int) its.toList) :
    ∃ (T : Addr) (o : Obj) (its : Array Value) (n : Nat), PySem.W.nsIn K mainGlobals x = some (some (.ref T)) ∧ K.lookup T = some o ∧ o.cls = .type "tuple" ∧ o.dict = none ∧ o.data = .seq its n ∧ its.size ≤ sizeLine ∧ Vals (ns.map V.int) its.toList := ⟨T, _, its, n, a, l, rfl, rfl, rfl, z, v⟩
theorem ctup {K : PySem.W.Frag} {h : Heap} {mg : Str → Option Value} {x : Str} {ns : List Int} (X : K.In h) (G : h.Ns mainGlobals mg) (e : ∃ (T : Addr) (o : Obj) (its : Array Value) (n : Nat), PySem.W.nsIn K mainGlobals x = some (some (.ref T)) ∧ K.lookup T = some o ∧ o.cls = .type "tuple" ∧ o.dict = none ∧ o.data = .seq its n ∧ its.size ≤ sizeLine ∧ Vals (ns.map V.int) its.toList) : CTup K mg x ns := by
  obtain ⟨T, o, its, n, a, l, c, d, s, z, v⟩ := e
  exact ⟨T, o, its, n, PySem.W.mg_of X G a, l, c, d, s, z, v⟩
theorem notF {K : PySem.W.Frag} {C : Addr} {t : String} (h : PySem.W.subIn K (.type t) (.ref C) = some false) : PySem.W.notFirst K C (.type t) = true := by
  unfold PySem.W.notFirst
  rw [h]
  cases (Value.type t == Value.ref C) <;> rfl
theorem kit_of {K : PySem.W.Frag} {C : Addr} {t : String} {b : Bool} (i : PySem.W.isClsIn K C = true) (ty : PySem.W.typeIn K (.ref C) = some (.type "type")) (s : PySem.W.subIn K (.type t) (.ref C) = some b) : PySem.W.kitOne K (.type t) (.ref C) = some b := by
  unfold PySem.W.kitOne
  rw [if_neg (by simp)]
  unfold PySem.W.kitCls
  have i' : (PySem.W.clsIn K C).isSome = true := i
  show (if _ then _ else _) = _
  rw [if_pos (by rw [i', ty]; rfl), s]
theorem vi_nil : Vals (([] : List Int).map V.int) ([] : List Value) := .nil
theorem vi_cons {i : Int} {t : Tok} {ns : List Int} {us : List Value} (h : Vals (ns.map V.int) us) : Vals ((i :: ns).map V.int) (.int i t :: us) := .cons ⟨t, rfl⟩ h
theorem fac {p : Prop} (h : p) : p := h
end LA

/-! methods with keywords; what is assigned raises; error classes of two fields -/
namespace LA
open PySem PySem.Spec PyProof.Rows L2
section
variable {X : Cx} {W : WX} {p : HD} {ρ ρ1 : Rho} {c c1 c2 c3 : PC} {e a b : Expr} {es : List Expr} {pos apos : Pos} {d d1 d2 : D} {n1 n2 nw : Bool} {o o' : EO}
variable {CX : CXT} {k : Nat} {f C g : Addr} {fd : FuncData} {ps : List Str} {R : FSpec} {x m : Str} {xp : Pos} {ds : List D} {fs : List (Str × D)} {sp : Sp}
theorem rs_setX {i : Nat} {x : Str} {pos' : Pos} {C : Addr} {fs : List (Str × D)} (hN : X.N.Nodup) (h : RE X W p ρ c e (.ex C fs c1)) (hi : X.N[i]? = some x := by rfl) (hx : Loc X.env.scope x := by first | exact Or.inl rfl | exact Or.inr rfl) (hs : swapsWith e (some (.Name x pos')) pos.line X.env = pure false := by rfl)
    (hf : X.fn x = true ∨ X.env.scope.names.lookup x = some .local := by first | exact .inl rfl | exact .inr rfl) : RS X W p ρ c (.Assign [.Name x pos'] e pos) (.ex C fs c1) :=
  ps_imp (ps_set hN hi hx h hs hf) fun De σ H q => tS_ex q _
/-- x, y = a, b -/
theorem rs_par (i j : Nat) {x y : Str} {px py pt pt2 : Pos} {kt k2 : Nat} (hc : X.calm = true) (hN : X.N.Nodup) (ha : RA X W p ρ c [a, b] (.val [d1, d2] c1)) (hij : i ≠ j := by decide) (hi : X.N[i]? = some x := by rfl) (hj : X.N[j]? = some y := by rfl) (hx : X.env.scope.names.lookup x = some .local := by rfl) (hy : X.env.scope.names.lookup y = some .local := by rfl)
    (hw : swappedStores [.Tuple [.Name x px, .Name y py] kt pt] (.Tuple [a, b] k2 pt2) X.env = pure (some [x, y]) := by rfl) (hs : swapsWithSole [.Tuple [.Name x px, .Name y py] kt pt] (.Tuple [a, b] k2 pt2) pos.line X.env = pure false := by rfl) :
    RS X W p ρ c (.Assign [.Tuple [.Name x px, .Name y py] kt pt] (.Tuple [a, b] k2 pt2) pos) (.nx ((ρ.set i (some d1)).set j (some d2)) c1) :=
  ps_imp (ps_par hc hN hi hj hij hx hy ha hw hs) fun De σ H ⟨s, k⟩ => ⟨s, fun vs H1 e1 p1 dvs => by
    cases dvs with
    | cons h1 r =>
      cases r with
      | cons h2 r =>
        cases r
        exact ⟨_, _, rfl, k _ H1 e1 (((s.mono e1 p1).set i h1).set j h2)⟩⟩
/-! o.m(k = v) -/
def tMethKS (m : Str) (C : Addr) (n : Nat) (sp : Sp) (gV : List V → List V → List V) (E : L2.St → XK) (ta : TE) (tk : TA) : TE := fun σ H Q => ta σ H fun x H1 => ∃ y dx fv, x = .ref y ∧ H1 y = some (.ins C dx fv) ∧ fv.lookup m = none ∧ tk σ H1 fun zs H2 => zs.length = n ∧ sp (gV [x] zs) H2 Q (E σ)
theorem pe_methKS0 {ks : List Str} {gL : List Value → List Value → List Value} {gV : List V → List V → List V} {pl : Sem Bool} {E : L2.St → XK} {ta : TE} {kws : List Keyword} {tk : TA} (ha : PE X a ta) (cl : Cls X.K C) (hm : Meth X.K C m g) (F : FnOk X.prog X.w X.K X.mg X.base CX k g fd ps sp) (hr : Room k X.A) (hb : KBn X.K fd ps 1 ks gL gV) (hx : ∀ σ, PassesAt CX X σ (E σ))
    (hkw : PK X kws tk) (hall : (backToKw pos (keywordEach kws X.env)).all (·.1.isSome) = true) (hks : (backToKw pos (keywordEach kws X.env)).filterMap (·.1) = ks)
    (ht : eval (.Call (.Attribute a m apos) [] kws pos) X.env = (do
      let ov ← eval a X.env
      standAt apos.atName
      let (f, first) ← holding [ov] (getMethod ov m pl)
      callWith pos f first (backTo pos (starEach [] X.env)) (backToKw pos (keywordEach kws X.env))))
    (hpl : ((backTo pos (starEach [] X.env)).any (·.1) || (backToKw pos (keywordEach kws X.env)).any (·.1.isNone)) = false) :
    PE X (.Call (.Attribute a m apos) [] kws pos) (tMethKS m C ks.length sp gV E ta tk) := ⟨fun pins s σ H Q I h =>
  PySem.W.methodCall_KW (pl := pl) (thn (ha.run pins s σ H _ I h) fun u s1 ⟨x, H1, I1, rx, y, dx, fv, ex, ey, l, q⟩ => by
    subst ex
    obtain rfl : u = Value.ref y := rx
    refine getmeth_ok I1 ey cl hm l (PySem.W.callWith_KW0 (first := [.ref y]) (h₀ := X.base) I.ok.mod.kin hm.kp hall (thn (hkw.run pos pins s1 σ H1 _ I1 q) fun ws s2 ⟨zs, H2, I2, rz, l2, q2⟩ => ⟨I2.kIn, ?_⟩) hpl)
    rw [hks]
    exact run_fnKS (us := [.ref y]) (vs := [.ref y]) F hr hb (hx σ) I2 (.cons rfl .nil) rz rfl l2 q2) ht⟩
theorem re_methK0 {ks : List Str} {gL : List Value → List Value → List Value} {gV : List V → List V → List V} {pl : Sem Bool} {kws : List Keyword} {zs : List D} (tk : Takes X W) (G : FnOk X.prog X.w X.K X.mg X.base (L2.CX X.prog X.w) k g fd ps (spF X.K R)) (hr : Room k X.A) (hb : KBn X.K fd ps 1 ks gL gV) (ha : RE X W p ρ c a (.val (.obj C fs) nw c1)) (cl : Cls X.K C) (hm : Meth X.K C m g) (hn : fs.lookup m = none)
    (hkw : RK X W p ρ c1 kws (.val zs c2)) (hl : zs.length = ks.length) {gD : List D} (hg : ∀ {H : Hp} {vs us : List V}, DVs X.K p H vs [.obj C fs] → DVs X.K p H us zs → DVs X.K p H (gV vs us) gD) (ho : R gD c2 o)
    (ht : eval (.Call (.Attribute a m apos) [] kws pos) X.env = (do
      let ov ← eval a X.env
      standAt apos.atName
      let (f, first) ← holding [ov] (getMethod ov m pl)
      callWith pos f first (backTo pos (starEach [] X.env)) (backToKw pos (keywordEach kws X.env))) := by rfl)
    (hall : (backToKw pos (keywordEach kws X.env)).all (·.1.isSome) = true := by rfl) (hks : (backToKw pos (keywordEach kws X.env)).filterMap (·.1) = ks := by rfl)
    (hpl : ((backTo pos (starEach [] X.env)).any (·.1) || (backToKw pos (keywordEach kws X.env)).any (·.1.isNone)) = false := by rfl) :
    RE X W p ρ c (.Call (.Attribute a m apos) [] kws pos) o :=
  pe_imp (pe_methKS0 ha cl hm G hr hb (fun σ => passAt tk σ) hkw hall hks ht hpl) fun σ H Q h => ⟨tE_sr h, fun v H1 e1 p1 dv _ => by
    cases dv with
    | obj hh r =>
      refine ⟨_, _, _, rfl, (hide_some hh).1, DVf.gone r hn, (tE_sr h).mono e1 p1, fun us H2 e2 p2 dvs => ⟨by rw [dvs.length]; exact hl, p, c2, gD, o, hg (.cons ((DV.obj hh r).mono e2) .nil) dvs, p2, ho, fo_at h (e1.trans e2)⟩⟩⟩
/-! ### error classes of two fields -/
structure Err2 (P : Program) (w : World) (K : PySem.W.Frag) (mg : Str → Option Value) (base : Heap) (x f g : Str) (C : Addr) : Prop where
  ox : OexC K C
  xf : XfC K C
  no : PySem.W.findIn K (.ref C) f = some none
  no2 : PySem.W.findIn K (.ref C) g = some none
  ini : ∃ i fd pn pm, PySem.W.findIn K (.ref C) "__init__" = some (some (.ref i)) ∧ PySem.W.typeIn K (.ref i) = some (.type "function") ∧ FnOk P w K mg base CX0 1 i fd ["self", pn, pm] (spIni2 K f g) ∧ Binds K fd ["self", pn, pm] []
  mg : mg x = some (.ref C)
theorem rs_raiseG2 {e2 : Expr} {pos2 : Pos} {x f g : Str} {C : Addr} (hc : X.calm = true) (tk : Takes X W) (E : Err2 X.prog X.w X.K X.mg X.base x f g C) (hr : Room 2 X.A) (he : RE X W p ρ c e (.val d n1 c1)) (he2 : RE X W p ρ c1 e2 (.val d2 n2 c2)) (hg : Gl X x := by rfl)
    (hdb : (x == ("__debug__" : Str)) = false := by decide) (hs : starEach (e :: [e2]) X.env = (false, eval e X.env) :: starEach [e2] X.env := by rfl) (hs2 : starEach (e2 :: []) X.env = (false, eval e2 X.env) :: starEach [] X.env := by rfl) (hpl : (backTo pos (starEach [e2] X.env)).any (·.1) = false := by rfl) :
    RS X W p ρ c (.Raise (some (.Call (.Name x xp) [e, e2] [] pos)) none pos2) (.ex C [(g, d2), (f, d)] c2) := by
  obtain ⟨i, fd, pn, pm, h1, h2, h3, h4⟩ := E.ini
  exact rs_raise2 hc tk E.ox E.no E.no2 h1 h2 h3 hr h4 E.mg he he2 hg hdb hs hs2 hpl
end
section
variable {P : Program} {w : World} {K : PySem.W.Frag} {mg : Str → Option Value} {base h : Heap} {x : Str} {st : Stmt}
theorem err2 {q f g pn pm : Str} {C : Addr} {q1 q2 q3 q4 r1 r2 r3 r4 : Pos} (X : K.In h) (G : h.Ns mainGlobals mg) (ge : Ge K x q st C) (no : PySem.W.findIn K (.ref C) f = some none) (no2 : PySem.W.findIn K (.ref C) g = some none) (S : FnScope ["self", pn, pm] ["self", pn, pm] (defScope st))
    (hb : defBody st = [.Assign [.Attribute (.Name "self" q1) f q2] (.Name pn q3) q4, .Assign [.Attribute (.Name "self" r1) g r2] (.Name pm r3) r4])
    (h1 : (pn == ("__debug__" : Str)) = false) (h2 : (pn == ("__classdict__" : Str)) = false) (h3 : (pm == ("__debug__" : Str)) = false) (h4 : (pm == ("__classdict__" : Str)) = false)
    (hbd : ∀ (kV doc pm' : Value) (an : Option Addr) (cdv ct : Value) (us : List Value), us.length = (["self", pn, pm] : List Str).length → bindArgs (PySem.W.fnOf "__init__" q (defArgs st) (defBody st) (defScope st) .none kV doc pm' an cdv ct) ⟨us, []⟩ = pure ((["self", pn, pm] : List Str).zip us)) : Err2 P w K mg base x f g C := by
  obtain ⟨f1, fd, i1, t1, F⟩ := ge.ini
  exact ⟨ge.ox, ge.xf, no, no2, ⟨f1, fd, pn, pm, i1, t1, ok_ini2 F S hb h1 h2 h3 h4, F.binds hbd⟩, PySem.W.mg_of X G ge.ns⟩
theorem kbn_of {x q : Str} {st : Stmt} {f : Addr} {fd : FuncData} {ps : List Str} {n : Nat} {ks : List Str} {g : List Value → List Value → List Value} {gV : List V → List V → List V} (F : Fun K x q st f fd)
    (hb : ∀ (kV doc pm : Value) (an : Option Addr) (cdv ct : Value) (us ws : List Value), us.length = n → ws.length = ks.length → bindArgs (PySem.W.fnOf x q (defArgs st) (defBody st) (defScope st) .none kV doc pm an cdv ct) ⟨us, ks.zip ws⟩ = pure (ps.zip (g us ws)))
    (hv : ∀ {vs : List V} {us : List Value} {zs : List V} {ws : List Value}, Vals vs us → Vals zs ws → Vals (gV vs zs) (g us ws)) : KBn K fd ps n ks g gV := by
  refine ⟨fun s us ws _ h1 h2 => ?_, hv⟩
  obtain ⟨oc, od, kV, doc, pm, an, cdv, ct, osl, rfl, _⟩ := F.ex
  exact .of_eq (hb kV doc pm an cdv ct us ws h1 h2)
theorem vals_app : ∀ {vs : List V} {us : List Value} {zs : List V} {ws : List Value}, Vals vs us → Vals zs ws → Vals (vs ++ zs) (us ++ ws)
  | _, _, _, _, .nil, h => h
  | _, _, _, _, .cons a r, h => .cons a (vals_app r h)
end
end LA

namespace K35
open PySem PySem.Spec PyProof.Rows L2 LA
/-! ### patterns -/
theorem chr_eq {a n : Nat} : (chr1 a = chr1 n) ↔ a = n := by
  constructor
  · intro h
    have : (chr1 a).cps.toList = (chr1 n).cps.toList := by rw [h]
    simpa [chr1] using this
  · rintro rfl
    rfl
theorem str_fit {l : List Nat} (h : l.length ≤ 1000) : Fit (.str (tx l)) := ⟨⟨_, rfl⟩, fun l' e => by rw [str_eq e, tx_list]; exact h⟩
section
variable {P : Program} {w : World} {K : PySem.W.Frag} {mg : Str → Option Value} {base : Heap} {B BP US C BT : Addr}
end
end K35

namespace K35
open PySem PySem.Spec PyProof.Rows L2 LA
/-! ### questions made of questions -/
structure QMet (P : Program) (w : World) (K : PySem.W.Frag) (mg : Str → Option Value) (base : Heap) (C : Addr) (m : Str) (k : Nat) (ps : List Str) (R : FSpec) : Prop where
  ex : ∃ g fd, Meth K C m g ∧ FnOk P w K mg base (L2.CX P w) k g fd ps (spF K R) ∧ Binds K fd ps []
section
variable {X : Cx} {W : WX} {p : HD} {ρ : Rho} {c c1 c2 : PC} {e a b : Expr} {es : List Expr} {pos apos : Pos} {nw n2 : Bool} {C : Addr} {l l' : List Nat} {m : Str} {k : Nat} {ps : List Str} {R : FSpec} {ds : List D} {o : EO}
theorem re_qmeth {pl : Sem Bool} (tk : Takes X W) (T : QMet X.prog X.w X.K X.mg X.base C m k ps R) (Q : QC X.K C) (hr : Room k X.A) (ha : RE X W p ρ c a (.val (qD C l) nw c1)) (hs : RA X W p ρ c1 (e :: es) (.val ds c2)) (ho : R (qD C l :: ds) c2 o) (hn : (flds l).lookup m = none := by rfl)
    (ht : eval (.Call (.Attribute a m apos) (e :: es) [] pos) X.env = (do
      let ov ← eval a X.env
      standAt apos.atName
      let (f, first) ← holding [ov] (getMethod ov m pl)
      callWith pos f first (backTo pos (starEach (e :: es) X.env)) (backToKw pos (keywordEach [] X.env))) := by rfl)
    (hst : starEach (e :: es) X.env = (false, eval e X.env) :: starEach es X.env := by rfl) (hpl : (backTo pos (starEach es X.env)).any (·.1) = false := by rfl) :
    RE X W p ρ c (.Call (.Attribute a m apos) (e :: es) [] pos) o := by
  obtain ⟨g, fd, h1, h2, h3⟩ := T.ex
  exact re_methX (fs := flds l) tk h2 hr h3 ha Q.cl h1 hn hs ho ht hst hpl
end
def bit (b : Bool) : Nat := if b then 49 else 48
def tabOfR : FSpec := fun ds c o => ∃ (g : G) (bs : List Bool), ds = [.lst g (bs.map D.bl)] ∧ bs.length ≤ 1000 ∧ o = .val (.str (tx (bs.map bit))) true c
theorem bit_bin (b : Bool) : bit b ∈ bins := by
  cases b <;> decide
theorem tab_64 {l : List Nat} (h : Tab l) : l.length ≤ 64 := by
  have := lens_of h.1
  omega
theorem tab_is {l : List Nat} (h : Tab l) : isTab (.str (tx l)) = true := by
  unfold isTab
  rw [cds_tx, h.1]
  exact Bool.and_eq_true_iff.mpr ⟨rfl, Bool.and_eq_true_iff.mpr ⟨rfl, List.all_eq_true.mpr fun n hn => decide_eq_true (h.2 n hn)⟩⟩
theorem at_bin {l : List Nat} (h : ∀ n ∈ l, n ∈ bins) {i : Nat} (hi : i < l.length) : l.getD i 0 ∈ bins := h _ (by
  rw [List.getD_eq_getElem?_getD, List.getElem?_eq_getElem hi]
  exact List.getElem_mem _)
section
variable {P : Program} {w : World} {K : PySem.W.Frag} {mg : Str → Option Value} {base : Heap} {B BP US C BT : Addr}
abbrev TabOfD (P : Program) (w : World) (K : PySem.W.Frag) (mg : Str → Option Value) (base : Heap) := Def0 P w K mg base 1 "_table_of" ["answers"] tabOfR
theorem scTabOf : FnScope ["answers", "answer"] ["answers"] (defScope (top 25)) := ⟨rfl, rfl, rfl, by decide +kernel, rfl, by decide +kernel, by decide +kernel⟩
theorem ok_tabOf {f : Addr} {fd : FuncData} (F : Fun K "_table_of" "_table_of" (top 25) f fd) : FnOk P w K mg base CX0 1 f fd ["answers"] (spF K tabOfR) := by
  refine fn_val F scTabOf (fun ds c o h => ?_) (fun ds c o h => ?_) (fun cdv A outer s H E hr p ds c o h => ?_)
  · obtain ⟨g, bs, rfl, _⟩ := h
    rfl
  · obtain ⟨g, bs, _, _, rfl⟩ := h
    exact ⟨_, _, _, rfl⟩
  · obtain ⟨g, bs, rfl, hl, rfl⟩ := h
    have hz : (bs.map D.bl).length = bs.length := List.length_map _
    have key : (List.range (bs.map D.bl).length).map (fun i => D.str (chr1 (bit (bs.getD i false)))) = (bs.map bit).map fun n => D.str (chr1 n) := by
      rw [hz, List.map_map]
      refine List.ext_getElem? fun i => ?_
      by_cases hi : i < bs.length
      · simp [hi, List.getElem?_range]
      · simp [hi]
    refine .inl (rss_ret (rs_ret (re_joinC (g := ⟨false, true⟩) (n2 := true) re_str ?_ (by rw [List.length_map]; omega))))
    rw [← key]
    refine re_lcA (own := [("answer", 1)]) (g := gName 1) _ (fun _ => c) (fun i => [some (.lst g (bs.map D.bl)), some (.bl (bs.getD i false))]) (fun _ => true) rfl scTabOf.nd (ri_lst (re_var 0)) (blkOk_by (N := ["answers", "answer"]) (sc := defScope (top 25)) (by decide +kernel)) (fun _ _ _ _ _ => pg_name (i := 1) scTabOf.nd rfl (Or.inl rfl)) (fun i d h => ?_) (fun i d h q s H C cl fp => ?_) (by rw [hz]; omega)
    · rw [List.getElem?_map] at h
      obtain ⟨b, hb, rfl⟩ := Option.map_eq_some_iff.mp h
      rw [List.getD_eq_getElem?_getD, hb]
      exact tg_name (j := 1) (vs := [1]) (by decide)
    · refine re_if (k := bs.getD i false) (rt_val (re_var 1)) (fun hk => ?_) fun hk => ?_
      · rw [hk]
        exact re_str
      · rw [hk]
        exact re_str
end
end K35

namespace K35
open PySem PySem.Spec PyProof.Rows L2 LA
/-! ### a question shown -/
theorem coll_false (y : Nat → D) : ∀ n, coll (fun _ => false) y n = []
  | 0 => rfl
  | n + 1 => by
    unfold coll
    rw [coll_false y n]
    rfl
def shownR (C : Addr) : FSpec := fun ds c o => ∃ l, ds = [qD C l] ∧ Tab l ∧ o = .val (.str (tx l)) false c
section
variable {X : Cx} {W : WX} {p : HD} {ρ : Rho} {c c1 : PC} {e : Expr} {es : List Expr} {pos xp : Pos} {k : Nat} {x : Str} {ps : List Str} {R : FSpec} {C : Addr} {fs : List (Str × D)}
theorem re_c0X (T : Def0 X.prog X.w X.K X.mg X.base k x ps R) (hr : Room k X.A) (ha : RA X W p ρ c (e :: es) (.ex C fs c1))
    (hg : Gl X x := by rfl) (hdb : (x == ("__debug__" : Str)) = false := by decide) (he : starEach (e :: es) X.env = (false, eval e X.env) :: starEach es X.env := by rfl) (hpl : (backTo pos (starEach es X.env)).any (·.1) = false := by rfl) :
    RE X W p ρ c (.Call (.Name x xp) (e :: es) [] pos) (.ex C fs c1) := by
  obtain ⟨f, fd, h1, h2, h3, h4⟩ := T.ex
  exact pe_imp (pe_call h1 hr hg h2 h3 h4 .nil pass0 ha hdb he hpl) fun σ H Q h => h
end
section
variable {P : Program} {w : World} {K : PySem.W.Frag} {mg : Str → Option Value} {base : Heap} {B BI BP US C BT Lk : Addr}
/-! ### two joined -/
section
variable {X : Cx} {W : WX} {p : HD} {ρ : Rho} {c c1 c2 : PC} {a b : Expr} {pos : Pos} {n1 n2 : Bool} {l1 l2 : List Nat} {ws : List Int} {op : Operator}
end
end
end K35

/-! classmethods, with keywords; a class that stands in a variable is called -/
namespace LA
open PySem PySem.Spec PyProof.Rows L2
section
variable {X : Cx} {W : WX} {p : HD} {ρ ρ1 : Rho} {c c1 c2 c3 : PC} {e a b fe : Expr} {es : List Expr} {pos apos : Pos} {d d1 d2 : D} {n1 n2 nw : Bool} {o o' : EO}
variable {CX : CXT} {k : Nat} {f C g q : Addr} {fd : FuncData} {ps : List Str} {R : FSpec} {x m : Str} {xp : Pos} {ds : List D} {sp : Sp} {mc : Value}
/-- cls(..) -/
def tMakeV (C : Addr) (sp : Sp) (E : L2.St → XK) (tf : TE) (t : TA) : TE := fun σ H Q => tf σ H fun y H1 => y = .ref C ∧ t σ H1 fun vs H2 => ∀ x dx, H2 x = none → H2 dx = none → dx ≠ x → sp (V.ref x :: vs) (laid H2 x dx C) (fun v H3 => v = .non ∧ Q (.ref x) H3) (E σ)
theorem pe_makeV {E : L2.St → XK} {tf : TE} {t : TA} (hf : PE X (.Name x xp) tf) (M : Mk X.K C f) (F : FnOk X.prog X.w X.K X.mg X.base CX k f fd ps sp) (hr : Room (k + 1) X.A) (hb : Binds X.K fd ps []) (hx : ∀ σ, PassesAt CX X σ (E σ))
    (ha : PA X (e :: es) t) (he : starEach (e :: es) X.env = (false, eval e X.env) :: starEach es X.env := by rfl) (hpl : (backTo pos (starEach es X.env)).any (·.1) = false := by rfl) :
    PE X (.Call (.Name x xp) (e :: es) [] pos) (tMakeV C sp E tf t) := ⟨fun pins s σ H Q I h =>
  wpAny_Call_Name_kw (thn (hf.run pins s σ H _ I h) fun u s0 ⟨y, H0, I0, ry, ey, q0⟩ => by
    subst ey
    obtain rfl : u = Value.ref C := ry
    exact PySem.W.callWith_K (h₀ := X.base) I0.ok.mod.kin M.kp (thn (ha.run pos pins s0 σ H0 _ I0 q0) fun us s1 ⟨vs, H1, I1, r, q⟩ => ⟨I1.kIn, run_makeS M F hr hb (hx σ) I1 r q⟩) he hpl)⟩
theorem re_makeXv (tk : Takes X W) (hf : RE X W p ρ c (.Name x xp) (.val (.cls C) nw c)) (M : Mk X.K C f) (G : FnOk X.prog X.w X.K X.mg X.base (L2.CX X.prog X.w) k f fd ps (spF X.K R)) (hr : Room (k + 1) X.A) (hb : Binds X.K fd ps []) (ha : RA X W p ρ c (e :: es) (.val ds c1)) (ho : R (.mut c1.length :: ds) (c1 ++ [.ins C []]) o') (hd : Made C c1.length o' o)
    (he : starEach (e :: es) X.env = (false, eval e X.env) :: starEach es X.env := by rfl) (hpl : (backTo pos (starEach es X.env)).any (·.1) = false := by rfl) :
    RE X W p ρ c (.Call (.Name x xp) (e :: es) [] pos) o := by
  refine pe_imp (pe_makeV hf M G hr hb (fun σ => passAt tk σ) ha he hpl) fun σ H Q h => ⟨tE_sr h, fun v H0 e0 p0 dv _ => ?_⟩
  cases dv
  refine ⟨rfl, (tE_sr h).mono e0 p0, fun vs H1 e1' p1 dvs y dy ny nd ne => ?_⟩
  have e1 := e0.trans e1'
  refine ⟨p.mut y, c1 ++ [.ins C []], .mut c1.length :: ds, o', laid_vals p1 dvs ny nd ne, laid_pool p1 ny nd ne, ho, ?_⟩
  cases hd with
  | val hl =>
    intro v H3 e3 p3 dv _
    have ext := laid_after p1 ny nd ne e3
    refine ⟨by cases dv; rfl, ?_⟩
    exact (fo_at h e1) (.ref y) H3 ext (laid_out hl p1 p3) (laid_obj hl p1 ny p3) fun _ => laid_new hl p1 ny p3
  | ex hl lo =>
    intro dx fv H3 e3 p3 hx hf
    have ext := laid_after p1 ny nd ne e3
    exact (fo_at h e1) dx fv H3 ext (laid_out hl p1 p3) (sub_mut dx _ hx) (hf.low (n := c1.length) sub_mut (fun i b li hi => at_mut (by rw [p1.1.2.1]; exact li) hi) lo)
/-! ### C.m(a, .., k = v, ..) -/
def tCMS (C : Addr) (n m : Nat) (sp : Sp) (gV : List V → List V → List V) (E : L2.St → XK) (ta : TE) (t tk : TA) : TE := fun σ H Q => ta σ H fun x H1 => x = .ref C ∧ t σ H1 fun vs H2 => tk σ H2 fun zs H3 => vs.length = n ∧ zs.length = m ∧ sp (gV (.ref C :: vs) zs) H3 Q (E σ)
theorem run_cmKS {n : Nat} {ks : List Str} {gL : List Value → List Value → List Value} {gV : List V → List V → List V} {E : L2.St → XK} {pins : List (Addr × Obj)} {σ : L2.St} {H : Hp} {s : Shared} {Q : VK} {us ws : List Value} {vs zs : List V}
    (F : FnOk X.prog X.w X.K X.mg X.base CX k g fd ps sp) (hr : Room k X.A) (hb : KBn X.K fd ps (n + 1) ks gL gV) (hx : PassesAt CX X σ (E σ))
    (I : Inv X ((q, PySem.W.methodObj (.ref g) (.ref C)) :: pins) σ H s) (r : Vals vs us) (rz : Vals zs ws) (l1 : vs.length = n) (l2 : zs.length = ks.length) (h : sp (gV (.ref C :: vs) zs) H Q (E σ)) : wpAny (model X.prog X.w) X.A (call (.ref q) us (ks.zip ws)) (EP X pins σ Q) X.xe s := by
  have r1 : Vals (V.ref C :: vs) (Value.ref C :: us) := .cons rfl r
  have r2 := hb.rel r1 rz
  have z : wpAny (model X.prog X.w) X.A (call (.ref q) us (ks.zip ws)) (EP X ((q, PySem.W.methodObj (.ref g) (.ref C)) :: pins) σ Q) X.xe s := by
    refine wpAny_call (PySem.W.method_call (ClX.pin_at I) (codeAny_mono (F.run X.A X.stack s H ⟨Value.ref C :: us, ks.zip ws⟩ (gL (Value.ref C :: us) ws) (gV (V.ref C :: vs) zs) Q (E σ) hr I.env0 (hb.to s _ ws I.kIn (by rw [List.length_cons, ← r.length, l1]) (rz.length.symm.trans l2)) r2 h) fun r s' hq => ?_))
    cases r with
    | error e => exact hx _ H s e s' I hq
    | ok fl =>
      cases fl with
      | ret u => exact I.after hq
      | next => exact False.elim hq
      | brk => exact False.elim hq
      | cont => exact False.elim hq
  exact thn z fun _ _ y => ClX.unpinE y
theorem pe_cmKS {n : Nat} {ks : List Str} {gL : List Value → List Value → List Value} {gV : List V → List V → List V} {pl : Sem Bool} {E : L2.St → XK} {pc : Addr} {ta : TE} {t : TA} {kws : List Keyword} {tk : TA} (he : PE X a ta) (r : ClX.CRead X.K C mc) (cm : ClX.CMet X.K C mc m pc g) (F : FnOk X.prog X.w X.K X.mg X.base CX k g fd ps sp) (hr : Room k X.A) (hb : KBn X.K fd ps (n + 1) ks gL gV) (hx : ∀ σ, PassesAt CX X σ (E σ))
    (ha : PA X (e :: es) t) (hkw : PK X kws tk) (hall : (backToKw pos (keywordEach kws X.env)).all (·.1.isSome) = true) (hks : (backToKw pos (keywordEach kws X.env)).filterMap (·.1) = ks)
    (ht : eval (.Call (.Attribute a m apos) (e :: es) kws pos) X.env = (do
      let ov ← eval a X.env
      standAt apos.atName
      let (f, first) ← holding [ov] (getMethod ov m pl)
      callWith pos f first (backTo pos (starEach (e :: es) X.env)) (backToKw pos (keywordEach kws X.env))))
    (hst : starEach (e :: es) X.env = (false, eval e X.env) :: starEach es X.env)
    (hpl : ((backTo pos (starEach (e :: es) X.env)).any (·.1) || (backToKw pos (keywordEach kws X.env)).any (·.1.isNone)) = false) :
    PE X (.Call (.Attribute a m apos) (e :: es) kws pos) (tCMS C n ks.length sp gV E ta t tk) := by
  refine ⟨fun pins s σ H Q I h => ?_⟩
  refine PySem.W.methodCall_KW (pl := pl) (thn (he.run pins s σ H _ I h) fun u s1 ⟨x, H1, I1, rx, ex, q⟩ => ?_) ht
  subst ex
  obtain rfl : u = Value.ref C := rx
  refine ClX.getmethcm_ok I1 r cm fun s2 I2 => ?_
  refine PySem.W.callWith_of hpl (PySem.W.keeps_M (q := s1.heap.objs.size) (self := .ref C) cm.fi) (PyProof.Rows.evalArgs_kw2 hall (thn (ha.run pos _ s2 σ H1 _ I2 q) fun us s3 ⟨vs, H2, I3, rv, q2⟩ => thn (hkw.run pos _ s3 σ H2 _ I3 q2) fun ws s4 ⟨zs, H3, I4, rz, l1, l2, q3⟩ => ⟨⟨ClX.pin_at I4, I4.kIn⟩, ?_⟩) hst)
  rw [hks]
  exact run_cmKS F hr hb (hx σ) I4 rv rz l1 l2 q3
theorem pe_cmKS0 {ks : List Str} {gL : List Value → List Value → List Value} {gV : List V → List V → List V} {pl : Sem Bool} {E : L2.St → XK} {pc : Addr} {ta : TE} {kws : List Keyword} {tk : TA} (he : PE X a ta) (r : ClX.CRead X.K C mc) (cm : ClX.CMet X.K C mc m pc g) (F : FnOk X.prog X.w X.K X.mg X.base CX k g fd ps sp) (hr : Room k X.A) (hb : KBn X.K fd ps 1 ks gL gV) (hx : ∀ σ, PassesAt CX X σ (E σ))
    (hkw : PK X kws tk) (hall : (backToKw pos (keywordEach kws X.env)).all (·.1.isSome) = true) (hks : (backToKw pos (keywordEach kws X.env)).filterMap (·.1) = ks)
    (ht : eval (.Call (.Attribute a m apos) [] kws pos) X.env = (do
      let ov ← eval a X.env
      standAt apos.atName
      let (f, first) ← holding [ov] (getMethod ov m pl)
      callWith pos f first (backTo pos (starEach [] X.env)) (backToKw pos (keywordEach kws X.env))))
    (hpl : ((backTo pos (starEach [] X.env)).any (·.1) || (backToKw pos (keywordEach kws X.env)).any (·.1.isNone)) = false) :
    PE X (.Call (.Attribute a m apos) [] kws pos) (tCMS C 0 ks.length sp gV E ta tNil tk) := by
  refine ⟨fun pins s σ H Q I h => ?_⟩
  refine PySem.W.methodCall_KW (pl := pl) (thn (he.run pins s σ H _ I h) fun u s1 ⟨x, H1, I1, rx, ex, q⟩ => ?_) ht
  subst ex
  obtain rfl : u = Value.ref C := rx
  refine ClX.getmethcm_ok I1 r cm fun s2 I2 => ?_
  have q : tk σ H1 fun zs H3 => ([] : List V).length = 0 ∧ zs.length = ks.length ∧ sp (gV [.ref C] zs) H3 Q (E σ) := q
  refine PySem.W.callWith_of hpl (PySem.W.keeps_M (q := s1.heap.objs.size) (self := .ref C) cm.fi) (PyProof.Rows.evalArgs_kw2_nil hall (thn (hkw.run pos _ s2 σ H1 _ I2 q) fun ws s4 ⟨zs, H3, I4, rz, l1, l2, q3⟩ => ⟨⟨ClX.pin_at I4, I4.kIn⟩, ?_⟩))
  rw [hks]
  exact run_cmKS (n := 0) (us := []) (vs := []) F hr hb (hx σ) I4 .nil rz rfl l2 q3
structure CMeth (P : Program) (w : World) (K : PySem.W.Frag) (mg : Str → Option Value) (base : Heap) (C : Addr) (m : Str) (k : Nat) (ps : List Str) (R : FSpec) (n : Nat) (ks : List Str) (gL : List Value → List Value → List Value) (gV : List V → List V → List V) : Prop where
  ex : ∃ (mc : Value) (pc g : Addr) (fd : FuncData), ClX.CRead K C mc ∧ ClX.CMet K C mc m pc g ∧ FnOk P w K mg base (L2.CX P w) k g fd ps (spF K R) ∧ KBn K fd ps (n + 1) ks gL gV
theorem re_cm {n : Nat} {ks : List Str} {gL : List Value → List Value → List Value} {gV : List V → List V → List V} {pl : Sem Bool} {kws : List Keyword} {zs : List D} (tk : Takes X W) (T : CMeth X.prog X.w X.K X.mg X.base C m k ps R n ks gL gV) (hr : Room k X.A) (hc : RE X W p ρ c a (.val (.cls C) nw c1))
    (ha : RA X W p ρ c1 (e :: es) (.val ds c2)) (hkw : RK X W p ρ c2 kws (.val zs c3)) (hn : ds.length = n) (hl : zs.length = ks.length) {gD : List D} (hg : ∀ {H : Hp} {vs us : List V}, DVs X.K p H vs (.cls C :: ds) → DVs X.K p H us zs → DVs X.K p H (gV vs us) gD) (ho : R gD c3 o)
    (ht : eval (.Call (.Attribute a m apos) (e :: es) kws pos) X.env = (do
      let ov ← eval a X.env
      standAt apos.atName
      let (f, first) ← holding [ov] (getMethod ov m pl)
      callWith pos f first (backTo pos (starEach (e :: es) X.env)) (backToKw pos (keywordEach kws X.env))) := by rfl)
    (hall : (backToKw pos (keywordEach kws X.env)).all (·.1.isSome) = true := by rfl) (hks : (backToKw pos (keywordEach kws X.env)).filterMap (·.1) = ks := by rfl) (hst : starEach (e :: es) X.env = (false, eval e X.env) :: starEach es X.env := by rfl)
    (hpl : ((backTo pos (starEach (e :: es) X.env)).any (·.1) || (backToKw pos (keywordEach kws X.env)).any (·.1.isNone)) = false := by rfl) : RE X W p ρ c (.Call (.Attribute a m apos) (e :: es) kws pos) o := by
  obtain ⟨mc, pc, g, fd, h1, h2, h3, h4⟩ := T.ex
  refine pe_imp (pe_cmKS hc h1 h2 h3 hr h4 (fun σ => passAt tk σ) ha hkw hall hks ht hst hpl) fun σ H Q h => ⟨tE_sr h, fun v H1 e1 p1 dv _ => ?_⟩
  cases dv
  exact ⟨rfl, (tE_sr h).mono e1 p1, fun vs H2 e2 p2 dvs => ⟨((tE_sr h).mono e1 p1).mono e2 p2, fun us H3 e3 p3 dus => ⟨by rw [dvs.length]; exact hn, by rw [dus.length]; exact hl, p, c3, gD, o, hg (.cons (.cls C) (dvs.mono e3)) dus, p3, ho, fo_at h ((e1.trans e2).trans e3)⟩⟩⟩
theorem re_cm0 {ks : List Str} {gL : List Value → List Value → List Value} {gV : List V → List V → List V} {pl : Sem Bool} {kws : List Keyword} {zs : List D} (tk : Takes X W) (T : CMeth X.prog X.w X.K X.mg X.base C m k ps R 0 ks gL gV) (hr : Room k X.A) (hc : RE X W p ρ c a (.val (.cls C) nw c1))
    (hkw : RK X W p ρ c1 kws (.val zs c3)) (hl : zs.length = ks.length) {gD : List D} (hg : ∀ {H : Hp} {vs us : List V}, DVs X.K p H vs [.cls C] → DVs X.K p H us zs → DVs X.K p H (gV vs us) gD) (ho : R gD c3 o)
    (ht : eval (.Call (.Attribute a m apos) [] kws pos) X.env = (do
      let ov ← eval a X.env
      standAt apos.atName
      let (f, first) ← holding [ov] (getMethod ov m pl)
      callWith pos f first (backTo pos (starEach [] X.env)) (backToKw pos (keywordEach kws X.env))) := by rfl)
    (hall : (backToKw pos (keywordEach kws X.env)).all (·.1.isSome) = true := by rfl) (hks : (backToKw pos (keywordEach kws X.env)).filterMap (·.1) = ks := by rfl)
    (hpl : ((backTo pos (starEach [] X.env)).any (·.1) || (backToKw pos (keywordEach kws X.env)).any (·.1.isNone)) = false := by rfl) : RE X W p ρ c (.Call (.Attribute a m apos) [] kws pos) o := by
  obtain ⟨mc, pc, g, fd, h1, h2, h3, h4⟩ := T.ex
  refine pe_imp (pe_cmKS0 hc h1 h2 h3 hr h4 (fun σ => passAt tk σ) hkw hall hks ht hpl) fun σ H Q h => ⟨tE_sr h, fun v H1 e1 p1 dv _ => ?_⟩
  cases dv
  exact ⟨rfl, (tE_sr h).mono e1 p1, fun us H3 e3 p3 dus => ⟨rfl, by rw [dus.length]; exact hl, p, c3, gD, o, hg (.cons (.cls C) .nil) dus, p3, ho, fo_at h (e1.trans e3)⟩⟩
end
end LA

/-! a loop whose turn raises; a number's truth; an odd number -/
namespace LA
open PySem PySem.Spec PyProof.Rows L2
section
variable {X : Cx} {W : WX} {p : HD} {ρ : Rho} {c c1 : PC} {e tg it : Expr} {body : List Stmt} {pos : Pos} {xs : List D} {g : TG} {vs : List Nat} {nw : Bool} {C : Addr} {fs : List (Str × D)}
/-- n turns go on, then a turn raises -/
theorem rs_forX (n : Nat) (ρs ρt : Nat → Rho) (cs : Nat → PC) (hp : PassesOwn (model X.prog X.w) X.A X.env X.xe) (hc : X.calm = true) (h0 : ρs 0 = ρ) (hi : RI X W p ρ c tg it xs (cs 0)) (hg : PG X tg g)
    (htg : ∀ i d, xs[i]? = some d → i ≤ n → TgOk X.K g vs d (ρs i) (ρt i))
    (hb : ∀ i d, xs[i]? = some d → i < n → RSs X W p (ρt i) (cs i) body (.nx (ρs (i + 1)) (cs (i + 1))))
    {d : D} (h1 : xs[n]? = some d) (h3 : RSs X W p (ρt n) (cs n) body (.ex C fs c1)) (hl : (ρt n).length = ρ.length)
    (hs : ∀ x, foldedSetIterable it X.env x = pure x := by intro _; rfl) : RS X W p ρ c (.For tg it body [] pos) (.ex C fs c1) := by
  subst h0
  have hn : n ≤ xs.length := by
    have := (List.getElem?_eq_some_iff.mp h1).1
    omega
  have PU : PSs X body (fun De σ H => ∃ (i : Nat) (so : SO), RSs X W p (ρt i) (cs i) body so ∧ tSt X.K W p (ρt i) (cs i) so De σ H) := ⟨fun pins s σ H De I ⟨i, so, h1, h2⟩ => h1.run pins s σ H De I h2⟩
  refine ps_imp (ps_for hp hc hi hg PU hs) fun De σ H h => ?_
  refine ⟨st_sr h, fun J H1 e1 p1 yl => ?_⟩
  refine ⟨fun i m σ2 H2 => m = xs.length - i ∧ i ≤ n ∧ Ext p H1 H2 ∧ SR X.K p H2 σ2 (ρs i) (cs i), ⟨xs.length, by simp, Nat.zero_le _, Ext.refl _ _, (st_sr h).mono e1 p1⟩, ?_⟩
  rintro i m σ2 H2 ⟨rfl, hi', e2, s2⟩
  obtain ⟨hstop, hgo⟩ := yl p (cs i) H2 rfl e2.hide s2.pl
  by_cases hlt : i < n
  · have hd : xs[i]? = some (xs[i]'(Nat.lt_of_lt_of_le hlt hn)) := List.getElem?_eq_getElem _
    obtain ⟨g1, g2⟩ := hgo i _ hd
    refine .inr ⟨g1, fun σ' H' => Ext p H1 H' ∧ SR X.K p H' σ' (ρs (i + 1)) (cs (i + 1)), fun σ' H' ⟨a1, a2⟩ => ⟨xs.length - (i + 1), by omega, rfl, hlt, a1, a2⟩, fun x H3 hy => ?_⟩
    obtain ⟨e3, p3, dx⟩ := g2 x H3 hy
    refine (htg i _ hd hi').run p (cs i) x _ H3 _ dx (s2.mono e3 p3) p3 fun σ3 s3 _ => ⟨i, _, hb i _ hd hlt, s3, fun σ4 H4 e4 s4 => ⟨(e2.trans e3).trans e4, s4⟩⟩
  · have e : i = n := by omega
    subst e
    obtain ⟨g1, g2⟩ := hgo i _ h1
    refine .inr ⟨g1, fun _ _ => False, fun _ _ z => z.elim, fun x H3 hy => ?_⟩
    obtain ⟨e3, p3, dx⟩ := g2 x H3 hy
    refine (htg i _ h1 hi').run p (cs i) x _ H3 _ dx (s2.mono e3 p3) p3 fun σ3 s3 _ => ⟨i, _, h3, s3, fun ρ' dx fv σ4 H4 e4 s4 hl' hx hf => ?_⟩
    exact h.2 ρ' dx fv σ4 H4 (e1.trans (e2.trans (e3.trans e4))) s4 (hl'.trans hl) hx hf
theorem re_lcX {elt : Expr} {ifs : List Expr} {scope : Scope} {own : List (Str × Nat)} (hc : X.calm = true) (hN : X.N.Nodup) (h : RE X W p ρ c it (.ex C fs c1)) (ok : BlkOk X.N X.env.scope scope own)
    (hg : ∀ (s : Shared) (H : Hp) (C : Addr) (cl : List (Str × Addr)) (fp : List Addr), PG (X.blk s H scope (compEnvC scope cl C X.env) fp) tg g)
    (hs : ∀ x, foldedSetIterable it X.env x = pure x := by intro _; rfl) : RE X W p ρ c (.ListComp elt [⟨tg, it, ifs, 0⟩] scope pos) (.ex C fs c1) :=
  pe_imp (pe_lc (tt := fun _ _ _ => False) (te := fun _ _ _ => False) hc hN (pi_list h) ok hg (fun s H C cl fp => ⟨fun _ _ _ _ _ _ z => z.elim⟩) (fun s H C cl fp => ⟨fun _ _ _ _ _ _ z => z.elim⟩) hs) fun σ H Q h => h
theorem ov_odd {K : PySem.W.Frag} {n : Nat} : OV K p (fun x y H Q => ∃ n : Nat, x = .int (n : Int) ∧ y = .int 1 ∧ Q (.int ((n % 2 : Nat) : Int)) H) (.int ((n : Nat) : Int)) (.int 1) (.int ((n % 2 : Nat) : Int)) true c := fun v u H Q dv du hp k => by
  cases dv
  cases du
  exact ⟨n, rfl, rfl, k _ H (Ext.refl p H) hp (.int _) fun _ => New.sc (by intro a h; cases h)⟩
end
end LA

namespace K35
open PySem PySem.Spec PyProof.Rows L2 LA
/-! ### questions made by the class -/
theorem pos_nat {d : D} {m : Int} (h : posD d m = true) : ∃ n : Nat, d = .int ((n : Nat) : Int) ∧ (n : Int) < m := by
  cases d with
  | int i =>
    obtain ⟨i0, i1⟩ := Bool.and_eq_true_iff.mp (show (decide (0 ≤ i) && decide (i < m)) = true from h)
    have i0 := of_decide_eq_true i0
    have i1 := of_decide_eq_true i1
    exact ⟨i.toNat, by rw [Int.toNat_of_nonneg i0], by omega⟩
  | _ => cases h
theorem tab_of {l : List Nat} {n : Nat} (h : n ≤ 6) (hl : l.length = 2 ^ n) (hb : ∀ m ∈ l, m ∈ bins) : Tab l := by
  refine ⟨?_, hb⟩
  rw [hl]
  have key : ∀ k : Fin 7, inLens (2 ^ k.val) = true := by decide +kernel
  exact key ⟨n, by omega⟩
theorem pow_64 {n : Nat} (h : n ≤ 6) : 2 ^ n ≤ 64 := by
  calc 2 ^ n ≤ 2 ^ 6 := Nat.pow_le_pow_right (by decide) h
    _ = 64 := by decide
section
variable {X : Cx} {W : WX} {p : HD} {ρ : Rho} {c c1 : PC} {e : Expr} {pos xp : Pos} {nw n2 : Bool} {C B : Addr} {l : List Nat} {x : Str}
theorem re_makeQv (tk : Takes X W) (T : QMk X.prog X.w X.K X.mg X.base C B) (hr : Room 6 X.A) (hf : RE X W p ρ c (.Name x xp) (.val (.cls C) n2 c)) (he : RE X W p ρ c e (.val (.str (tx l)) nw c1)) (tb : Tab l)
    (hs : starEach [e] X.env = (false, eval e X.env) :: starEach [] X.env := by rfl) (hpl : (backTo pos (starEach [] X.env)).any (·.1) = false := by rfl) : RE X W p ρ c (.Call (.Name x xp) [e] [] pos) (.val (qD C l) true c1) := by
  obtain ⟨f, fd, h1, h2, h3⟩ := T.ex
  have hc : (c1 ++ [Cell.ins C []])[c1.length]? = some (.ins C []) := by simp
  have l64 := tab_64 tb
  refine re_makeXv (o' := .val .non true (c1 ++ [.ins C (flds l)])) tk hf h1 h2 hr h3 (ra_cons he ra_nil hs) ⟨c1.length, .str (tx l), rfl, hc, str_fit (by omega), ?_⟩ (.val rfl) hs hpl
  rw [tab_is tb, if_pos rfl, set_last, cds_tx]
end
def conL (n a : Nat) : List Nat := (List.replicate (2 ^ n) [48 + a]).flatten
theorem conL_len (n a : Nat) : (conL n a).length = 2 ^ n := by simp [conL]
theorem conL_tab {n a : Nat} (h : n ≤ 6) (ha : a < 2) : Tab (conL n a) := tab_of h (conL_len n a) fun m hm => by
  simp [conL] at hm
  rw [hm]
  exact bin_of (by omega)
def bitL (n k : Nat) : List Nat := (insT n).map fun t => t.getD k 0
def leastL (n k : Nat) : List Nat := ((insT n).map fun t => decide (k ≤ t.count 49)).map bit
def parL (n : Nat) : List Nat := ((insT n).map fun t => decide (t.count 49 % 2 = 1)).map bit
def ofL (n : Nat) (ts : List (List Nat)) : List Nat := ((insT n).map fun t => decide (t ∈ ts)).map bit
theorem insT_at {n : Nat} {t : List Nat} (h : t ∈ insT n) : t.length = n := by
  have := words_all (List.replicate n bins) (ws := [[]]) (n := 0) (fun w hw => by cases List.mem_singleton.mp hw; rfl) t h
  rw [this, List.length_replicate, Nat.zero_add]
theorem map_bins {α : Type} (xs : List α) (f : α → Bool) : ∀ m ∈ (xs.map f).map bit, m ∈ bins := fun m hm => by
  obtain ⟨b, _, rfl⟩ := List.mem_map.mp hm
  exact bit_bin b
theorem leastL_tab {n : Nat} (k : Nat) (h : n ≤ 6) : Tab (leastL n k) := tab_of h (by unfold leastL; rw [List.length_map, List.length_map, insT_len]) (map_bins _ _)
theorem parL_tab {n : Nat} (h : n ≤ 6) : Tab (parL n) := tab_of h (by unfold parL; rw [List.length_map, List.length_map, insT_len]) (map_bins _ _)
theorem ofL_tab {n : Nat} (ts : List (List Nat)) (h : n ≤ 6) : Tab (ofL n ts) := tab_of h (by unfold ofL; rw [List.length_map, List.length_map, insT_len]) (map_bins _ _)
theorem bitL_tab {n k : Nat} (h : n ≤ 6) (hk : k < n) : Tab (bitL n k) := tab_of h (by unfold bitL; rw [List.length_map, insT_len]) fun m hm => by
  obtain ⟨t, ht, rfl⟩ := List.mem_map.mp hm
  exact at_bin (insT_mem ht) (by rw [insT_at ht]; exact hk)
theorem insT_wD (n : Nat) : (wD (insT n)).length = 2 ^ n := by rw [wD_len, insT_len]
def cnt2R (Cn : Addr) : FSpec := fun ds c o => ∃ d m, ds = [d, .int m] ∧ Ty d ∧ o = if posD d (m + 1) then .val .non true c else .ex Cn [("given", d)] c
section
variable {P : Program} {w : World} {K : PySem.W.Frag} {mg : Str → Option Value} {base : Heap} {Cn Bb Bp BI C BT : Addr}
end
end K35

namespace K35
open PySem PySem.Spec PyProof.Rows L2 LA
theorem range_map {α β : Type} (xs : List α) (d0 : α) (f : α → β) : (List.range xs.length).map (fun i => f (xs.getD i d0)) = xs.map f := by
  refine List.ext_getElem? fun i => ?_
  by_cases hi : i < xs.length
  · simp [hi, List.getElem?_range]
  · simp [hi]
theorem range_wD {β : Type} (ts : List (List Nat)) (f : List Nat → β) : (List.range (wD ts).length).map (fun i => f (ts.getD i [])) = ts.map f := by
  rw [wD_len]
  exact range_map ts [] f
/-- what is an input of n positions -/
def okI (n : Nat) (d : D) : Bool := isW bins d && decide (((cds d).length : Int) = ((n : Nat) : Int))
def badI (n : Nat) (xs : List D) : Option D := xs.find? fun d => !okI n d
def ofR (C Cn BI : Addr) : FSpec := fun ds c o => ∃ d1 b xs, ds = [.cls C, d1, b] ∧ Ty d1 ∧ isSeqOf b xs ∧ xs.length ≤ 1000 ∧ (∀ d ∈ xs, Fit d) ∧ o = if posD d1 7 then (match badI (cntN d1) xs with
  | some d => .ex BI [("given", d)] c
  | none => .val (qD C (ofL (cntN d1) (xs.map cds))) true c) else .ex Cn [("given", d1)] c
theorem find_first {α : Type} (q : α → Bool) : ∀ (xs : List α), (xs.find? q = none ∧ ∀ (i : Nat) (d : α), xs[i]? = some d → q d = false) ∨ ∃ (n : Nat) (d : α), xs[n]? = some d ∧ q d = true ∧ xs.find? q = some d ∧ ∀ (i : Nat) (e : α), i < n → xs[i]? = some e → q e = false
  | [] => .inl ⟨rfl, fun i d h => by simp at h⟩
  | x :: xs => by
    cases h : q x with
    | true => exact .inr ⟨0, x, rfl, h, by rw [List.find?_cons, h], fun i e hi => absurd hi (Nat.not_lt_zero i)⟩
    | false =>
      rcases find_first q xs with ⟨h1, h2⟩ | ⟨n, d, h1, h2, h3, h4⟩
      · exact .inl ⟨by rw [List.find?_cons, h]; exact h1, fun i d hd => by
          cases i with
          | zero =>
            cases hd
            exact h
          | succ i => exact h2 i d hd⟩
      · exact .inr ⟨n + 1, d, h1, h2, by rw [List.find?_cons, h]; exact h3, fun i e hi he => by
          cases i with
          | zero =>
            cases he
            exact h
          | succ i => exact h4 i e (by omega) he⟩
theorem okI_str {n : Nat} {d : D} (h : okI n d = true) : ∃ l, d = .str (tx l) ∧ l.length = n ∧ ∀ m ∈ l, m ∈ bins := by
  obtain ⟨h1, h2⟩ := Bool.and_eq_true_iff.mp h
  obtain ⟨l, rfl, _, hb⟩ := isW_str h1
  have h2 := of_decide_eq_true h2
  rw [cds_tx] at h2
  exact ⟨l, rfl, by omega, hb⟩
theorem inV_strs (t : List Nat) : ∀ (ts : List (List Nat)), inV (V.str (tx t)) (ts.map fun t => V.str (tx t)) = decide (t ∈ ts)
  | [] => rfl
  | u :: ts => by
    have ih := inV_strs t ts
    unfold inV at ih ⊢
    rw [List.map_cons, List.any_cons, ih]
    have e : eqV (V.str (tx u)) (V.str (tx t)) = decide (t = u) := by
      unfold eqV
      by_cases h : t = u
      · rw [h]
        simp
      · rw [decide_eq_false h]
        simp
        exact fun z => h (tx_inj z).symm
    rw [e]
    by_cases h1 : t = u <;> by_cases h2 : t ∈ ts <;> simp [h1, h2]
section
variable {P : Program} {w : World} {K : PySem.W.Frag} {mg : Str → Option Value} {base : Heap} {Cn Bb Bp BI C BT : Addr}
end
end K35

namespace K35
open PySem PySem.Spec PyProof.Rows L2 LA
theorem re_toX {X : Cx} {W : WX} {p : HD} {ρ : Rho} {c c1 : PC} {e : Expr} {d d' : D} {nw nw' : Bool} (h : RE X W p ρ c e (.val d nw c1)) (q : d = d') (q2 : nw = nw') : RE X W p ρ c e (.val d' nw' c1) := by
  subst q q2
  exact h
theorem count_le6 {n : Nat} {t : List Nat} (ht : t ∈ insT n) (hn : n ≤ 6) : t.length ≤ 6 := by rw [insT_at ht]; exact hn
section
variable {X : Cx} {W : WX} {p : HD} {ρ : Rho} {c : PC} {a b cc : Expr} {pos : Pos}
theorem re_cnt1 {t : List Nat} {c1 : PC} {nw : Bool} {apos : Pos} {j : Nat} {ps : Pos} (ho : RE X W p ρ c a (.val (.str (tx t)) nw c1)) (hs : starEach [(.Constant (.str "1") j ps : Expr)] X.env = [(false, eval (.Constant (.str "1") j ps) X.env)] := by rfl) (hbase : attributeBase a "count" X.env (eval a X.env) = eval a X.env := by rfl) (hline : (apos.endLine == pos.line) = true := by rfl) :
    RE X W p ρ c (.Call (.Attribute a "count" apos) [.Constant (.str "1") j ps] [] pos) (.val (.int ((t.count 49 : Nat) : Int)) true c1) :=
  re_to (re_count (n := 49) ho (re_to re_str rfl) hs hbase hline) (congrArg D.int (count_nat _ _))
end
section
variable {X : Cx} {W : WX} {p : HD} {ρ : Rho} {c c1 : PC} {e : Expr} {pos xp : Pos} {n2 : Bool} {C B E : Addr} {fs : List (Str × D)} {x : Str}
theorem re_mkVX (tk : Takes X W) (T : QMk X.prog X.w X.K X.mg X.base C B) (hr : Room 6 X.A) (hf : RE X W p ρ c (.Name x xp) (.val (.cls C) n2 c)) (he : RE X W p ρ c e (.ex E fs c1))
    (hs : starEach [e] X.env = (false, eval e X.env) :: starEach [] X.env := by rfl) (hpl : (backTo pos (starEach [] X.env)).any (·.1) = false := by rfl) : RE X W p ρ c (.Call (.Name x xp) [e] [] pos) (.ex E fs c1) := by
  obtain ⟨f, fd, h1, h2, h3⟩ := T.ex
  refine pe_imp (pe_makeV hf h1 h2 hr h3 (fun σ => passAt tk σ) (ra_consX1 he hs) hs hpl) fun σ H Q h => ⟨h.1, fun v H1 e1 p1 dv _ => ?_⟩
  cases dv
  exact ⟨rfl, h.1.mono e1 p1, fun dx fv σ' H2 e2 s2 hx hf => h.2 dx fv σ' H2 (e1.trans e2) s2 hx hf⟩
end
section
variable {P : Program} {w : World} {K : PySem.W.Frag} {mg : Str → Option Value} {base : Heap} {Cn Bb Bp BI C BT : Addr}
abbrev nOf : List Str := ["cls", "many", "yes", "text"]
theorem scOf : FnScope nOf ["cls", "many", "yes"] (defScope (mth 25)) := ⟨rfl, rfl, rfl, by decide +kernel, rfl, by decide +kernel, by decide +kernel⟩
abbrev sOf : Stmt := (defBody (mth 25)).getD 1 (.Pass ⟨0, 0, 0, 0⟩)
theorem ok_of {f : Addr} {fd : FuncData} (TC : CntD P w K mg base Cn) (TV : InOfD P w K mg base BI) (TI : AllD P w K mg base Cn "inputs" bins) (TO : TabOfD P w K mg base) (TQ : QMk P w K mg base C BT) (F : Fun K "of" "Question.of" (mth 25) f fd) : FnOk P w K mg base (L2.CX P w) 7 f fd ["cls", "many", "yes"] (spF K (ofR C Cn BI)) := by
  refine fn_exc F scOf (fun ds c o h => ?_) (fun cdv A outer s H E hr p ds c o h tk => ?_)
  · obtain ⟨d1, b, xs, rfl, _⟩ := h
    rfl
  · obtain ⟨d1, b, xs, rfl, t1, hb, hx, hfit, rfl⟩ := h
    cases h1 : posD d1 7 with
    | false =>
      rw [if_neg Bool.false_ne_true]
      exact rss_ex (rs_exprX (re_c1D (es' := [.int 6]) tk TC (hr.mono (by decide)) (ra_cons (re_var 1) ra_nil) (fun q H => sixes) ⟨d1, rfl, t1, by rw [h1, if_neg Bool.false_ne_true]⟩))
    | true =>
      rw [if_pos rfl]
      have s0 : RS (cxOf (L2.CX P w) P w K mg base nOf "Question.of" (defScope (mth 25)) f cdv A outer s H E) (fun cls d _ H => E cls d H) p (startR nOf [.cls C, d1, b]) c ((defBody (mth 25)).getD 0 (.Pass ⟨0, 0, 0, 0⟩)) (.nx (startR nOf [.cls C, d1, b]) c) :=
        rs_expr (re_c1D (es' := [.int 6]) (o := .val .non true c) tk TC (hr.mono (by decide)) (ra_cons (re_var 1) ra_nil) (fun q H => sixes) ⟨d1, rfl, t1, by rw [h1, if_pos rfl]⟩)
      obtain ⟨n, rfl, hn⟩ := pos_nat h1
      have hn : n ≤ 6 := by omega
      have p64 := pow_64 hn
      have ri : RI (cxOf (L2.CX P w) P w K mg base nOf "Question.of" (defScope (mth 25)) f cdv A outer s H E) (fun cls d _ H => E cls d H) p (startR nOf [.cls C, .int ((n : Nat) : Int), b]) c (match sOf with | .For t _ _ _ _ => t | _ => .Constant .none 0 ⟨0, 0, 0, 0⟩) (match sOf with | .For _ t _ _ _ => t | _ => .Constant .none 0 ⟨0, 0, 0, 0⟩) xs c := by
        rcases hb with ⟨g, rfl⟩ | rfl
        · exact ri_lst (re_var 2)
        · exact ri_tup (re_var 2)
      let ρs : Nat → Rho := fun i => [some (.cls C), some (.int ((n : Nat) : Int)), some b, none]
      let ρt : Nat → Rho := fun i => [some (.cls C), some (.int ((n : Nat) : Int)), some b, some (xs.getD i .non)]
      have stepE : ∀ (i : Nat) (d : D), xs[i]? = some d → okI n d = true → RSs (cxOf (L2.CX P w) P w K mg base nOf "Question.of" (defScope (mth 25)) f cdv A outer s H E) (fun cls d _ H => E cls d H) p (ρt i) c (match sOf with | .For _ _ b _ _ => b | _ => []) (.nx (ρs (i + 1)) c) := fun i d hd hk => by
        refine rss_less (ρ1 := ρt i) ?_ (.same (.same (.same (.skip .nil))))
        have e : xs.getD i .non = d := by rw [List.getD_eq_getElem?_getD, hd]; rfl
        exact rss_cons (rs_expr (re_c1 (o := .val .non true c) tk TV (hr.mono (by decide)) (ra_cons (re_var 3) (ra_cons (re_var 1) ra_nil)) ⟨d, ((n : Nat) : Int), by rw [e], hfit d (List.mem_of_getElem? hd), by
          show _ = if okI n d = true then _ else _
          rw [hk, if_pos rfl]⟩)) rss_nil
      rcases find_first (fun d => !okI n d) xs with ⟨f1, f2⟩ | ⟨m, d, m1, m2, m3, m4⟩
      · have eb : badI (cntN (.int ((n : Nat) : Int))) xs = none := f1
        rw [eb]
        have hf := rs_for_all (X := cxOf (L2.CX P w) P w K mg base nOf "Question.of" (defScope (mth 25)) f cdv A outer s H E) (W := fun cls d _ H => E cls d H) (p := p) (c := c) (ρ := startR nOf [.cls C, .int ((n : Nat) : Int), b]) (xs := xs) (vs := [3]) (g := gName 3) (body := match sOf with | .For _ _ b _ _ => b | _ => []) (pos := match sOf with | .For _ _ _ _ q => q | _ => ⟨0, 0, 0, 0⟩)
          ρs ρt (fun _ => c) (passes_of rfl) rfl rfl ri (pg_name (i := 3) scOf.nd rfl (Or.inl rfl)) (fun i d hd => by
            have e : xs.getD i .non = d := by rw [List.getD_eq_getElem?_getD, hd]; rfl
            show TgOk _ _ _ _ _ [_, _, _, some (xs.getD i .non)]
            rw [e]
            exact tg_name (by decide)) (fun i d hd => stepE i d hd (by simpa using f2 i d hd))
        refine .inl (rss_cons s0 (rss_cons hf ?_))
        have hstr : ∀ d ∈ xs, d = .str (tx (cds d)) := fun d hd => by
          obtain ⟨i, hi⟩ := List.mem_iff_getElem?.mp hd
          obtain ⟨l, rfl, _⟩ := okI_str (show okI n d = true by simpa using f2 i d hi)
          rw [cds_tx]
        have sc1 : xs.map scD = ((xs.map cds).map fun t => V.str (tx t)).map some := by
          rw [List.map_map, List.map_map]
          refine List.map_congr_left fun d hd => ?_
          conv => lhs; rw [hstr d hd]
          rfl
        have fl1 : ((xs.map cds).map fun t => V.str (tx t)).all flatV = true := by
          rw [List.all_eq_true]
          intro v hv
          obtain ⟨t, _, rfl⟩ := List.mem_map.mp hv
          rfl
        have key : (List.range (wD (insT n)).length).map (fun i => D.bl (decide ((insT n).getD i [] ∈ xs.map cds))) = ((insT n).map fun t => decide (t ∈ xs.map cds)).map D.bl := by
          rw [range_wD (insT n) fun t => D.bl (decide (t ∈ xs.map cds)), List.map_map]
          rfl
        refine rss_ret (rs_ret (re_makeQv tk TQ (hr.mono (by decide)) (re_var 0) (nw := true) (l := ofL n (xs.map cds)) (re_c0 TO (hr.mono (by decide)) (ra_cons (d := .lst ⟨false, true⟩ (((insT n).map fun t => decide (t ∈ xs.map cds)).map D.bl)) (nw := true) ?_ ra_nil) ⟨_, (insT n).map fun t => decide (t ∈ xs.map cds), rfl, by rw [List.length_map, insT_len]; omega, rfl⟩) (ofL_tab _ hn)))
        rw [← key]
        refine re_lcA (own := [("text", 3)]) (g := gName 3) (xs := wD (insT n)) _ (fun _ => c) (fun i => [some (.cls C), some (.int ((n : Nat) : Int)), some b, some (.str (tx ((insT n).getD i [])))]) (fun _ => true) rfl scOf.nd (ri_lst (re_c1 (o := .val (allV bins n) false c) tk TI (hr.mono (by decide)) (ra_cons (re_var 1) ra_nil) ⟨_, rfl, t1, by rw [h1, if_pos rfl]; rfl⟩)) (blkOk_by (N := nOf) (sc := defScope (mth 25)) (by decide +kernel)) (fun _ _ _ _ _ => pg_name (i := 3) scOf.nd rfl (Or.inl rfl)) (fun i d h => ?_) (fun i d h q s H C cl fp => ?_) (by rw [insT_wD]; omega)
        · obtain ⟨rfl, _, _⟩ := wD_at h
          exact tg_name (j := 3) (vs := [3]) (by decide)
        · have ei := inV_strs ((insT n).getD i []) (xs.map cds)
          rcases hb with ⟨g, rfl⟩ | rfl
          · exact re_to (re_cmp op_in_seq (re_var 3) (re_var 2) (ov_inL (neg := false) (v := .str (tx ((insT n).getD i []))) rfl sc1 rfl fl1)) (by rw [if_neg Bool.false_ne_true, ei])
          · exact re_to (re_cmp op_in_seq (re_var 3) (re_var 2) (ov_inT (neg := false) (v := .str (tx ((insT n).getD i []))) rfl sc1 rfl fl1)) (by rw [if_neg Bool.false_ne_true, ei])
      · have eb : badI (cntN (.int ((n : Nat) : Int))) xs = some d := m3
        rw [eb]
        have em : xs.getD m .non = d := by rw [List.getD_eq_getElem?_getD, m1]; rfl
        have hf := rs_forX (X := cxOf (L2.CX P w) P w K mg base nOf "Question.of" (defScope (mth 25)) f cdv A outer s H E) (W := fun cls d _ H => E cls d H) (p := p) (c := c) (c1 := c) (ρ := startR nOf [.cls C, .int ((n : Nat) : Int), b]) (xs := xs) (vs := [3]) (g := gName 3) (body := match sOf with | .For _ _ b _ _ => b | _ => []) (pos := match sOf with | .For _ _ _ _ q => q | _ => ⟨0, 0, 0, 0⟩) (C := BI) (fs := [("given", d)])
          m ρs ρt (fun _ => c) (passes_of rfl) rfl rfl ri (pg_name (i := 3) scOf.nd rfl (Or.inl rfl)) (fun i d hd _ => by
            have e : xs.getD i .non = d := by rw [List.getD_eq_getElem?_getD, hd]; rfl
            show TgOk _ _ _ _ _ [_, _, _, some (xs.getD i .non)]
            rw [e]
            exact tg_name (by decide)) (fun i d hd hi => stepE i d hd (by simpa using m4 i d hi hd)) m1 (rss_ex (rs_exprX (re_c1 tk TV (hr.mono (by decide)) (ra_cons (re_var 3) (ra_cons (re_var 1) ra_nil)) ⟨d, ((n : Nat) : Int), by rw [em], hfit d (List.mem_of_getElem? m1), by
              show _ = if okI n d = true then _ else _
              rw [show okI n d = false by simpa using m2, if_neg Bool.false_ne_true]⟩))) rfl
        exact rss_cons s0 (rss_ex hf)
end
end K35

/-! trees of tuples; three names at once; f-strings; a loop whose turn raises -/
namespace LA
open PySem PySem.Spec PyProof.Rows L2
inductive Tr where
  | leaf (i : Int)
  | node (p : Int) (l r : Tr)
def trD : Tr → D
  | .leaf i => .int i
  | .node p l r => .tup [.int p, trD l, trD r]
def nodes : Tr → Nat
  | .leaf _ => 0
  | .node _ l r => nodes l + nodes r + 1
def okT (n : Int) : Tr → Bool
  | .leaf i => decide (0 ≤ i) && decide (i < 2)
  | .node p l r => (decide (0 ≤ p) && decide (p < n)) && (okT n l && okT n r)
theorem tr_ty (t : Tr) : ∃ y, tyD (trD t) = some y := by
  cases t <;> exact ⟨_, rfl⟩
theorem tr_low (n : Nat) : ∀ t : Tr, lowD n (trD t) = true
  | .leaf _ => rfl
  | .node _ l r => by
    show (true && (lowD n (trD l) && (lowD n (trD r) && true))) = true
    rw [tr_low n l, tr_low n r]
    rfl
section
variable {X : Cx} {W : WX} {p : HD} {ρ ρ1 : Rho} {c c1 c2 c3 : PC} {e a b tg it : Expr} {es : List Expr} {pos apos : Pos} {d d1 d2 d3 : D} {n1 n2 nw : Bool} {o o' : EO} {K : PySem.W.Frag} {body : List Stmt}
theorem tg_three {i j k : Nat} {vs : List Nat} (hi : i ∈ vs) (hj : j ∈ vs) (hk : k ∈ vs) : TgOk K (gTup K 3 (gCons (gName i) (gCons (gName j) (gCons (gName k) gNil)))) vs (.tup [d1, d2, d3]) ρ (((ρ.set i (some d1)).set j (some d2)).set k (some d3)) :=
  ⟨fun q c x σ H Q dv s hp kk => by
    cases dv with
    | tup hq r =>
      cases r with
      | cons h1 r =>
        cases r with
        | cons h2 r =>
          cases r with
          | cons h3 r =>
            cases r
            exact ⟨_, _, rfl, un_sqT hq, rfl, _, _, rfl, _, _, rfl, _, _, rfl, rfl, kk _ (((s.set i h1).set j h2).set k h3) ((wipe_set hk).trans ((wipe_set hj).trans (wipe_set hi)))⟩⟩
/-! ### f-strings -/
theorem re_fmtI {i : Int} (h : RE X W p ρ c e (.val (.int i) nw c1)) (hi : 0 ≤ i ∧ i < 10) : RE X W p ρ c (.FormattedValue e (-1) none pos) (.val (.str (chr1 (48 + i.toNat))) true c1) :=
  pe_imp (pe_fmt h) fun σ H Q ⟨s, k⟩ => ⟨s, fun v H1 e1 p1 dv _ => by
    cases dv
    have et : Str.ofString (toString i) = chr1 (48 + i.toNat) := by
      have : i = 0 ∨ i = 1 ∨ i = 2 ∨ i = 3 ∨ i = 4 ∨ i = 5 ∨ i = 6 ∨ i = 7 ∨ i = 8 ∨ i = 9 := by omega
      rcases this with rfl | rfl | rfl | rfl | rfl | rfl | rfl | rfl | rfl | rfl <;> decide
    have lg : i.natAbs.log2 < 1920 := by
      have : i = 0 ∨ i = 1 ∨ i = 2 ∨ i = 3 ∨ i = 4 ∨ i = 5 ∨ i = 6 ∨ i = 7 ∨ i = 8 ∨ i = 9 := by omega
      rcases this with rfl | rfl | rfl | rfl | rfl | rfl | rfl | rfl | rfl | rfl <;> decide
    have q := k (.str (Str.ofString (toString i))) H1 e1 p1 (by rw [et]; exact .str _) fun _ => New.sc (by intro a h; cases h)
    exact .inr ⟨i, rfl, lg, q⟩⟩
theorem re_fmtS {l : List Nat} (h : RE X W p ρ c e (.val (.str (tx l)) nw c1)) (hl : l.length ≤ 100000) : RE X W p ρ c (.FormattedValue e (-1) none pos) (.val (.str (tx l)) true c1) :=
  pe_imp (pe_fmt h) fun σ H Q ⟨s, k⟩ => ⟨s, fun v H1 e1 p1 dv _ => by
    cases dv
    exact .inl ⟨_, rfl, sz_le (by rw [tx_len]; exact hl), k _ H1 e1 p1 (.str _) fun _ => New.sc (by intro a h; cases h)⟩⟩
inductive RJ (X : Cx) (W : WX) (p : HD) (ρ : Rho) : PC → List Expr → List (List Nat) → PC → Prop
  | nil {c : PC} : RJ X W p ρ c [] [] c
  | cons {c c1 c2 : PC} {e : Expr} {es : List Expr} {l : List Nat} {ls : List (List Nat)} {nw : Bool} : RE X W p ρ c e (.val (.str (tx l)) nw c1) → RJ X W p ρ c1 es ls c2 → RJ X W p ρ c (e :: es) (l :: ls) c2
theorem rj_pj : ∀ {c c' : PC} {es : List Expr} {ls : List (List Nat)}, RJ X W p ρ c es ls c' → ∃ ts, PJ X es ts ∧ ∀ (acc : List Nat) (σ : L2.St) (H : Hp) (Q : Str → Hp → Prop), SR X.K p H σ ρ c → acc.length + ls.flatten.length ≤ 100000 →
    (∀ H', Ext p H H' → PoolAt X.K p H' c' → Q (tx (acc ++ ls.flatten)) H') → tJs ts (tx acc) σ H Q
  | _, _, _, _, .nil => ⟨[], .nil, fun acc σ H Q s hz k => by
    have := k H (Ext.refl p H) s.pl
    rw [List.flatten_nil, List.append_nil] at this
    exact this⟩
  | c, c2, _, _, .cons (c1 := c1) (l := l) (ls := ls) (nw := nw) h r => by
    obtain ⟨ts, pj, run⟩ := rj_pj r
    refine ⟨_ :: ts, .cons h pj, fun acc σ H Q s hz k => ⟨s, fun v H1 e1 p1 dv _ => ?_⟩⟩
    cases dv
    rw [List.flatten_cons, List.length_append] at hz
    refine ⟨tx l, rfl, sz_le (by rw [tx_app, tx_len, List.length_append]; omega), ?_⟩
    rw [tx_app]
    refine run (acc ++ l) σ H1 Q (s.mono e1 p1) (by rw [List.length_append]; omega) fun H' e2 p2 => ?_
    have := k H' (e1.trans e2) p2
    rw [List.flatten_cons, ← List.append_assoc] at this
    exact this
theorem re_js {v1 v2 : Expr} {rest : List Expr} {ls : List (List Nat)} {l : List Nat} (h : RJ X W p ρ c (v1 :: v2 :: rest) ls c1) (hl : ls.flatten = l) (hz : l.length ≤ 100000) : RE X W p ρ c (.JoinedStr (v1 :: v2 :: rest) pos) (.val (.str (tx l)) true c1) := by
  obtain ⟨ts, pj, run⟩ := rj_pj h
  subst hl
  exact pe_imp (pe_joined pj) fun σ H Q ⟨s, k⟩ => run [] σ H _ s (by simpa using hz) fun H' e1 p1 => k _ H' e1 p1 (.str _) fun _ => New.sc (by intro a h; cases h)
end
end LA

namespace LA
open PySem PySem.Spec PyProof.Rows L2
section
variable {X : Cx} {W : WX} {p : HD} {ρ ρ1 : Rho} {c c1 c2 c3 : PC} {e a b tg it : Expr} {es : List Expr} {pos apos ps : Pos} {d d1 d2 d3 : D} {n1 n2 nw : Bool} {C : Addr} {fs : List (Str × D)} {g : TG}
theorem re_callTX {T : String} {x : Str} {r : List V → Hp → VK → Prop} (hc : CallR X (.type T) r) (hm : X.mg x = none) (hv : bootBuiltins x = some (.type T)) (ha : RA X W p ρ c (e :: es) (.ex C fs c1))
    (hg : Gl X x := by rfl) (hn : x ≠ "__name__" := by decide) (hdb : (x == ("__debug__" : Str)) = false := by decide)
    (he : starEach (e :: es) X.env = (false, eval e X.env) :: starEach es X.env := by rfl) (hpl : (backTo pos (starEach es X.env)).any (·.1) = false := by rfl) : RE X W p ρ c (.Call (.Name x ps) (e :: es) [] pos) (.ex C fs c1) :=
  pe_imp (pe_callTy hc hg hm hv ha hn hdb he hpl) fun σ H Q h => h
theorem ra_consX {es : List Expr} (ha : RE X W p ρ c e (.ex C fs c1)) (hs : starEach (e :: es) X.env = (false, eval e X.env) :: starEach es X.env := by rfl) : RA X W p ρ c (e :: es) (.ex C fs c1) :=
  pa_imp (pa_cons ha (⟨fun ps pins s σ H Q I h => h.elim⟩ : PA X es fun _ _ _ => False) hs) fun σ H Q h => h
theorem rs_tgX (he : RE X W p ρ c e (.ex C fs c1)) (hg : PG X tg g) (hs : swapsWithSole [tg] e pos.line X.env = pure false := by rfl) (hw : swappedStores [tg] e X.env = pure none := by rfl)
    (h1 : (assignEach [tg] X.env).map (·.2) = [assign tg X.env] := by rfl) : RS X W p ρ c (.Assign [tg] e pos) (.ex C fs c1) :=
  ps_imp (ps_asg he hg hs hw h1) fun De σ H q => tS_ex q _
end
end LA

namespace K35
open PySem PySem.Spec PyProof.Rows L2 LA
/-! ### numbers, places -/
theorem re_ox {X : Cx} {W : WX} {p : HD} {ρ : Rho} {c : PC} {e : Expr} {o o' : EO} (h : RE X W p ρ c e o) (q : o = o') : RE X W p ρ c e o' := by
  subst q
  exact h
section
variable {P : Program} {w : World} {K : PySem.W.Frag} {mg : Str → Option Value} {base : Heap} {BT BX : Addr}
/-! ### what is a tree -/
def isTupD : D → Bool
  | .tup _ => true
  | _ => false
theorem isi_tup {d : D} {t : String} (h : tyD d = some t) : kitB t "tuple" = some (isTupD d) := by
  cases d <;> first | (cases h; rfl) | cases h
def isT : Nat → Int → D → Bool
  | 0, _, d => posD d 2
  | m + 1, n, .tup xs => match xs with
    | [a, b, c] => posD a n && (isT m n b && isT m n c)
    | _ => false
  | _ + 1, _, d => posD d 2
/-- tuples within tuples at most so deep, and the types of all parts are told -/
def Deep : Nat → D → Prop
  | 0, d => isTupD d = false ∧ Ty d
  | m + 1, .tup xs => ∀ x ∈ xs, Deep m x
  | _ + 1, d => Ty d
theorem deep_ty : ∀ {m : Nat} {d : D}, Deep m d → Ty d
  | 0, _, h => h.2
  | m + 1, d, h => by
    cases d with
    | tup xs => exact ⟨_, rfl⟩
    | _ => exact h
def isTR (m : Nat) : FSpec := fun ds c o => ∃ d n, ds = [d, .int n] ∧ Deep m d ∧ o = .val (.bl (isT m n d)) true c
theorem ok_isT {f : Addr} {fd : FuncData} (G : Glb mg) (TP : PosD P w K mg base) (F : Fun K "_is_tree" "_is_tree" (top 37) f fd) (hm : mg "_is_tree" = some (.ref f)) (hb : Binds K fd ["value", "many"] []) : ∀ m : Nat, FnOk P w K mg base CX0 (m + 3) f fd ["value", "many"] (spF K (isTR m)) := by
  intro m
  induction m with
  | zero =>
    refine fn_val F (N := ["value", "many"]) ⟨rfl, rfl, rfl, by decide +kernel, rfl, by decide +kernel, by decide +kernel⟩ (fun ds c o h => ?_) (fun ds c o h => ?_) (fun cdv A outer s H E hr p ds c o h => ?_)
    · obtain ⟨d, n, rfl, _⟩ := h
      rfl
    · obtain ⟨d, n, _, _, rfl⟩ := h
      exact ⟨_, _, _, rfl⟩
    · obtain ⟨d, n, rfl, ⟨hd, ht⟩, rfl⟩ := h
      obtain ⟨t, ht'⟩ := ht
      exact .inl (rss_ret (rs_if (kb := true) (rt_not (rt_val (re_callB (d := .bl false) call_isi G.isi PyProof.Rows.boot_isinstance (ra_cons (re_var 0) (ra_cons (re_ty G.tuple PyProof.Rows.boot_tuple) ra_nil)) (cv_isi ht' (by rw [isi_tup ht', hd]))))) (fun _ => rss_ret (rs_ret (re_c0 TP hr (ra_cons (re_var 0) (ra_cons re_int ra_nil)) ⟨d, 2, rfl, ⟨t, ht'⟩, rfl⟩))) fun z => nomatch z))
  | succ m ih =>
    have TI : Def0 P w K mg base (m + 3) "_is_tree" ["value", "many"] (isTR m) := ⟨⟨f, fd, ih, hm, F.kp, hb⟩⟩
    refine fn_val F (N := ["value", "many"]) ⟨rfl, rfl, rfl, by decide +kernel, rfl, by decide +kernel, by decide +kernel⟩ (fun ds c o h => ?_) (fun ds c o h => ?_) (fun cdv A outer s H E hr p ds c o h => ?_)
    · obtain ⟨d, n, rfl, _⟩ := h
      rfl
    · obtain ⟨d, n, _, _, rfl⟩ := h
      exact ⟨_, _, _, rfl⟩
    · obtain ⟨d, n, rfl, hd, rfl⟩ := h
      obtain ⟨t, ht'⟩ := deep_ty hd
      have hr2 := hr.mono (show 2 ≤ m + 3 by omega)
      refine .inl ?_
      by_cases hT : isTupD d = true
      · cases d with
        | tup xs =>
          have start : RS (cxOf CX0 P w K mg base ["value", "many"] "_is_tree" (defScope (top 37)) f cdv A outer s H E).nox Wf p (startR ["value", "many"] [.tup xs, .int n]) c ((defBody (top 37)).getD 0 (.Pass ⟨0, 0, 0, 0⟩)) (.nx (startR ["value", "many"] [.tup xs, .int n]) c) :=
            rs_if (kb := false) (rt_not (rt_val (re_callB (d := .bl true) call_isi G.isi PyProof.Rows.boot_isinstance (ra_cons (re_var 0) (ra_cons (re_ty G.tuple PyProof.Rows.boot_tuple) ra_nil)) (cv_isi ht' (by rw [isi_tup ht', hT]))))) (fun z => nomatch z) fun _ => rss_nil
          refine rss_cons start ?_
          have hd' : ∀ x ∈ xs, Deep m x := hd
          match xs, hd' with
          | [a, b, e], hd' =>
            have da := hd' a (by simp)
            have db := hd' b (by simp)
            have de := hd' e (by simp)
            have eT : isT (m + 1) n (.tup [a, b, e]) = (posD a n && (isT m n b && isT m n e)) := rfl
            rw [eT]
            cases hp : posD a n with
            | false =>
              rw [Bool.false_and]
              exact rss_ret (rs_if (kb := true) (RW.rt (rw_or (k1 := false) (k2 := true) (rt_to (rt_cmp op_ne (re_callB call_len G.len PySem.boot_len (ra_cons (re_var 0) ra_nil) cv_lenTup) re_int ov_neI) rfl) fun _ => rw_or1 (rt_not (rt_val (re_c0 (d := .bl false) TP hr2 (ra_cons (re_ix ix_seq (re_var 0) re_int (ov_ixT (j := 0) rfl rfl)) (ra_cons (re_var 1) ra_nil)) ⟨a, n, rfl, deep_ty da, by rw [hp]⟩))))) (fun _ => rss_ret (rs_ret re_bl)) fun z => nomatch z)
            | true =>
              rw [Bool.true_and]
              refine rss_cons (rs_if (kb := false) (RW.rt (rw_or (k1 := false) (k2 := false) (rt_to (rt_cmp op_ne (re_callB call_len G.len PySem.boot_len (ra_cons (re_var 0) ra_nil) cv_lenTup) re_int ov_neI) rfl) fun _ => rw_or1 (rt_not (rt_val (re_c0 (d := .bl true) TP hr2 (ra_cons (re_ix ix_seq (re_var 0) re_int (ov_ixT (j := 0) rfl rfl)) (ra_cons (re_var 1) ra_nil)) ⟨a, n, rfl, deep_ty da, by rw [hp]⟩))))) (fun z => nomatch z) fun _ => rss_nil) ?_
              exact rss_ret (rs_ret (re_and (re_c0 TI hr (ra_cons (re_ix ix_seq (re_var 0) re_int (ov_ixT (j := 1) rfl rfl)) (ra_cons (re_var 1) ra_nil)) ⟨b, n, rfl, db, rfl⟩) fun _ => re_and1 (re_c0 TI hr (ra_cons (re_ix ix_seq (re_var 0) re_int (ov_ixT (j := 2) rfl rfl)) (ra_cons (re_var 1) ra_nil)) ⟨e, n, rfl, de, rfl⟩)))
          | [], _ => exact rss_ret (rs_if (kb := true) (RW.rt (rw_or (k1 := true) (k2 := true) (rt_to (rt_cmp op_ne (re_callB call_len G.len PySem.boot_len (ra_cons (re_var 0) ra_nil) cv_lenTup) re_int ov_neI) rfl) fun z => nomatch z)) (fun _ => rss_ret (rs_ret re_bl)) fun z => nomatch z)
          | [_], _ => exact rss_ret (rs_if (kb := true) (RW.rt (rw_or (k1 := true) (k2 := true) (rt_to (rt_cmp op_ne (re_callB call_len G.len PySem.boot_len (ra_cons (re_var 0) ra_nil) cv_lenTup) re_int ov_neI) rfl) fun z => nomatch z)) (fun _ => rss_ret (rs_ret re_bl)) fun z => nomatch z)
          | [_, _], _ => exact rss_ret (rs_if (kb := true) (RW.rt (rw_or (k1 := true) (k2 := true) (rt_to (rt_cmp op_ne (re_callB call_len G.len PySem.boot_len (ra_cons (re_var 0) ra_nil) cv_lenTup) re_int ov_neI) rfl) fun z => nomatch z)) (fun _ => rss_ret (rs_ret re_bl)) fun z => nomatch z)
          | _ :: _ :: _ :: _ :: r, _ => exact rss_ret (rs_if (kb := true) (RW.rt (rw_or (k1 := true) (k2 := true) (rt_to (rt_cmp op_ne (re_callB call_len G.len PySem.boot_len (ra_cons (re_var 0) ra_nil) cv_lenTup) re_int ov_neI) (by
              rw [decide_eq_false (by simp only [List.length_cons]; omega)]
              rfl)) fun z => nomatch z)) (fun _ => rss_ret (rs_ret re_bl)) fun z => nomatch z)
        | _ => cases hT
      · have hf : isTupD d = false := by simpa using hT
        have e : isT (m + 1) n d = posD d 2 := by
          cases d <;> first | rfl | cases hf
        rw [e]
        exact rss_ret (rs_if (kb := true) (rt_not (rt_val (re_callB (d := .bl false) call_isi G.isi PyProof.Rows.boot_isinstance (ra_cons (re_var 0) (ra_cons (re_ty G.tuple PyProof.Rows.boot_tuple) ra_nil)) (cv_isi ht' (by rw [isi_tup ht', hf]))))) (fun _ => rss_ret (rs_ret (re_c0 TP hr2 (ra_cons (re_var 0) (ra_cons re_int ra_nil)) ⟨d, 2, rfl, ⟨t, ht'⟩, rfl⟩))) fun z => nomatch z)
end
end K35

namespace K35
open PySem PySem.Spec PyProof.Rows L2 LA
/-! ### trees and texts -/
theorem deep_tr : ∀ (m : Nat) (t : Tr), nodes t ≤ m → Deep m (trD t)
  | 0, .leaf i, _ => ⟨rfl, _, rfl⟩
  | 0, .node p l r, h => by
    unfold nodes at h
    omega
  | m + 1, .leaf i, _ => ⟨_, rfl⟩
  | m + 1, .node p l r, h => by
    unfold nodes at h
    intro x hx
    simp only [List.mem_cons, List.not_mem_nil, or_false] at hx
    rcases hx with rfl | rfl | rfl
    · cases m <;> first | exact ⟨rfl, _, rfl⟩ | exact ⟨_, rfl⟩
    · exact deep_tr m l (by omega)
    · exact deep_tr m r (by omega)
theorem isT_tr {n : Int} : ∀ (m : Nat) (t : Tr), nodes t ≤ m → isT m n (trD t) = okT n t
  | 0, .leaf i, _ => rfl
  | 0, .node p l r, h => by
    unfold nodes at h
    omega
  | m + 1, .leaf i, _ => rfl
  | m + 1, .node p l r, h => by
    unfold nodes at h
    show (posD (.int p) n && (isT m n (trD l) && isT m n (trD r))) = ((decide (0 ≤ p) && decide (p < n)) && (okT n l && okT n r))
    rw [isT_tr m l (by omega), isT_tr m r (by omega)]
    rfl
theorem okT_node {n p : Int} {l r : Tr} (h : okT n (.node p l r) = true) : (0 ≤ p ∧ p < n) ∧ okT n l = true ∧ okT n r = true := by
  unfold okT at h
  obtain ⟨h1, h2⟩ := Bool.and_eq_true_iff.mp h
  obtain ⟨h3, h4⟩ := Bool.and_eq_true_iff.mp h1
  obtain ⟨h5, h6⟩ := Bool.and_eq_true_iff.mp h2
  exact ⟨⟨of_decide_eq_true h3, of_decide_eq_true h4⟩, h5, h6⟩
theorem okT_leaf {n i : Int} (h : okT n (.leaf i) = true) : 0 ≤ i ∧ i < 2 := by
  unfold okT at h
  obtain ⟨h3, h4⟩ := Bool.and_eq_true_iff.mp h
  exact ⟨of_decide_eq_true h3, of_decide_eq_true h4⟩
section
variable {P : Program} {w : World} {K : PySem.W.Frag} {mg : Str → Option Value} {base : Heap} {BT BX : Addr}
def ckR (BT : Addr) : FSpec := fun ds c o => ∃ d n, ds = [d, .int n] ∧ Deep 40 d ∧ o = if isT 40 n d then .val .non true c else .ex BT [("given", d)] c
theorem ok_ck {f : Addr} {fd : FuncData} (T : Def0 P w K mg base 43 "_is_tree" ["value", "many"] (isTR 40)) (Er : Err1 P w K mg base "BadTree" "given" BT) (F : Fun K "check_tree" "check_tree" (top 36) f fd) : FnOk P w K mg base (L2.CX P w) 44 f fd ["tree", "many"] (spF K (ckR BT)) := by
  refine fn_exc F (N := ["tree", "many"]) ⟨rfl, rfl, rfl, by decide +kernel, rfl, by decide +kernel, by decide +kernel⟩ (fun ds c o h => ?_) (fun cdv A outer s H E hr p ds c o h tk => ?_)
  · obtain ⟨d, n, rfl, _⟩ := h
    rfl
  · obtain ⟨d, n, rfl, hd, rfl⟩ := h
    cases h : isT 40 n d with
    | true =>
      rw [if_pos rfl]
      exact .inr ⟨rfl, _, rss_cons (rs_if (kb := false) (rt_not (rt_val (re_c0 (d := .bl true) T hr (ra_cons (re_var 0) (ra_cons (re_var 1) ra_nil)) ⟨d, n, rfl, hd, by rw [h]⟩))) (fun z => nomatch z) fun _ => rss_nil) rss_nil⟩
    | false =>
      rw [if_neg Bool.false_ne_true]
      exact rss_ex (rs_if (kb := true) (rt_not (rt_val (re_c0 (d := .bl false) T hr (ra_cons (re_var 0) (ra_cons (re_var 1) ra_nil)) ⟨d, n, rfl, hd, by rw [h]⟩))) (fun _ => rss_ex (rs_raiseG rfl tk Er (hr.mono (by decide)) (re_var 0))) fun z => nomatch z)
abbrev CkD (P : Program) (w : World) (K : PySem.W.Frag) (mg : Str → Option Value) (base : Heap) (BT : Addr) := Def1 P w K mg base 44 "check_tree" ["tree", "many"] (ckR BT)
/-! ### reading -/
end
end K35

/-! trimmed trees: the mathematics of k36 (no program in it) -/
namespace K36
open LA
def eqT : Tr → Tr → Bool
  | .leaf i, .leaf j => decide (i = j)
  | .node p l r, .node q a b => decide (p = q) && (eqT l a && eqT r b)
  | _, _ => false
theorem eqT_iff : ∀ (s t : Tr), eqT s t = true ↔ s = t
  | .leaf i, .leaf j => by
    unfold eqT
    rw [decide_eq_true_iff]
    exact ⟨fun h => by rw [h], fun h => by cases h; rfl⟩
  | .leaf _, .node _ _ _ => ⟨(fun h => by cases h), (fun h => by cases h)⟩
  | .node _ _ _, .leaf _ => ⟨(fun h => by cases h), (fun h => by cases h)⟩
  | .node p l r, .node q a b => by
    unfold eqT
    rw [Bool.and_eq_true_iff, Bool.and_eq_true_iff, decide_eq_true_iff, eqT_iff l a, eqT_iff r b]
    exact ⟨fun ⟨h1, h2, h3⟩ => by rw [h1, h2, h3], fun h => by cases h; exact ⟨rfl, rfl, rfl⟩⟩
theorem eqT_self (t : Tr) : eqT t t = true := (eqT_iff t t).mpr rfl
theorem eqT_no {s t : Tr} (h : s ≠ t) : eqT s t = false := by
  cases e : eqT s t with
  | false => rfl
  | true => exact absurd ((eqT_iff s t).mp e) h
/-- the known bits: 45 where nothing is known -/
def kn (m : List Nat) (p : Int) : Nat := m.getD p.toNat 45
def nw (m : List Nat) (p : Int) (c : Nat) : List Nat := m.set p.toNat c
/-- looks that were made further up are left out -/
def fst : Tr → List Nat → Tr
  | .leaf i, _ => .leaf i
  | .node p l r, m => if kn m p = 45 then .node p (fst l (nw m p 48)) (fst r (nw m p 49)) else if kn m p = 48 then fst l m else fst r m
/-- from the leaves up: equal branches become one -/
def jn : Tr → Tr
  | .leaf i => .leaf i
  | .node p l r => if eqT (jn l) (jn r) then jn l else .node p (jn l) (jn r)
/-- as the program does it -/
def trm : Tr → List Nat → Tr
  | .leaf i, _ => .leaf i
  | .node p l r, m => if kn m p = 45 then (if eqT (trm l (nw m p 48)) (trm r (nw m p 49)) then trm l (nw m p 48) else .node p (trm l (nw m p 48)) (trm r (nw m p 49))) else if kn m p = 48 then trm l m else trm r m
theorem trm_is : ∀ (t : Tr) (m : List Nat), trm t m = jn (fst t m)
  | .leaf i, _ => rfl
  | .node p l r, m => by
    unfold trm fst
    by_cases h : kn m p = 45
    · rw [if_pos h, if_pos h, trm_is l, trm_is r]
      rfl
    · rw [if_neg h, if_neg h]
      by_cases h2 : kn m p = 48
      · rw [if_pos h2, if_pos h2, trm_is l]
      · rw [if_neg h2, if_neg h2, trm_is r]
/-- one round of the law -/
def rnd : Tr → Tr
  | .leaf i => .leaf i
  | .node p l r => if eqT l r then rnd l else .node p (rnd l) (rnd r)
def rnds : Nat → Tr → Tr
  | 0, t => t
  | n + 1, t => rnd (rnds n t)
theorem rnds_leaf (n : Nat) (i : Int) : rnds n (.leaf i) = .leaf i := by
  induction n with
  | zero => rfl
  | succ n ih =>
    unfold rnds
    rw [ih]
    rfl
theorem rnds_node (p : Int) (l r : Tr) : ∀ n, rnds (n + 1) (.node p l r) = if eqT (rnds n l) (rnds n r) then rnds (n + 1) l else .node p (rnds (n + 1) l) (rnds (n + 1) r)
  | 0 => rfl
  | n + 1 => by
    show rnd (rnds (n + 1) (.node p l r)) = _
    rw [rnds_node p l r n]
    cases h : eqT (rnds n l) (rnds n r) with
    | true =>
      have e := (eqT_iff _ _).mp h
      have e2 : rnds (n + 1) l = rnds (n + 1) r := by
        show rnd _ = rnd _
        rw [e]
      rw [if_pos rfl, e2, eqT_self, if_pos rfl]
      show rnd (rnds (n + 1) r) = rnd (rnds (n + 1) l)
      rw [e2]
    | false =>
      rw [if_neg Bool.false_ne_true]
      rfl
def dep : Tr → Nat
  | .leaf _ => 0
  | .node _ l r => max (dep l) (dep r) + 1
/-- enough rounds do what is done from the leaves up -/
theorem rnds_jn : ∀ (t : Tr) (n : Nat), dep t ≤ n → rnds n t = jn t
  | .leaf i, n, _ => rnds_leaf n i
  | .node p l r, n, h => by
    unfold dep at h
    obtain ⟨k, rfl⟩ : ∃ k, n = k + 1 := ⟨n - 1, by omega⟩
    rw [rnds_node, rnds_jn l k (by omega), rnds_jn r k (by omega), rnds_jn l (k + 1) (by omega), rnds_jn r (k + 1) (by omega)]
    rfl
/-- no position twice on a way, none that is known -/
def free : Tr → List Nat → Prop
  | .leaf _, _ => True
  | .node p l r, m => kn m p = 45 ∧ p.toNat < m.length ∧ free l (nw m p 48) ∧ free r (nw m p 49)
theorem kn_nw {m : List Nat} {p q : Int} {c : Nat} : kn (nw m p c) q = if p.toNat = q.toNat ∧ p.toNat < m.length then c else kn m q := by
  unfold kn nw
  rw [List.getD_eq_getElem?_getD, List.getD_eq_getElem?_getD, List.getElem?_set]
  by_cases h : p.toNat = q.toNat
  · rw [if_pos h]
    by_cases h2 : p.toNat < m.length
    · rw [if_pos h2, if_pos ⟨h, h2⟩]
      rfl
    · rw [if_neg h2, if_neg (fun z => h2 z.2), ← h, List.getElem?_eq_none (by omega)]
  · rw [if_neg h, if_neg (fun z => h z.1)]
theorem nw_len {m : List Nat} {p : Int} {c : Nat} : (nw m p c).length = m.length := by unfold nw; rw [List.length_set]
/-- where less is known, what is free stays free -/
theorem free_up : ∀ (t : Tr) {m m' : List Nat}, m'.length = m.length → (∀ q, kn m' q = 45 → kn m q = 45) → free t m' → free t m
  | .leaf _, _, _, _, _, _ => trivial
  | .node p l r, m, m', hl, hk, ⟨h1, h2, h3, h4⟩ => by
    refine ⟨hk p h1, by omega, free_up l (by rw [nw_len, nw_len]; exact hl) (fun q hq => ?_) h3, free_up r (by rw [nw_len, nw_len]; exact hl) (fun q hq => ?_) h4⟩
    · rw [kn_nw] at hq ⊢
      split at hq
      · cases hq
      · rename_i h
        rw [if_neg (by rw [hl] at h; exact h)]
        exact hk q hq
    · rw [kn_nw] at hq ⊢
      split at hq
      · cases hq
      · rename_i h
        rw [if_neg (by rw [hl] at h; exact h)]
        exact hk q hq
theorem free_nw {t : Tr} {m : List Nat} {p : Int} {c : Nat} (hc : c ≠ 45) (h : free t (nw m p c)) : free t m :=
  free_up t nw_len (fun q hq => by
    rw [kn_nw] at hq
    split at hq
    · exact absurd hq hc
    · exact hq) h
/-- positions below the number of bits -/
def inn (n : Nat) : Tr → Prop
  | .leaf _ => True
  | .node p l r => p.toNat < n ∧ inn n l ∧ inn n r
theorem free_fst : ∀ (t : Tr) (m : List Nat), inn m.length t → free (fst t m) m
  | .leaf _, _, _ => trivial
  | .node p l r, m, ⟨h1, h2, h3⟩ => by
    unfold fst
    by_cases h : kn m p = 45
    · rw [if_pos h]
      exact ⟨h, h1, free_fst l _ (by rw [nw_len]; exact h2), free_fst r _ (by rw [nw_len]; exact h3)⟩
    · rw [if_neg h]
      split
      · exact free_fst l m h2
      · exact free_fst r m h3
theorem fst_free : ∀ (t : Tr) (m : List Nat), free t m → fst t m = t
  | .leaf _, _, _ => rfl
  | .node p l r, m, ⟨h1, _, h3, h4⟩ => by
    unfold fst
    rw [if_pos h1, fst_free l _ h3, fst_free r _ h4]
theorem free_jn : ∀ (t : Tr) (m : List Nat), free t m → free (jn t) m
  | .leaf _, _, _ => trivial
  | .node p l r, m, ⟨h1, h2, h3, h4⟩ => by
    unfold jn
    have a := free_jn l _ h3
    have b := free_jn r _ h4
    split
    · exact free_nw (by decide) a
    · exact ⟨h1, h2, a, b⟩
theorem jn_jn : ∀ t : Tr, jn (jn t) = jn t
  | .leaf _ => rfl
  | .node p l r => by
    have e : jn (.node p l r) = if eqT (jn l) (jn r) then jn l else .node p (jn l) (jn r) := rfl
    rw [e]
    cases h : eqT (jn l) (jn r) with
    | true =>
      rw [if_pos rfl]
      exact jn_jn l
    | false =>
      rw [if_neg Bool.false_ne_true]
      show (if eqT (jn (jn l)) (jn (jn r)) then jn (jn l) else .node p (jn (jn l)) (jn (jn r))) = _
      rw [jn_jn l, jn_jn r, h, if_neg Bool.false_ne_true]
/-- trimmed again it stays -/
theorem trm_trm (t : Tr) (m : List Nat) (h : inn m.length t) : trm (trm t m) m = trm t m := by
  rw [trm_is t m, trm_is, fst_free _ _ (free_jn _ _ (free_fst t m h)), jn_jn]
/-- a position that was met -/
def tw (met : List Int) : Tr → Bool
  | .leaf _ => false
  | .node p l r => decide (p ∈ met) || (tw (met ++ [p]) l || tw (met ++ [p]) r)
theorem tw_free : ∀ (t : Tr) (m : List Nat) (met : List Int), free t m → (∀ q ∈ met, kn m q ≠ 45) → tw met t = false
  | .leaf _, _, _, _, _ => rfl
  | .node p l r, m, met, ⟨h1, h2, h3, h4⟩, hm => by
    have key : ∀ c, c ≠ 45 → ∀ q ∈ met ++ [p], kn (nw m p c) q ≠ 45 := fun c hc q hq => by
      rw [kn_nw]
      split
      · exact hc
      · rename_i h
        rcases List.mem_append.mp hq with hq | hq
        · exact hm q hq
        · rw [List.mem_singleton.mp hq] at h
          exact absurd ⟨rfl, h2⟩ h
    unfold tw
    rw [decide_eq_false (fun z => hm p z h1), tw_free l _ _ h3 (key 48 (by decide)), tw_free r _ _ h4 (key 49 (by decide))]
    rfl
theorem dep_jn : ∀ t : Tr, dep (jn t) ≤ dep t
  | .leaf _ => Nat.le_refl _
  | .node p l r => by
    have a := dep_jn l
    have b := dep_jn r
    unfold jn
    split
    · show dep (jn l) ≤ max (dep l) (dep r) + 1
      omega
    · show max (dep (jn l)) (dep (jn r)) + 1 ≤ max (dep l) (dep r) + 1
      omega
theorem dep_fst : ∀ (t : Tr) (m : List Nat), dep (fst t m) ≤ dep t
  | .leaf _, _ => Nat.le_refl _
  | .node p l r, m => by
    have a := dep_fst l m
    have b := dep_fst r m
    have c := dep_fst l (nw m p 48)
    have d := dep_fst r (nw m p 49)
    unfold fst
    split
    · show max _ _ + 1 ≤ max (dep l) (dep r) + 1
      omega
    · show _ ≤ max (dep l) (dep r) + 1
      split <;> omega
theorem count_nw {m : List Nat} {p : Int} {c : Nat} (h : kn m p = 45) (hl : p.toNat < m.length) (hc : c ≠ 45) : (nw m p c).count 45 + 1 = m.count 45 := by
  unfold nw
  have e : m[p.toNat]'hl = 45 := by
    unfold kn at h
    rw [List.getD_eq_getElem?_getD, List.getElem?_eq_getElem hl] at h
    exact h
  rw [List.count_set hl, e]
  have : 0 < m.count 45 := List.count_pos_iff.mpr (by rw [← e]; exact List.getElem_mem hl)
  simp [hc]
  omega
/-- no way is longer than what is not known -/
theorem dep_free : ∀ (t : Tr) (m : List Nat), free t m → dep t ≤ m.count 45
  | .leaf _, _, _ => Nat.zero_le _
  | .node p l r, m, ⟨h1, h2, h3, h4⟩ => by
    have a := dep_free l _ h3
    have b := dep_free r _ h4
    have c := count_nw (c := 48) h1 h2 (by decide)
    have d := count_nw (c := 49) h1 h2 (by decide)
    show max (dep l) (dep r) + 1 ≤ _
    omega
/-- the answer at an input -/
def ev (w : List Nat) : Tr → Int
  | .leaf i => i
  | .node p l r => if w.getD p.toNat 0 = 48 then ev w l else ev w r
theorem ev_jn (w : List Nat) : ∀ t : Tr, ev w (jn t) = ev w t
  | .leaf _ => rfl
  | .node p l r => by
    have a := ev_jn w l
    have b := ev_jn w r
    unfold jn
    cases h : eqT (jn l) (jn r) with
    | true =>
      have e := (eqT_iff _ _).mp h
      rw [if_pos rfl]
      show _ = if _ then ev w l else ev w r
      split
      · exact a
      · rw [e]
        exact b
    | false =>
      rw [if_neg Bool.false_ne_true]
      show (if _ then ev w (jn l) else ev w (jn r)) = if _ then ev w l else ev w r
      rw [a, b]
def fits (m w : List Nat) : Prop := ∀ q : Int, kn m q = 45 ∨ kn m q = w.getD q.toNat 0
theorem ev_fst (w : List Nat) (hw : ∀ i, i < w.length → w.getD i 0 = 48 ∨ w.getD i 0 = 49) : ∀ (t : Tr) (m : List Nat), m.length = w.length → inn m.length t → fits m w → ev w (fst t m) = ev w t
  | .leaf _, _, _, _, _ => rfl
  | .node p l r, m, hl, ⟨h1, h2, h3⟩, hf => by
    have fn : ∀ c, c = w.getD p.toNat 0 → fits (nw m p c) w := fun c hc q => by
      rw [kn_nw]
      split
      · rename_i h
        exact .inr (by rw [hc, h.1])
      · exact hf q
    have b := hw p.toNat (by omega)
    unfold fst
    by_cases h : kn m p = 45
    · rw [if_pos h]
      show (if w.getD p.toNat 0 = 48 then ev w (fst l (nw m p 48)) else ev w (fst r (nw m p 49))) = if w.getD p.toNat 0 = 48 then ev w l else ev w r
      by_cases h4 : w.getD p.toNat 0 = 48
      · rw [if_pos h4, if_pos h4]
        exact ev_fst w hw l _ (by rw [nw_len]; exact hl) (by rw [nw_len]; exact h2) (fn 48 h4.symm)
      · rw [if_neg h4, if_neg h4]
        exact ev_fst w hw r _ (by rw [nw_len]; exact hl) (by rw [nw_len]; exact h3) (fn 49 (by omega))
    · rw [if_neg h]
      have e : kn m p = w.getD p.toNat 0 := (hf p).resolve_left h
      show _ = if w.getD p.toNat 0 = 48 then ev w l else ev w r
      by_cases h4 : w.getD p.toNat 0 = 48
      · rw [if_pos (by rw [e]; exact h4), if_pos h4]
        exact ev_fst w hw l m hl h2 hf
      · rw [if_neg (by rw [e]; exact h4), if_neg h4]
        exact ev_fst w hw r m hl h3 hf
end K36

namespace K35
open PySem PySem.Spec PyProof.Rows L2 LA
open K36 (ev dep kn nw)
/-! ### depth, two branches, a trimmed tree -/
def depR (m : Nat) : FSpec := fun ds c o => ∃ t, ds = [trD t] ∧ nodes t ≤ m ∧ o = .val (.int ((dep t : Nat) : Int)) true c
def repR : FSpec := fun ds c o => ∃ (l : List Nat) (p : Int) (ch : Nat), ds = [.str (tx l), .int p, .str (chr1 ch)] ∧ 0 ≤ p ∧ p.toNat < l.length ∧ l.length ≤ 1000 ∧ o = .val (.str (tx (nw l p ch))) true c
def brR : FSpec := fun ds c o => ∃ (l : List Nat) (p : Int), ds = [.str (tx l), .int p] ∧ 0 ≤ p ∧ p.toNat < l.length ∧ l.length ≤ 1000 ∧ o = .val (.tup [.str (tx (nw l p 48)), .str (tx (nw l p 49))]) true c
section
variable {P : Program} {w : World} {K : PySem.W.Frag} {mg : Str → Option Value} {base : Heap} {BT : Addr}
abbrev nDep : List Str := ["tree", "_", "low", "high"]
theorem scDep : FnScope nDep ["tree"] (defScope (top 41)) := ⟨rfl, rfl, rfl, by decide +kernel, rfl, by decide +kernel, by decide +kernel⟩
theorem ok_dep {f : Addr} {fd : FuncData} (G : Glb mg) (F : Fun K "_depth" "_depth" (top 41) f fd) (hm : mg "_depth" = some (.ref f)) (hb : Binds K fd ["tree"] []) : ∀ m : Nat, FnOk P w K mg base CX0 (m + 1) f fd ["tree"] (spF K (depR m)) := by
  have leafy : ∀ (m : Nat) (i : Int) (cdv : Value) (A : Around) (outer : List Env) (s : Shared) (H : Hp) (E : XK) (p : HD) (c : PC), RSs (cxOf CX0 P w K mg base nDep "_depth" (defScope (top 41)) f cdv A outer s H E).nox Wf p (startR nDep [trD (.leaf i)]) c (defBody (top 41)) (.rt (.int ((dep (.leaf i) : Nat) : Int)) true c) := fun m i cdv A outer s H E p c =>
    rss_ret (rs_if (kb := true) (rt_not (rt_val (re_callB (d := .bl false) call_isi G.isi PyProof.Rows.boot_isinstance (ra_cons (re_var 0) (ra_cons (re_ty G.tuple PyProof.Rows.boot_tuple) ra_nil)) (cv_isi (t := "int") rfl rfl)))) (fun _ => rss_ret (rs_ret re_int)) fun z => nomatch z)
  intro m
  induction m with
  | zero =>
    refine fn_val F scDep (fun ds c o h => ?_) (fun ds c o h => ?_) (fun cdv A outer s H E hr p ds c o h => ?_)
    · obtain ⟨t, rfl, _⟩ := h
      rfl
    · obtain ⟨t, _, _, rfl⟩ := h
      exact ⟨_, _, _, rfl⟩
    · obtain ⟨t, rfl, hn, rfl⟩ := h
      cases t with
      | node p l r =>
        unfold nodes at hn
        omega
      | leaf i => exact .inl (leafy 0 i cdv A outer s H E p c)
  | succ m ih =>
    have TI : Def0 P w K mg base (m + 1) "_depth" ["tree"] (depR m) := ⟨⟨f, fd, ih, hm, F.kp, hb⟩⟩
    refine fn_val F scDep (fun ds c o h => ?_) (fun ds c o h => ?_) (fun cdv A outer s H E hr p ds c o h => ?_)
    · obtain ⟨t, rfl, _⟩ := h
      rfl
    · obtain ⟨t, _, _, rfl⟩ := h
      exact ⟨_, _, _, rfl⟩
    · obtain ⟨t, rfl, hn, rfl⟩ := h
      cases t with
      | leaf i => exact .inl (leafy 0 i cdv A outer s H E p c)
      | node k l r =>
        unfold nodes at hn
        refine .inl (rss_cons (rs_if (kb := false) (rt_not (rt_val (re_callB (d := .bl true) call_isi G.isi PyProof.Rows.boot_isinstance (ra_cons (re_var 0) (ra_cons (re_ty G.tuple PyProof.Rows.boot_tuple) ra_nil)) (cv_isi (t := "tuple") rfl rfl)))) (fun z => nomatch z) fun _ => rss_nil) ?_)
        refine rss_cons (c1 := c) (ρ1 := [some (trD (.node k l r)), some (.int k), some (trD l), some (trD r)]) (rs_tg (re_var 0) (pg_tup rfl (pgs_cons (pg_name (i := 1) scDep.nd rfl (Or.inl rfl)) (pgs_cons (pg_name (i := 2) scDep.nd rfl (Or.inl rfl)) (pgs_cons (pg_name (i := 3) scDep.nd rfl (Or.inl rfl)) pgs_nil)))) (tg_three (vs := [1, 2, 3]) (by decide) (by decide) (by decide))) ?_
        have e : (1 : Int) + (if ((dep l : Nat) : Int) < ((dep r : Nat) : Int) then ((dep r : Nat) : Int) else ((dep l : Nat) : Int)) = ((dep (.node k l r) : Nat) : Int) := by
          show _ = ((max (dep l) (dep r) + 1 : Nat) : Int)
          split <;> omega
        exact rss_ret (rs_ret (re_to (re_bin op_add re_int (re_callB (call_max2 rfl) G.max PyProof.Rows.boot_max (ra_cons (re_c0 TI hr (ra_cons (re_var 2) ra_nil) ⟨l, rfl, by omega, rfl⟩) (ra_cons (re_c0 TI hr (ra_cons (re_var 3) ra_nil) ⟨r, rfl, by omega, rfl⟩) ra_nil)) cv_max2) ov_ii) (congrArg D.int e)))
theorem scRep : FnScope ["pattern", "position", "letter"] ["pattern", "position", "letter"] (defScope (top 20)) := ⟨rfl, rfl, rfl, by decide +kernel, rfl, by decide +kernel, by decide +kernel⟩
theorem ok_rep {f : Addr} {fd : FuncData} (F : Fun K "_replaced" "_replaced" (top 20) f fd) : FnOk P w K mg base CX0 1 f fd ["pattern", "position", "letter"] (spF K repR) := by
  refine fn_val F scRep (fun ds c o h => ?_) (fun ds c o h => ?_) (fun cdv A outer s H E hr p ds c o h => ?_)
  · obtain ⟨l, p, ch, rfl, _⟩ := h
    rfl
  · obtain ⟨l, p, ch, _, _, _, _, rfl⟩ := h
    exact ⟨_, _, _, rfl⟩
  · obtain ⟨l, pp, ch, rfl, h0, hl, hz, rfl⟩ := h
    have zt : (tx l).length ≤ sizeLine := sz_le (by rw [tx_len]; omega)
    obtain ⟨n, rfl⟩ : ∃ n : Nat, pp = ((n : Nat) : Int) := ⟨pp.toNat, (Int.toNat_of_nonneg h0).symm⟩
    have hl : n < l.length := hl
    have e : tx (nw l ((n : Nat) : Int) ch) = tx (l.take n) ++ chr1 ch ++ tx (l.drop (n + 1)) := by
      rw [show chr1 ch = tx [ch] from rfl, tx_app, tx_app]
      congr 1
      exact (set_cut hl).symm
    rw [e]
    refine .inl (rss_ret (rs_ret (re_bin (n2 := true) op_add_str (re_bin (n1 := true) op_add_str (re_to (re_slS (re_var 0) rp_none (rp_some (W := Wf) (re_var 1)) zt) (congrArg D.str (cut_lo (by omega)))) (re_var 2) (ov_addS ?_)) (re_to (re_slS (re_var 0) (rp_some (W := Wf) (nw := true) (re_to (re_bin op_add (re_var 1) re_int ov_ii) (d' := .int ((n + 1 : Nat) : Int)) (congrArg D.int (by omega)))) rp_none zt) (congrArg D.str (cut_hi (by omega)))) (ov_addS ?_))))
    · rw [tx_len, List.length_take]
      show min _ _ + 1 ≤ _
      exact sz_le (by omega)
    · rw [show chr1 ch = tx [ch] from rfl, tx_app, tx_len, tx_len, List.length_append, List.length_take, List.length_drop]
      show min _ _ + 1 + _ ≤ _
      exact sz_le (by omega)
abbrev RepD (P : Program) (w : World) (K : PySem.W.Frag) (mg : Str → Option Value) (base : Heap) := Def0 P w K mg base 1 "_replaced" ["pattern", "position", "letter"] repR
theorem scBr : FnScope ["pattern", "position"] ["pattern", "position"] (defScope (top 16)) := ⟨rfl, rfl, rfl, by decide +kernel, rfl, by decide +kernel, by decide +kernel⟩
theorem ok_br {f : Addr} {fd : FuncData} (T : RepD P w K mg base) (F : Fun K "branches" "branches" (top 16) f fd) : FnOk P w K mg base CX0 2 f fd ["pattern", "position"] (spF K brR) := by
  refine fn_val F scBr (fun ds c o h => ?_) (fun ds c o h => ?_) (fun cdv A outer s H E hr p ds c o h => ?_)
  · obtain ⟨l, p, rfl, _⟩ := h
    rfl
  · obtain ⟨l, p, _, _, _, _, rfl⟩ := h
    exact ⟨_, _, _, rfl⟩
  · obtain ⟨l, pp, rfl, h0, hl, hz, rfl⟩ := h
    exact .inl (rss_ret (rs_ret (re_tup (ra_cons (re_c0 T hr (ra_cons (re_var 0) (ra_cons (re_var 1) (ra_cons re_str ra_nil))) ⟨l, pp, 48, rfl, h0, hl, hz, rfl⟩) (ra_cons (re_c0 T hr (ra_cons (re_var 0) (ra_cons (re_var 1) (ra_cons re_str ra_nil))) ⟨l, pp, 49, rfl, h0, hl, hz, rfl⟩) ra_nil)) (by show 2 ≤ 100000; decide))))
abbrev BrD (P : Program) (w : World) (K : PySem.W.Frag) (mg : Str → Option Value) (base : Heap) := Def0 P w K mg base 2 "branches" ["pattern", "position"] brR
end
end K35

/-! a statement, a block that leaves a new list out of sight; its return, as new -/
namespace LA
open PySem PySem.Spec PyProof.Rows L2
section
variable {X : Cx} {W : WX} {p : HD} {as : List Addr} {ρ ρ1 ρ2 ρ' : Rho} {c c1 c2 c' cc : PC} {e t : Expr} {st st1 st2 : Stmt} {A B sts rest : List Stmt} {pos pos' : Pos} {g : G} {ds : List D} {so : SO} {x : Str}
/-- it ends with a new list out of sight -/
def tM (K : PySem.W.Frag) (p : HD) (ρ : Rho) (c : PC) (ρ1 : Rho) (cc : PC) : TS := fun De σ H => SR K p H σ ρ c ∧ ∀ a σ' H', (H a = none ∧ a ∉ p.m) → Ext p H H' → SR K (p.mut a) H' σ' ρ1 cc → De.nx σ' H'
theorem rm_one (i : Nat) (h : RN X p ρ c st i (.lst g ds) c1) (hds : lowDs 0 ds = true) : PS X st (tM X.K p ρ c (ρ.set i (some (.mut c1.length))) (c1 ++ [.lst ds])) :=
  ps_imp h fun De σ H ⟨s, k⟩ => ⟨s, fun v H1 e2 p1 dv hn => by
    cases dv with
    | @lst a vs _ _ hb hq r =>
      obtain ⟨⟨nA, nm⟩, pa, hc⟩ := hn a rfl
      obtain ⟨vs', hv, dvs⟩ := hc _ _ rfl
      exact k a _ _ ⟨nA, nm⟩ e2 (s.in' nA nm e2 pa hv dvs hds)⟩
theorem none_back {H H1 : Hp} {a : Addr} (e1 : Ext p H H1) (na : H1 a = none ∧ a ∉ p.m) : H a = none ∧ a ∉ p.m := by
  refine ⟨?_, na.2⟩
  cases q0 : H a with
  | none => rfl
  | some o =>
    have := e1 a o na.2 q0
    rw [na.1] at this
    cases this
theorem rm_cons (h1 : RS X W p ρ c st (.nx ρ' c')) (h2 : PSs X rest (tM X.K p ρ' c' ρ1 cc)) : PSs X (st :: rest) (tM X.K p ρ c ρ1 cc) :=
  pss_imp (pss_cons h1 h2) fun De σ H ⟨s, k⟩ => ⟨s, fun σ1 H1 e1 s1 => ⟨s1, fun a σ2 H2 na e2 s2 => k a σ2 H2 (none_back e1 na) (e1.trans e2) s2⟩⟩
theorem rm_last (h1 : PS X st (tM X.K p ρ c ρ1 cc)) : PSs X [st] (tM X.K p ρ c ρ1 cc) := pss_one h1
/-- one more statement behind it -/
theorem rm_more (h1 : PS X st1 (tM X.K p ρ c ρ1 cc)) (h2 : ∀ a, RS X W (p.mut a) ρ1 cc st2 (.nx ρ2 c2)) : PSs X [st1, st2] (tM X.K p ρ c ρ2 c2) := by
  have PU : PSs X [st2] (fun De σ H => ∃ a, tSt X.K W (p.mut a) ρ1 cc (.nx ρ2 c2) De σ H) := ⟨fun pins s σ H De I ⟨a, q⟩ => (pss_one (h2 a)).run pins s σ H De I q⟩
  refine pss_imp (pss_cons h1 PU) fun De σ H ⟨s, k⟩ => ⟨s, fun a σ1 H1 na e1 s1 => ⟨a, s1, fun σ2 H2 e2 s2 => k a σ2 H2 na ?_ s2⟩⟩
  exact fun b o n q => e2 b o (fun z => by
    rcases List.mem_append.mp z with z | z
    · exact n z
    · rw [List.mem_singleton.mp z, na.1] at q
      cases q) (e1 b o n q)
theorem rm_if (ht : RT X W p ρ c t (.val true c1)) (h : PSs X A (tM X.K p ρ c1 ρ1 cc)) : PS X (.If t A B pos) (tM X.K p ρ c ρ1 cc) :=
  ps_imp (ps_if ht h pss_never) fun De σ H ⟨s, k⟩ => ⟨s, fun H1 e1 p1 => ⟨s.mono e1 p1, fun a σ2 H2 na e2 s2 => k a σ2 H2 (none_back e1 na) (e1.trans e2) s2⟩⟩
theorem rso_m (h : PS X st (tM X.K (p.muts as) ρ c ρ1 cc)) (hl1 : ρ1.length = ρ.length) (hr : ∀ a, RSo X W p (a :: as) ρ1 cc rest so) : RSo X W p as ρ c (st :: rest) so := by
  have PU : PSs X rest (fun De σ H => ∃ a, tSo X.K W p (a :: as) ρ1 cc so De σ H) := ⟨fun pins s σ H De I ⟨a, h2⟩ => (hr a).run pins s σ H De I h2⟩
  refine pss_imp (pss_cons h PU) fun De σ H ⟨H0, σ0, ρ0, c0, na, e1, q, hl, s⟩ => ⟨s, fun a σ1 H1 nA e2 s1 => ?_⟩
  have n0 : H0 a = none ∧ a ∉ p.m := by
    have nmp : a ∉ p.m := fun z => nA.2 (by
      have key : ∀ (as : List Addr), a ∈ (p.muts as).m := fun as => by
        induction as with
        | nil => exact z
        | cons b r ih => exact List.mem_append.mpr (.inl ih)
      exact key as)
    refine ⟨?_, nmp⟩
    cases q0 : H0 a with
    | none => rfl
    | some o =>
      rw [e1 a o nmp q0] at nA
      cases nA.1
  exact ⟨a, H0, σ0, ρ0, c0, fun b m => (List.mem_cons.mp m).elim (fun z => by rw [z]; exact n0) (na b), ext_muts na e1 e2, q, hl1.trans hl, s1⟩
/-- the new list is returned -/
theorem rso_ret {a : Addr} (h : RE X W (p.mut a) ρ (c ++ [.lst ds]) e (.val (.mut c.length) false (c ++ [.lst ds]))) : RSo X W p [a] ρ (c ++ [.lst ds]) [.Return (some e) pos] (.rt (.lst ⟨false, true⟩ ds) true c) := by
  refine pss_imp (show RSs X W (p.mut a) ρ (c ++ [.lst ds]) [.Return (some e) pos] (.rt (.mut c.length) false (c ++ [.lst ds])) from rss_ret (rs_ret h)) fun De σ H ⟨H0, σ0, ρ0, c0, na, e1, q, hl, s⟩ => ⟨s, fun v H2 e2 p2 dv hnw => ?_⟩
  clear hnw
  have n0 := na a (List.mem_singleton.mpr rfl)
  have hn : p.m.length = c.length := by
    have := p2.1.2.1
    rw [List.length_append] at this
    have e : (p.m ++ [a]).length = c.length + 1 := this
    rw [List.length_append] at e
    exact Nat.succ.inj e
  have po : PoolAt X.K p H2 c := by
    have z := PoolAt.out (p := p) p2
    rw [hn, List.take_left'] at z
    · exact z
    · rfl
  have ha : (p.m ++ [a])[c.length]? = some a := by
    rw [← hn, List.getElem?_append_right (Nat.le_refl _)]
    simp
  obtain ⟨vs, hv2, dvs⟩ : CellAt X.K (p.mut a) H2 a (.lst ds) := p2.1.2.2 c.length a (.lst ds) ha (by simp)
  have eb : v = .ref a := by
    generalize hm : D.mut c.length = dm at dv
    cases dv <;> cases hm
    rename_i b hb
    have hb' : (p.m ++ [a])[c.length]? = some b := hb
    rw [ha] at hb'
    rw [Option.some.inj hb']
  subst eb
  have vis : hide p H2 a = some (.lst vs) := by
    rw [hide_ne]
    · exact hv2
    · rintro (z | z)
      · exact n0.2 z
      · obtain ⟨o, ho⟩ := (st_sr q).pl.2 a z
        rw [n0.1] at ho
        cases ho
  have e3 : Ext p H0 H2 := ext_muts (as := [a]) na e1 e2
  refine q.2 _ H2 e3 po (.lst ⟨(fun z => nomatch z), fun _ => vis⟩ (.inl (.inl vis)) (dvs.sub (fun b o y => by rw [hide_flat] at y; exact sub_mut b o y) fun i b z => by simp [HD.flat] at z)) fun _ b eb => ?_
  cases eb
  have sm : Sub (hide (p.mut a) H2) (hide (p.also a) H2) := fun b o z => by
    obtain ⟨z1, z2⟩ := hide_some z
    rw [hide_ne]
    · exact z1
    · rintro (y | y)
      · exact z2 (.inl (List.mem_append.mpr (.inl y)))
      · rcases List.mem_cons.mp y with y | y
        · exact z2 (.inl (List.mem_append.mpr (.inr (List.mem_singleton.mpr y))))
        · exact z2 (.inr y)
  refine ⟨n0, ⟨⟨po.1.1, po.1.2.1, fun i b y hb hy => ?_⟩, fun b m => ?_⟩, fun g ds' e' => ?_⟩
  · refine (p2.1.2.2 i b y (mut_at hb) ?_).sub sm rfl
    rw [List.getElem?_append_left (List.getElem?_eq_some_iff.mp hy).1]
    exact hy
  · rcases List.mem_cons.mp m with rfl | m
    · exact ⟨_, hv2⟩
    · exact po.2 b m
  · cases e'
    exact ⟨vs, hv2, dvs.sub (fun b o y => by rw [hide_flat] at y; exact sm b o y) fun i b z => by simp [HD.flat] at z⟩
end
end LA

/-! a list that changes, walked, searched, copied, emptied, and seen as one that does not -/
namespace LA
open PySem PySem.Spec PyProof.Rows L2
section
variable {X : Cx} {W : WX} {p : HD} {ρ ρ1 ρ2 ρ' : Rho} {c c1 c2 c' cc : PC} {e t : Expr} {tg it : Expr} {st : Stmt} {body : List Stmt} {pos : Pos} {g : TG} {gg : G} {ds xs : List D} {k : Nat} {x : Str} {nw : Bool} {d : D} {vs : List Nat} {K : PySem.W.Frag}
theorem dvs_unflat {H : Hp} {us : List V} (h : DVs K p.flat H us ds) : DVs K p H us ds := h.sub (fun b o y => by rw [hide_flat] at y; exact y) fun i b z => by simp [HD.flat] at z
/-- an iterator that yields the data xs while c stays -/
def YieldsM (K : PySem.W.Frag) (p : HD) (J : It) (xs : List D) (c : PC) (H0 : Hp) : Prop :=
  ∀ (q : HD) (H1 : Hp), q.m = p.m → Sub (hide p H0) (hide q H1) → PoolAt K q H1 c →
    J.stop xs.length H1 ∧ ∀ i d, xs[i]? = some d → J.go i H1 ∧ ∀ x H2, J.yld i H1 x H2 → Ext q H1 H2 ∧ PoolAt K q H2 c ∧ DV K q H2 x d
def tIM (K : PySem.W.Frag) (W : WX) (p : HD) (ρ : Rho) (c : PC) (xs : List D) (c' : PC) : TI := fun σ H R => SR K p H σ ρ c ∧ ∀ J H', Ext p H H' → PoolAt K p H' c' → YieldsM K p J xs c' H' → R J H'
theorem ri_mut (h : RE X W p ρ c e (.val (.mut k) nw c1)) (hc : c1[k]? = some (.lst xs)) : PI X tg e (tIM X.K W p ρ c xs c1) :=
  pi_imp (pi_list h) fun σ H R ⟨s, kk⟩ => ⟨s, fun v H1 e1 p1 dv _ => by
    obtain ⟨a, us, rfl, ha, hv, r⟩ := mut_lst dv p1 hc
    refine ⟨a, rfl, ⟨us, .inl (.inl hv)⟩, kk _ H1 e1 p1 fun q H2 qe qs p2 => ?_⟩
    have ha2 : q.m[k]? = some a := by rw [qe]; exact ha
    obtain ⟨us2, hv2, r2⟩ : CellAt X.K q H2 a (.lst xs) := p2.1.2.2 k a _ ha2 hc
    have hq2 : SqL X.K H2 a us2 := .inl (.inl hv2)
    refine ⟨⟨us2, hq2, Nat.le_of_eq r2.length⟩, fun i d hd => ?_⟩
    obtain ⟨v, h1, h2⟩ := (dvs_unflat r2).get hd
    refine ⟨⟨us2, v, hq2, h1⟩, fun x H3 y => ?_⟩
    obtain ⟨rfl, h3⟩ := y
    have e' : x = v := Option.some.inj ((h3 us2 hq2).symm.trans h1)
    subst e'
    exact ⟨Ext.refl _ _, p2, h2⟩⟩
/-- all turns go on, and c stays -/
theorem rs_forM (ρs ρt : Nat → Rho) (hp : PassesOwn (model X.prog X.w) X.A X.env X.xe) (hc : X.calm = true) (h0 : ρs 0 = ρ) (hi : PI X tg it (tIM X.K W p ρ c xs c1)) (hg : PG X tg g)
    (htg : ∀ i d, xs[i]? = some d → TgOk X.K g vs d (ρs i) (ρt i))
    (hb : ∀ i d, xs[i]? = some d → RSs X W p (ρt i) c1 body (.nx (ρs (i + 1)) c1))
    (hs : ∀ x, foldedSetIterable it X.env x = pure x := by intro _; rfl) : RS X W p ρ c (.For tg it body [] pos) (.nx (ρs xs.length) c1) := by
  subst h0
  have PU : PSs X body (fun De σ H => ∃ (i : Nat) (so : SO), RSs X W p (ρt i) c1 body so ∧ tSt X.K W p (ρt i) c1 so De σ H) := ⟨fun pins s σ H De I ⟨i, so, h1, h2⟩ => h1.run pins s σ H De I h2⟩
  refine ps_imp (ps_for hp hc hi hg PU hs) fun De σ H h => ?_
  refine ⟨st_sr h, fun J H1 e1 p1 yl => ?_⟩
  refine ⟨fun i m σ2 H2 => m = xs.length - i ∧ i ≤ xs.length ∧ Ext p H1 H2 ∧ SR X.K p H2 σ2 (ρs i) c1, ⟨xs.length, by simp, Nat.zero_le _, Ext.refl _ _, ⟨((st_sr h).mono e1 p1).len, ((st_sr h).mono e1 p1).at', p1⟩⟩, ?_⟩
  rintro i m σ2 H2 ⟨rfl, hi', e2, s2⟩
  obtain ⟨hstop, hgo⟩ := yl p H2 rfl e2.hide s2.pl
  by_cases hlt : i < xs.length
  · have hd : xs[i]? = some (xs[i]'hlt) := List.getElem?_eq_getElem _
    obtain ⟨g1, g2⟩ := hgo i _ hd
    refine .inr ⟨g1, fun σ' H' => Ext p H1 H' ∧ SR X.K p H' σ' (ρs (i + 1)) c1, fun σ' H' ⟨a1, a2⟩ => ⟨xs.length - (i + 1), by omega, rfl, hlt, a1, a2⟩, fun x H3 hy => ?_⟩
    obtain ⟨e3, p3, dx⟩ := g2 x H3 hy
    refine (htg i _ hd).run p c1 x _ H3 _ dx (s2.mono e3 p3) p3 fun σ3 s3 _ => ⟨i, _, hb i _ hd, s3, fun σ4 H4 e4 s4 => ⟨(e2.trans e3).trans e4, s4⟩⟩
  · have e : i = xs.length := by omega
    subst e
    exact .inl ⟨hstop, h.2 σ2 H2 (e1.trans e2) s2⟩
/-- x in a list that changes, of flat items -/
theorem ov_inM {y : D} {v : V} {ws : List V} {neg : Bool} (hc : c[k]? = some (.lst ds)) (hx : scD y = some v) (hs : ds.map scD = ws.map some) (fx : flatV v = true) (fs : ws.all flatV = true) :
    OV K p (rIn K neg) y (.mut k) (.bl (if neg then !inV v ws else inV v ws)) true c := fun v' u' H Q dv du hp kk => by
  have e1 := dv_sc dv hx
  subst e1
  obtain ⟨a, us, rfl, ha, hv, r⟩ := mut_lst du hp hc
  have e2 := dvs_sc r hs
  subst e2
  exact ⟨_, _, rfl, .inl (.inl (.inl hv)), fx, fs, kk _ H (Ext.refl p H) hp (.bl _) fun _ => New.sc (by intro a h; cases h)⟩
theorem cv_listM (hc : c[k]? = some (.lst ds)) : CV K p (fun vs H Q => ∃ p ys, vs = [.ref p] ∧ (SqL K H p ys ∨ SqT K H p ys) ∧ ∀ l, H l = none → Q (.ref l) (upd H l (.lst ys))) [.mut k] (.lst ⟨false, true⟩ ds) true c := fun vs H Q dvs hp kk => by
  cases dvs with
  | cons h1 r =>
    cases r
    obtain ⟨a, us, rfl, ha, hv, r⟩ := mut_lst h1 hp hc
    have r := dvs_unflat r
    exact ⟨_, _, rfl, .inl (.inl (.inl hv)), fun l nl => kk _ _ (Ext.new nl) (hp.upd nl) (.lst ⟨(fun z => nomatch z), fun _ => hide_upd hp nl⟩ (.inl (.inl (hide_upd hp nl))) (r.mono (Ext.new nl))) fun _ => New.lst hp nl r⟩
theorem cv_tupM (hc : c[k]? = some (.lst ds)) : CV K p (fun xs H Q => ∃ p ys, xs = [.ref p] ∧ ((SqL K H p ys ∧ ∀ l, H l = none → Q (.ref l) (upd H l (.tup ys))) ∨ (SqT K H p ys ∧ Q (.ref p) H))) [.mut k] (.tup ds) true c := fun vs H Q dvs hp kk => by
  cases dvs with
  | cons h1 r =>
    cases r
    obtain ⟨a, us, rfl, ha, hv, r⟩ := mut_lst h1 hp hc
    have r := dvs_unflat r
    exact ⟨_, _, rfl, .inl ⟨.inl (.inl hv), fun l nl => kk _ _ (Ext.new nl) (hp.upd nl) (.tup (.inl (.inl (hide_upd hp nl))) (r.mono (Ext.new nl))) fun _ => New.oth hp nl (by intro _ _ z; cases z)⟩⟩
/-- x.clear() -/
theorem rs_clear (i k : Nat) {xp apos cpos : Pos} (hc : c[k]? = some (.lst ds)) (hρ : ρ[i]? = some (some (.mut k)) := by rfl) (hN : X.N[i]? = some x := by rfl) (hv : Vis X.env.scope x := by first | exact Or.inl rfl | exact Or.inr (Or.inl rfl) | exact Or.inr (Or.inr rfl))
    (hd : (x == ("__debug__" : Str)) = false := by decide) (hcd : (x == ("__classdict__" : Str)) = false := by decide) (hline : (apos.endLine == cpos.line) = true := by rfl) (hsw : swapsWith (.Call (.Attribute (.Name x xp) "clear" apos) [] [] cpos) none pos.line X.env = pure false := by rfl)
    (hbase : attributeBase (.Name x xp) "clear" X.env (eval (.Name x xp) X.env) = eval (.Name x xp) X.env := by rfl) :
    RS X W p ρ c (.Expr (.Call (.Attribute (.Name x xp) "clear" apos) [] [] cpos) pos) (.nx ρ (c.set k (.lst []))) := by
  have PB := pe_bm0 (cpos := cpos) (apos := apos) PySem.F.plainAttrs_list PySem.F.slot_list_clear PySem.F.type_list_clear mt_clear (pe_var (pos := xp) hN hv hd hcd) hbase hline
  refine ps_imp (ps_expr PB hsw) fun De σ H h => ?_
  obtain ⟨o, q1, q2⟩ := h.1.at' i _ hρ
  obtain ⟨a, vs0, rfl, ha, hv0, _⟩ := mut_lst q2 h.1.pl hc
  have m : a ∈ p.m := List.mem_of_getElem? ha
  refine ⟨_, q1, .inl ⟨rfl, _, .inl (.inl hv0)⟩, a, vs0, rfl, rfl, hv0, ?_⟩
  exact h.2 σ _ (ext_upd m) (h.1.mono (ext_upd m) (h.1.pl.put ha ⟨_, upd_same, .nil⟩))
end
end LA

/-! a test asked while the last list that changes is seen as one that does not -/
namespace LA
open PySem PySem.Spec PyProof.Rows L2
def isSc : D → Bool
  | .non => true
  | .bl _ => true
  | .int _ => true
  | .str _ => true
  | _ => false
def ScCell (y : Cell) : Prop := ∃ es, y = .lst es ∧ es.all isSc = true
section
variable {K : PySem.W.Frag} {p q : HD} {H H' : Hp}
theorem dv_move {v : V} {d : D} (h : DV K p H v d) (e : isSc d = true) : DV K q H' v d := by
  cases h <;> first | (cases e; done) | constructor
theorem dvs_move : ∀ {vs : List V} {ds : List D}, DVs K p H vs ds → ds.all isSc = true → DVs K q H' vs ds
  | _, _, .nil, _ => .nil
  | _, _, .cons h r, e => by
    rw [List.all_cons, Bool.and_eq_true_iff] at e
    exact .cons (dv_move h e.1) (dvs_move r e.2)
end
inductive Frz (n : Nat) (ds : List D) : Rho → Rho → Prop
  | nil : Frz n ds [] []
  | non {r r' : Rho} : Frz n ds r r' → Frz n ds (none :: r) (none :: r')
  | low {d : D} {r r' : Rho} : lowD n d = true → Frz n ds r r' → Frz n ds (some d :: r) (some d :: r')
  | seen {r r' : Rho} : Frz n ds r r' → Frz n ds (some (.mut n) :: r) (some (.lst ⟨false, true⟩ ds) :: r')
theorem Frz.len {n : Nat} {ds : List D} : ∀ {r r' : Rho}, Frz n ds r r' → r.length = r'.length
  | _, _, .nil => rfl
  | _, _, .non h => by rw [List.length_cons, List.length_cons, Frz.len h]
  | _, _, .low _ h => by rw [List.length_cons, List.length_cons, Frz.len h]
  | _, _, .seen h => by rw [List.length_cons, List.length_cons, Frz.len h]
theorem Frz.get {n : Nat} {ds : List D} : ∀ {r r' : Rho}, Frz n ds r r' → ∀ (i : Nat) (d : D), r'[i]? = some (some d) → (r[i]? = some (some d) ∧ lowD n d = true) ∨ (d = .lst ⟨false, true⟩ ds ∧ r[i]? = some (some (.mut n)))
  | _, _, .nil, _, _, h => by simp at h
  | _, _, .non _, 0, _, h => by cases h
  | _, _, .non h, i + 1, d, z => Frz.get h i d z
  | _, _, .low l _, 0, _, h => by
    cases Option.some.inj (Option.some.inj h)
    exact .inl ⟨rfl, l⟩
  | _, _, .low _ h, i + 1, d, z => Frz.get h i d z
  | _, _, .seen _, 0, _, h => by
    cases Option.some.inj (Option.some.inj h)
    exact .inr ⟨rfl, rfl⟩
  | _, _, .seen h, i + 1, d, z => Frz.get h i d z
section
variable {X : Cx} {W : WX} {p : HD} {ρ ρf : Rho} {c c1 : PC} {t : Expr} {ds : List D} {b : Bool}
theorem rt_frz {a : Addr} (h : RT X W p ρf c t (.val b c1)) (fz : Frz c.length ds ρ ρf) (hz : p.z = []) (hs : ∀ y ∈ c1, ScCell y) : RT X W (p.mut a) ρ (c ++ [.lst ds]) t (.val b (c1 ++ [.lst ds])) := by
  refine pt_imp h fun σ H Q ⟨s, k⟩ => ?_
  have hn : p.m.length = c.length := by
    have := s.pl.1.2.1
    rw [List.length_append] at this
    have e : (p.m ++ [a]).length = c.length + 1 := this
    rw [List.length_append] at e
    exact Nat.succ.inj e
  have po : PoolAt X.K p H c := by
    have z := PoolAt.out (p := p) s.pl
    rw [hn, List.take_left'] at z
    · exact z
    · rfl
  have ha : (p.m ++ [a])[c.length]? = some a := by
    rw [← hn, List.getElem?_append_right (Nat.le_refl _)]
    simp
  have nda : a ∉ p.m := fun z => by
    have nd : (p.m ++ [a]).Nodup := s.pl.1.1
    exact (List.nodup_append.mp nd).2.2 a z a (List.mem_singleton.mpr rfl) rfl
  obtain ⟨vs, hv, dvs⟩ : CellAt X.K (p.mut a) H a (.lst ds) := s.pl.1.2.2 c.length a (.lst ds) ha (by simp)
  have vis : hide p H a = some (.lst vs) := by
    rw [hide_ne]
    · exact hv
    · rintro (z | z)
      · exact nda z
      · rw [hz] at z
        cases z
  refine ⟨⟨by rw [← fz.len]; exact s.len, fun i d q => ?_, po⟩, fun H1 e1 p1 => k H1 (fun x o n y => e1 x o (fun z => n (List.mem_append.mpr (.inl z))) y) ?_⟩
  · rcases fz.get i d q with ⟨q1, l⟩ | ⟨rfl, q1⟩
    · obtain ⟨v, h1, h2⟩ := s.at' i d q1
      exact ⟨v, h1, h2.low (n := c.length) sub_mut (fun i b li hi => at_mut (by rw [hn]; exact li) hi) l⟩
    · obtain ⟨v, h1, h2⟩ := s.at' i _ q1
      refine ⟨v, h1, ?_⟩
      obtain ⟨b, us, rfl, hb, hv2, r2⟩ := mut_lst h2 s.pl (ds := ds) (by simp)
      have eb : b = a := by
        have hb' : (p.m ++ [a])[c.length]? = some b := hb
        rw [ha] at hb'
        exact (Option.some.inj hb').symm
      subst eb
      exact .lst ⟨(fun z => nomatch z), fun _ => vis⟩ (.inl (.inl vis)) (dvs.sub (fun b o y => by rw [hide_flat] at y; exact sub_mut b o y) fun i b z => by simp [HD.flat] at z)
  · have hv1 : H1 a = some (.lst vs) := e1 a _ nda hv
    have pa : PoolAt X.K (p.also a) H1 c1 := by
      refine ⟨⟨p1.1.1, p1.1.2.1, fun i b y hb hy => ?_⟩, fun b m => ?_⟩
      · obtain ⟨es, rfl, he⟩ := hs y (List.mem_of_getElem? hy)
        obtain ⟨us, u1, u2⟩ : CellAt X.K p H1 b (.lst es) := p1.1.2.2 i b _ hb hy
        exact ⟨us, u1, dvs_move u2 he⟩
      · rcases List.mem_cons.mp m with rfl | m
        · exact ⟨_, hv1⟩
        · exact p1.2 b m
    refine pa.in' nda ⟨vs, hv1, dvs.sub (fun b o y => ?_) fun i b z => by simp [HD.flat] at z⟩
    rw [hide_flat] at y ⊢
    obtain ⟨y1, y2⟩ := hide_some y
    rw [hide_ne y2]
    exact e1 b o (fun z => y2 (.inl (List.mem_append.mpr (.inl z)))) y1
end
end LA

/-! what the head leaves of a classmethod -/
namespace LA
open PySem PySem.Spec PyProof.Rows L2
structure Gcm (K : PySem.W.Frag) (C : Addr) (m q : Str) (st : Stmt) : Prop where
  ex : ∃ p g fd, ClX.CRead K C (.type "type") ∧ ClX.CMet K C (.type "type") m p g ∧ Fun K m q st g fd
theorem gcm_mk {K : PySem.W.Frag} {C : Addr} {m q : Str} {st : Stmt} {p g : Addr} {rest : List Value} {oc kV dc pm cd ct : Value} {od an : Option Addr} {sl : Array (Option Value)} (rd : PySem.W.readsIn K C (.type "type") = true) (ga : PySem.W.specialIn K (.ref C) "__getattribute__" = some (some (.builtin "type.__getattribute__")))
    (a : PySem.W.findCls K (.ref C) (.type "type") m = some (.get (.builtin "classmethod.__get__") (.ref p) .none (.ref C))) (r : PySem.W.recIn K p "classmethod" = some (.ref g :: rest))
    (l : K.lookup g = some ⟨oc, od, .func (PySem.W.fnOf m q (defArgs st) (defBody st) (defScope st) .none kV dc pm an cd ct), sl⟩) (c : PySem.W.codeIn K cd q = true) (k : PySem.W.keepIn K (.ref g) = true) : Gcm K C m q st :=
  ⟨p, g, _, ⟨rd, ga⟩, ⟨a, ⟨rest, r⟩, by unfold PySem.W.fnIn; rw [l]⟩, fun_mk l c k⟩
end LA

/-! while -/
namespace LA
open PySem PySem.Spec PyProof.Rows L2
section
variable {X : Cx} {W : WX} {p : HD} {ρ : Rho} {c : PC} {t : Expr} {body : List Stmt} {pos : Pos}
/-- n turns, then the test fails -/
theorem rs_while (n : Nat) (ρs : Nat → Rho) (cs : Nat → PC) (hp : PassesOwn (model X.prog X.w) X.A X.env X.xe) (h0 : ρs 0 = ρ) (hc0 : cs 0 = c)
    (ht : ∀ i, i < n → RT X W p (ρs i) (cs i) t (.val true (cs i))) (hf : RT X W p (ρs n) (cs n) t (.val false (cs n)))
    (hb : ∀ i, i < n → RSs X W p (ρs i) (cs i) body (.nx (ρs (i + 1)) (cs (i + 1)))) : RS X W p ρ c (.While t body [] pos) (.nx (ρs n) (cs n)) := by
  subst h0
  subst hc0
  have PTt : PT X t (fun σ H Q => ∃ (i : Nat) (o : TO), RT X W p (ρs i) (cs i) t o ∧ tT X.K W p (ρs i) (cs i) o σ H Q) := ⟨fun pins s σ H Q I ⟨i, o, h1, h2⟩ => h1.run pins s σ H Q I h2⟩
  have PU : PSs X body (fun De σ H => ∃ (i : Nat) (so : SO), RSs X W p (ρs i) (cs i) body so ∧ tSt X.K W p (ρs i) (cs i) so De σ H) := ⟨fun pins s σ H De I ⟨i, so, h1, h2⟩ => h1.run pins s σ H De I h2⟩
  refine ps_imp (ps_while hp PTt PU) fun De σ H h => ?_
  refine ⟨fun m σ2 H2 => ∃ i, m = n - i ∧ i ≤ n ∧ Ext p H H2 ∧ SR X.K p H2 σ2 (ρs i) (cs i), ⟨n, 0, by simp, Nat.zero_le _, Ext.refl _ _, st_sr h⟩, ?_⟩
  rintro m σ2 H2 ⟨i, rfl, hi, e2, s2⟩
  by_cases hlt : i < n
  · refine ⟨i, _, ht i hlt, s2, fun H3 e3 p3 => ?_⟩
    exact ⟨fun σ' H' => Ext p H H' ∧ SR X.K p H' σ' (ρs (i + 1)) (cs (i + 1)), fun σ' H' ⟨a1, a2⟩ => ⟨n - (i + 1), by omega, i + 1, rfl, hlt, a1, a2⟩, i, _, hb i hlt, s2.mono e3 p3, fun σ4 H4 e4 s4 => ⟨(e2.trans e3).trans e4, s4⟩⟩
  · have e : i = n := by omega
    subst e
    refine ⟨i, _, hf, s2, fun H3 e3 p3 => ?_⟩
    exact iteF (h.2 σ2 H3 (e2.trans e3) (s2.mono e3 p3))
end
end LA

namespace K35
open PySem PySem.Spec PyProof.Rows L2 LA
open K36 (ev dep kn nw)
/-! ### going along a tree -/
def stG (w : List Nat) : Nat → Tr → List Int → Tr × List Int
  | 0, t, ps => (t, ps)
  | _ + 1, .leaf a, ps => (.leaf a, ps)
  | i + 1, .node p l r, ps => stG w i (if w.getD p.toNat 0 = 48 then l else r) (ps ++ [p])
def ln (w : List Nat) : Tr → Nat
  | .leaf _ => 0
  | .node p l r => (if w.getD p.toNat 0 = 48 then ln w l else ln w r) + 1
theorem ln_le (w : List Nat) : ∀ t : Tr, ln w t ≤ nodes t
  | .leaf _ => Nat.le_refl _
  | .node p l r => by
    have a := ln_le w l
    have b := ln_le w r
    unfold ln nodes
    split <;> omega
theorem stG_step (w : List Nat) : ∀ (i : Nat) (t : Tr) (ps : List Int), i < ln w t → ∃ p l r, (stG w i t ps).1 = .node p l r ∧ stG w (i + 1) t ps = (if w.getD p.toNat 0 = 48 then l else r, (stG w i t ps).2 ++ [p])
  | _, .leaf _, _, h => absurd h (Nat.not_lt_zero _)
  | 0, .node p l r, ps, _ => ⟨p, l, r, rfl, rfl⟩
  | i + 1, .node p l r, ps, h => by
    have h' : i < ln w (if w.getD p.toNat 0 = 48 then l else r) := by
      unfold ln at h
      split
      · rename_i q
        rw [if_pos q] at h
        omega
      · rename_i q
        rw [if_neg q] at h
        omega
    exact stG_step w i _ (ps ++ [p]) h'
theorem stG_end (w : List Nat) : ∀ (n : Nat) (t : Tr) (ps : List Int), n = ln w t → (stG w n t ps).1 = .leaf (ev w t)
  | n, .leaf a, ps, h => by
    subst h
    rfl
  | 0, .node p l r, ps, h => by
    unfold ln at h
    omega
  | n + 1, .node p l r, ps, h => by
    have h' : n = ln w (if w.getD p.toNat 0 = 48 then l else r) := by
      unfold ln at h
      split
      · rename_i q
        rw [if_pos q] at h
        omega
      · rename_i q
        rw [if_neg q] at h
        omega
    have := stG_end w n _ (ps ++ [p]) h'
    show (stG w n (if w.getD p.toNat 0 = 48 then l else r) (ps ++ [p])).1 = _
    rw [this]
    show _ = Tr.leaf (if w.getD p.toNat 0 = 48 then ev w l else ev w r)
    split <;> rfl
theorem stG_ok {n : Int} (w : List Nat) : ∀ (i : Nat) (t : Tr) (ps : List Int), okT n t = true → okT n (stG w i t ps).1 = true
  | 0, _, _, h => h
  | _ + 1, .leaf _, _, h => h
  | i + 1, .node p l r, ps, h => by
    obtain ⟨_, a, b⟩ := okT_node h
    exact stG_ok w i _ _ (by split <;> assumption)
theorem stG_len (w : List Nat) : ∀ (i : Nat) (t : Tr) (ps : List Int), (stG w i t ps).2.length ≤ ps.length + i
  | 0, _, _ => Nat.le_refl _
  | _ + 1, .leaf _, ps => by show ps.length ≤ _; omega
  | i + 1, .node p l r, ps => by
    have := stG_len w i (if w.getD p.toNat 0 = 48 then l else r) (ps ++ [p])
    rw [List.length_append] at this
    have e : [p].length = 1 := rfl
    show (stG w i (if w.getD p.toNat 0 = 48 then l else r) (ps ++ [p])).2.length ≤ ps.length + (i + 1)
    omega
abbrev iD (ps : List Int) : List D := ps.map D.int
theorem iD_low (n : Nat) : ∀ ps : List Int, lowDs n (iD ps) = true
  | [] => rfl
  | a :: r => iD_low n r
def goneR : FSpec := fun ds c o => ∃ (t : Tr) (w : List Nat), ds = [trD t, .str (tx w)] ∧ okT (w.length : Nat) t = true ∧ nodes t ≤ 60 ∧ w.length ≤ 6 ∧ o = .val (.tup [.lst ⟨false, true⟩ (iD (stG w (ln w t) t []).2), .int (ev w t)]) true c
def endR : FSpec := fun ds c o => ∃ (t : Tr) (w : List Nat), ds = [trD t, .str (tx w)] ∧ okT (w.length : Nat) t = true ∧ nodes t ≤ 60 ∧ w.length ≤ 6 ∧ o = .val (.int (ev w t)) false c
section
variable {P : Program} {wd : World} {K : PySem.W.Frag} {mg : Str → Option Value} {base : Heap} {BT : Addr}
abbrev nGone : List Str := ["tree", "text", "places", "position", "low", "high"]
theorem scGone : FnScope nGone ["tree", "text"] (defScope (top 39)) := ⟨rfl, rfl, rfl, by decide +kernel, rfl, by decide +kernel, by decide +kernel⟩
abbrev wBd (st : Stmt) : List Stmt := match st with | .While _ b _ _ => b | _ => []
abbrev wTs (st : Stmt) : Expr := match st with | .While t _ _ _ => t | _ => .Name "" ⟨0, 0, 0, 0⟩
abbrev wPs (st : Stmt) : Pos := match st with | .While _ _ _ q => q | _ => ⟨0, 0, 0, 0⟩
theorem ok_gone {f : Addr} {fd : FuncData} (G : Glb mg) (F : Fun K "_gone" "_gone" (top 39) f fd) : FnOk P wd K mg base CX0 1 f fd ["tree", "text"] (spF K goneR) := by
  refine fn_val F scGone (fun ds c o h => ?_) (fun ds c o h => ?_) (fun cdv A outer s H E hr p ds c o h => ?_)
  · obtain ⟨t, w, rfl, _⟩ := h
    rfl
  · obtain ⟨t, w, _, _, _, _, rfl⟩ := h
    exact ⟨_, _, _, rfl⟩
  · obtain ⟨t, w, rfl, ho, hn, hw, rfl⟩ := h
    have zt : (tx w).length ≤ sizeLine := sz_le (by rw [tx_len]; omega)
    have lnl := ln_le w t
    let X := (cxOf CX0 P wd K mg base nGone "_gone" (defScope (top 39)) f cdv A outer s H E).nox
    refine .inl (rso_of (rso_new (g := ⟨true, true⟩) (ds := []) (c1 := c) 2 (rn_set (W := Wf) 2 scGone.nd (re_lst ra_nil (by show 0 ≤ 100000; decide))) rfl fun a => ?_))
    let ρs : Nat → Rho := fun i => [some (trD (stG w i t []).1), some (.str (tx w)), some (.mut c.length), none, none, none]
    let cs : Nat → PC := fun i => c ++ [.lst (iD (stG w i t []).2)]
    have loop := rs_while (X := X) (W := Wf) (p := HD.muts p [a]) (ρ := ρs 0) (c := cs 0) (t := wTs ((defBody (top 39)).getD 1 (.Pass ⟨0, 0, 0, 0⟩))) (body := wBd ((defBody (top 39)).getD 1 (.Pass ⟨0, 0, 0, 0⟩))) (pos := wPs ((defBody (top 39)).getD 1 (.Pass ⟨0, 0, 0, 0⟩))) (ln w t) ρs cs PassesOwn.never rfl rfl
      (fun i hi => by
        obtain ⟨k, l, r, e1, e2⟩ := stG_step w i t [] hi
        show RT X Wf _ [some (trD (stG w i t []).1), some (.str (tx w)), some (.mut c.length), none, none, none] (cs i) _ (.val true (cs i))
        rw [e1]
        exact rt_val (re_callB (d := .bl true) call_isi G.isi PyProof.Rows.boot_isinstance (ra_cons (re_var 0) (ra_cons (re_ty G.tuple PyProof.Rows.boot_tuple) ra_nil)) (cv_isi (t := "tuple") rfl rfl)))
      (by
        have e1 := stG_end w (ln w t) t [] rfl
        show RT X Wf _ [some (trD (stG w (ln w t) t []).1), some (.str (tx w)), some (.mut c.length), none, none, none] (cs (ln w t)) _ (.val false (cs (ln w t)))
        rw [e1]
        exact rt_val (re_callB (d := .bl false) call_isi G.isi PyProof.Rows.boot_isinstance (ra_cons (re_var 0) (ra_cons (re_ty G.tuple PyProof.Rows.boot_tuple) ra_nil)) (cv_isi (t := "int") rfl rfl)))
      (fun i hi => by
        obtain ⟨k, l, r, e1, e2⟩ := stG_step w i t [] hi
        have oi := stG_ok (n := (w.length : Nat)) w i t [] ho
        rw [e1] at oi
        obtain ⟨hk, _, _⟩ := okT_node oi
        have ek : k = ((k.toNat : Nat) : Int) := (Int.toNat_of_nonneg hk.1).symm
        have hkl : k.toNat < w.length := by omega
        have len := stG_len w i t []
        have at_ : (tx w).cps.toList[k.toNat]? = some (w.getD k.toNat 0) := at_get hkl
        have q48 := ov_eqT (K := K) (p := HD.muts p [a]) (c := cs (i + 1)) (i := chr1 (w.getD k.toNat 0)) (j := chr1 48)
        have c48 : decide (chr1 (w.getD k.toNat 0) = chr1 48) = decide (w.getD k.toNat 0 = 48) := decide_eq_decide.mpr chr_eq
        rw [c48] at q48
        have ecs : cs (i + 1) = c ++ [.lst (iD (stG w i t []).2 ++ [.int k])] := by
          show c ++ [.lst (iD (stG w (i + 1) t []).2)] = _
          rw [e2]
          show c ++ [.lst (((stG w i t []).2 ++ [k]).map D.int)] = _
          rw [List.map_append]
          rfl
        have ers : ρs (i + 1) = [some (trD (if w.getD k.toNat 0 = 48 then l else r)), some (.str (tx w)), some (.mut c.length), none, none, none] := by
          show [some (trD (stG w (i + 1) t []).1), _, _, _, _, _] = _
          rw [e2]
        refine rss_less (ρ1 := [some (trD (if w.getD k.toNat 0 = 48 then l else r)), some (.str (tx w)), some (.mut c.length), some (.int k), some (trD l), some (trD r)]) ?_ (by rw [ers]; exact .same (.same (.same (.skip (.skip (.skip .nil))))))
        show RSs X Wf _ [some (trD (stG w i t []).1), some (.str (tx w)), some (.mut c.length), none, none, none] (cs i) _ _
        rw [e1]
        refine rss_cons (c1 := cs i) (ρ1 := [some (trD (.node k l r)), some (.str (tx w)), some (.mut c.length), some (.int k), some (trD l), some (trD r)]) (rs_tg (re_var 0) (pg_tup rfl (pgs_cons (pg_name (i := 3) scGone.nd rfl (Or.inl rfl)) (pgs_cons (pg_name (i := 4) scGone.nd rfl (Or.inl rfl)) (pgs_cons (pg_name (i := 5) scGone.nd rfl (Or.inl rfl)) pgs_nil)))) (tg_three (vs := [3, 4, 5]) (by decide) (by decide) (by decide))) ?_
        have app := rs_app (X := X) (W := Wf) (p := HD.muts p [a]) (ρ := [some (trD (.node k l r)), some (.str (tx w)), some (.mut c.length), some (.int k), some (trD l), some (trD r)]) (c := cs i) (c1 := cs i) (e := match (wBd ((defBody (top 39)).getD 1 (.Pass ⟨0, 0, 0, 0⟩))).getD 1 (.Pass ⟨0, 0, 0, 0⟩) with | .Expr (.Call _ (e :: _) _ _) _ => e | _ => .Name "" ⟨0, 0, 0, 0⟩) (d := .int k) (nw := false) (ds := iD (stG w i t []).2) (x := "places") (pos := match (wBd ((defBody (top 39)).getD 1 (.Pass ⟨0, 0, 0, 0⟩))).getD 1 (.Pass ⟨0, 0, 0, 0⟩) with | .Expr _ q => q | _ => ⟨0, 0, 0, 0⟩) (cpos := match (wBd ((defBody (top 39)).getD 1 (.Pass ⟨0, 0, 0, 0⟩))).getD 1 (.Pass ⟨0, 0, 0, 0⟩) with | .Expr (.Call _ _ _ q) _ => q | _ => ⟨0, 0, 0, 0⟩) (apos := match (wBd ((defBody (top 39)).getD 1 (.Pass ⟨0, 0, 0, 0⟩))).getD 1 (.Pass ⟨0, 0, 0, 0⟩) with | .Expr (.Call (.Attribute _ _ q) _ _ _) _ => q | _ => ⟨0, 0, 0, 0⟩) (xp := match (wBd ((defBody (top 39)).getD 1 (.Pass ⟨0, 0, 0, 0⟩))).getD 1 (.Pass ⟨0, 0, 0, 0⟩) with | .Expr (.Call (.Attribute (.Name _ q) _ _) _ _ _) _ => q | _ => ⟨0, 0, 0, 0⟩) 2 c.length (re_var 3) ⟨iD (stG w i t []).2, by show (c ++ [_])[c.length]? = _; simp⟩ (by show (c ++ [_])[c.length]? = _; simp) (by rw [List.length_map]; simp at len; omega) rfl
        have es : (cs i).set c.length (.lst (iD (stG w i t []).2 ++ [.int k])) = cs (i + 1) := by
          rw [ecs]
          exact set_last _ _ _
        rw [es] at app
        refine rss_cons app ?_
        by_cases h : w.getD k.toNat 0 = 48
        · rw [if_pos h]
          exact rss_cons (rs_set (nw := false) 0 scGone.nd (re_if (k := true) (rt_to (rt_cmp op_eq (re_ix ix_seq (re_var 1) (re_var 3) (ov_ixS zt ek at_)) re_str q48) (decide_eq_true h)) (fun _ => re_var 4) fun z => nomatch z)) rss_nil
        · rw [if_neg h]
          exact rss_cons (rs_set (nw := false) 0 scGone.nd (re_if (k := false) (rt_to (rt_cmp op_eq (re_ix ix_seq (re_var 1) (re_var 3) (ov_ixS zt ek at_)) re_str q48) (decide_eq_false h)) (fun z => nomatch z) fun _ => re_var 5)) rss_nil)
    refine rso_cons loop ?_
    have e1 := stG_end w (ln w t) t [] rfl
    show RSo X Wf p [a] [some (trD (stG w (ln w t) t []).1), some (.str (tx w)), some (.mut c.length), none, none, none] (c ++ [.lst (iD (stG w (ln w t) t []).2)]) _ _
    rw [e1]
    refine rso_frz (ds := iD (stG w (ln w t) t []).2) (c := c) 2 (rso_in ?_) rfl (.one rfl (.one rfl (.non (.non (.non (.non .nil))))))
    exact rss_ret (rs_ret (re_tup (ra_cons (re_var 2) (ra_cons (re_var 0) ra_nil)) (by show 2 ≤ 100000; decide)))
abbrev GoneD (P : Program) (w : World) (K : PySem.W.Frag) (mg : Str → Option Value) (base : Heap) := Def0 P w K mg base 1 "_gone" ["tree", "text"] goneR
abbrev nEnd : List Str := ["tree", "text", "_", "answer"]
theorem scEnd : FnScope nEnd ["tree", "text"] (defScope (top 40)) := ⟨rfl, rfl, rfl, by decide +kernel, rfl, by decide +kernel, by decide +kernel⟩
theorem ok_end {f : Addr} {fd : FuncData} (T : GoneD P wd K mg base) (F : Fun K "_end" "_end" (top 40) f fd) : FnOk P wd K mg base CX0 2 f fd ["tree", "text"] (spF K endR) := by
  refine fn_val F scEnd (fun ds c o h => ?_) (fun ds c o h => ?_) (fun cdv A outer s H E hr p ds c o h => ?_)
  · obtain ⟨t, w, rfl, _⟩ := h
    rfl
  · obtain ⟨t, w, _, _, _, _, rfl⟩ := h
    exact ⟨_, _, _, rfl⟩
  · obtain ⟨t, w, rfl, ho, hn, hw, rfl⟩ := h
    refine .inl (rss_cons (c1 := c) (ρ1 := [some (trD t), some (.str (tx w)), some (.lst ⟨false, true⟩ (iD (stG w (ln w t) t []).2)), some (.int (ev w t))]) (rs_tg (d := .tup [.lst ⟨false, true⟩ (iD (stG w (ln w t) t []).2), .int (ev w t)]) (nw := true) (re_c0 T hr (ra_cons (re_var 0) (ra_cons (re_var 1) ra_nil)) ⟨t, w, rfl, ho, hn, hw, rfl⟩) (pg_tup rfl (pgs_cons (pg_name (i := 2) scEnd.nd rfl (Or.inl rfl)) (pgs_cons (pg_name (i := 3) scEnd.nd rfl (Or.inl rfl)) pgs_nil))) (tg_two (vs := [2, 3]) (by decide) (by decide))) (rss_ret (rs_ret (re_var 3))))
abbrev EndD (P : Program) (w : World) (K : PySem.W.Frag) (mg : Str → Option Value) (base : Heap) := Def0 P w K mg base 2 "_end" ["tree", "text"] endR
end
end K35

namespace K35
open PySem PySem.Spec PyProof.Rows L2 LA
open K36 (ev dep kn nw)
/-! ### depth, trimmed -/
def dashL (n : Nat) : List Nat := (List.replicate n [45]).flatten
theorem dashL_len (n : Nat) : (dashL n).length = n := by simp [dashL]
def depthR : FSpec := fun ds c o => ∃ t, ds = [trD t] ∧ okT 6 t = true ∧ nodes t ≤ 40 ∧ o = .val (.int ((dep t : Nat) : Int)) true c
section
variable {P : Program} {w : World} {K : PySem.W.Frag} {mg : Str → Option Value} {base : Heap} {BT Cn : Addr}
theorem ok_depth {f : Addr} {fd : FuncData} {tk0 : Tok} (hM : mg "MOST" = some (.int 6 tk0)) (TC : CkD P w K mg base BT) (TD : Def0 P w K mg base 41 "_depth" ["tree"] (depR 40)) (F : Fun K "depth" "depth" (top 32) f fd) : FnOk P w K mg base (L2.CX P w) 45 f fd ["tree"] (spF K depthR) := by
  refine fn_exc F (N := ["tree"]) ⟨rfl, rfl, rfl, by decide +kernel, rfl, by decide +kernel, by decide +kernel⟩ (fun ds c o h => ?_) (fun cdv A outer s H E hr p ds c o h tk => ?_)
  · obtain ⟨t, rfl, _⟩ := h
    rfl
  · obtain ⟨t, rfl, ho, hn, rfl⟩ := h
    refine .inl (rss_cons (rs_expr (re_c1 (o := .val .non true c) tk TC hr (ra_cons (re_var 0) (ra_cons (re_gint hM) ra_nil)) ⟨_, 6, rfl, deep_tr 40 t hn, by rw [isT_tr 40 t hn, ho, if_pos rfl]⟩)) ?_)
    exact rss_ret (rs_ret (re_c0 TD (hr.mono (by decide)) (ra_cons (re_var 0) ra_nil) ⟨t, rfl, hn, rfl⟩))
theorem pos_int {n : Nat} (h : n ≤ 6) : posD (.int ((n : Nat) : Int)) 7 = true := by
  show (decide ((0 : Int) ≤ ((n : Nat) : Int)) && decide (((n : Nat) : Int) < 7)) = true
  rw [decide_eq_true (by omega), decide_eq_true (by omega)]
  rfl
end
end K35

namespace K35
open PySem PySem.Spec PyProof.Rows L2 LA
open K36 (ev dep kn nw)
/-! ### the question of a tree -/
abbrev app2 : List Value → List Value → List Value := fun a b => a ++ b
abbrev app2V : List V → List V → List V := fun a b => a ++ b
def ysT (n : Nat) (t : Tr) : List (List Nat) := (insT n).filter fun w => decide (ev w t = 1)
def tqL (n : Nat) (t : Tr) : List Nat := ofL n (ysT n t)
def tqR (C : Addr) : FSpec := fun ds c o => ∃ (n : Nat) (t : Tr), ds = [.int ((n : Nat) : Int), trD t] ∧ n ≤ 6 ∧ okT (n : Nat) t = true ∧ nodes t ≤ 40 ∧ o = .val (qD C (tqL n t)) true c
theorem coll_sel (q : List Nat → Bool) (ts : List (List Nat)) : coll (fun i => q (ts.getD i [])) (fun i => .str (tx (ts.getD i []))) (wD ts).length = wD (ts.filter q) := by
  have key : ∀ k, k ≤ ts.length → coll (fun i => q (ts.getD i [])) (fun i => D.str (tx (ts.getD i []))) k = wD ((ts.take k).filter q) := fun k => by
    induction k with
    | zero => intro _; rfl
    | succ k ih =>
      intro hk
      unfold coll
      rw [ih (by omega), List.take_succ, List.filter_append, List.getElem?_eq_getElem (show k < ts.length by omega)]
      have e : ts.getD k [] = ts[k]'(by omega) := by rw [List.getD_eq_getElem?_getD, List.getElem?_eq_getElem (show k < ts.length by omega)]; rfl
      rw [e]
      unfold wD
      rw [List.map_append]
      congr 1
      show _ = List.map _ (List.filter q [ts[k]'(by omega)])
      cases h : q (ts[k]'(by omega)) with
      | true => simp [h]
      | false => simp [h]
  rw [wD_len, key _ (Nat.le_refl _), List.take_length]
theorem okI_in {n : Nat} (hn : n ≤ 6) {w : List Nat} (h : w ∈ insT n) : okI n (.str (tx w)) = true := by
  have h1 := insT_at h
  have h2 := insT_mem h
  unfold okI isW
  rw [cds_tx]
  show ((true && (decide (w.length ≤ 6) && w.all fun n => decide (n ∈ bins))) && decide ((w.length : Int) = ((n : Nat) : Int))) = true
  rw [decide_eq_true (show w.length ≤ 6 by omega), decide_eq_true (show (w.length : Int) = ((n : Nat) : Int) by rw [h1]), List.all_eq_true.mpr fun m hm => decide_eq_true (h2 m hm)]
  rfl
theorem cds_wD (ts : List (List Nat)) : (wD ts).map cds = ts := by
  unfold wD
  rw [List.map_map]
  have : (cds ∘ fun w => D.str (tx w)) = id := funext fun w => cds_tx w
  rw [this, List.map_id]
section
variable {P : Program} {w : World} {K : PySem.W.Frag} {mg : Str → Option Value} {base : Heap} {BT Cn BI C : Addr}
abbrev nTq : List Str := ["many", "tree", "text"]
theorem scTq : FnScope nTq ["many", "tree"] (defScope (top 34)) := ⟨rfl, rfl, rfl, by decide +kernel, rfl, by decide +kernel, by decide +kernel⟩
theorem ok_tq {f : Addr} {fd : FuncData} (mQ : mg "Question" = some (.ref C)) (TN : CntD P w K mg base Cn) (TC : CkD P w K mg base BT) (TI : AllD P w K mg base Cn "inputs" bins) (TE : EndD P w K mg base) (TO : CMeth P w K mg base C "of" 7 ["cls", "many", "yes"] (ofR C Cn BI) 2 [] app2 app2V) (F : Fun K "tree_question" "tree_question" (top 34) f fd) : FnOk P w K mg base (L2.CX P w) 45 f fd ["many", "tree"] (spF K (tqR C)) := by
  refine fn_exc F scTq (fun ds c o h => ?_) (fun cdv A outer s H E hr p ds c o h tk => ?_)
  · obtain ⟨n, t, rfl, _⟩ := h
    rfl
  · obtain ⟨n, t, rfl, hn, ho, hm, rfl⟩ := h
    have p64 := pow_64 hn
    refine .inl (rss_cons (c1 := c) (ρ1 := startR nTq [.int ((n : Nat) : Int), trD t]) (rs_expr (re_c1D (es' := [.int 6]) (o := .val .non true c) tk TN (hr.mono (by decide)) (ra_cons (re_var 0) ra_nil) (fun q H => sixes) ⟨_, rfl, ⟨_, rfl⟩, by rw [pos_int hn, if_pos rfl]⟩)) ?_)
    refine rss_cons (c1 := c) (ρ1 := startR nTq [.int ((n : Nat) : Int), trD t]) (rs_expr (re_c1 (o := .val .non true c) tk TC hr (ra_cons (re_var 1) (ra_cons (re_var 0) ra_nil)) ⟨_, ((n : Nat) : Int), rfl, deep_tr 40 t hm, by rw [isT_tr 40 t hm, ho, if_pos rfl]⟩)) ?_
    have sel := coll_sel (fun w => decide (ev w t = 1)) (insT n)
    have mem : ∀ w ∈ ysT n t, w ∈ insT n := fun w hw => (List.mem_filter.mp hw).1
    have el : ∀ d ∈ wD (ysT n t), okI n d = true ∧ Fit d := fun d hd => by
      unfold wD at hd
      obtain ⟨w, hw, rfl⟩ := List.mem_map.mp hd
      exact ⟨okI_in hn (mem w hw), str_fit (by rw [insT_at (mem w hw)]; omega)⟩
    have nb : badI n (wD (ysT n t)) = none := by
      unfold badI
      rw [List.find?_eq_none]
      intro d hd
      rw [(el d hd).1]
      decide
    refine rss_ret (rs_ret (re_cm (c1 := c) (c2 := c) (c3 := c) (o := .val (qD C (tqL n t)) true c) (zs := []) (ds := [.int ((n : Nat) : Int), .lst ⟨false, true⟩ (wD (ysT n t))]) (gD := [.cls C, .int ((n : Nat) : Int), .lst ⟨false, true⟩ (wD (ysT n t))]) tk TO (hr.mono (by decide)) (re_cls mQ) (ra_cons (re_var 0) (ra_cons (nw := true) ?_ ra_nil)) rk_nil rfl rfl (fun h1 h2 => DVs.app h1 h2) ⟨_, _, wD (ysT n t), rfl, ⟨_, rfl⟩, .inl ⟨_, rfl⟩, by rw [wD_len]; exact Nat.le_trans (List.length_filter_le _ _) (by rw [insT_len]; omega), fun d hd => (el d hd).2, ?_⟩))
    · show RE _ _ _ _ _ _ (.val (.lst ⟨false, true⟩ (wD ((insT n).filter fun w => decide (ev w t = 1)))) true c)
      rw [← sel]
      refine re_lc (own := [("text", 2)]) (g := gName 2) (xs := wD (insT n)) (fun i => decide (ev ((insT n).getD i []) t = 1)) (fun i => .str (tx ((insT n).getD i []))) (fun _ => c) (fun _ => c) (fun i => [some (.int ((n : Nat) : Int)), some (trD t), some (.str (tx ((insT n).getD i [])))]) (fun _ => false) rfl scTq.nd (ri_lst (re_c1 (o := .val (allV bins n) false c) tk TI (hr.mono (by decide)) (ra_cons (re_var 0) ra_nil) ⟨_, rfl, ⟨_, rfl⟩, by rw [pos_int hn, if_pos rfl]; rfl⟩)) (blkOk_by (N := nTq) (sc := defScope (top 34)) (by decide +kernel)) (fun _ _ _ _ _ => pg_name (i := 2) scTq.nd rfl (Or.inl rfl)) (fun i d h => ?_) (fun i d h q s H C cl fp => ?_) (fun i d h _ q s H C cl fp => re_var 2) (fun _ _ _ _ => rfl) (by rw [insT_wD]; omega)
      · obtain ⟨rfl, _, _⟩ := wD_at h
        exact tg_name (j := 2) (vs := [2]) (by decide)
      · obtain ⟨rfl, _, hmi⟩ := wD_at h
        have hl := insT_at hmi
        exact pts_one (rt_cmp op_eq (re_c0 TE (hr.mono (by decide)) (ra_cons (re_var 1) (ra_cons (re_var 2) ra_nil)) ⟨t, (insT n).getD i [], rfl, by rw [hl]; exact ho, by omega, by omega, rfl⟩) re_int ov_eqI)
    · rw [pos_int hn, if_pos rfl]
      have e : cntN (.int ((n : Nat) : Int)) = n := rfl
      rw [e, nb, cds_wD]
      rfl
/-- trees that answer alike have one question -/
theorem tq_same {n : Nat} {s t : Tr} (h : ∀ w ∈ insT n, ev w s = ev w t) : tqL n s = tqL n t := by
  unfold tqL ysT
  congr 1
  refine List.filter_congr fun w hw => ?_
  rw [h w hw]
end
end K35

namespace K35
open PySem PySem.Spec PyProof.Rows L2 LA
open K36 (ev dep kn nw)
theorem rw_orS {X : Cx} {W : WX} {p : HD} {ρ : Rho} {c c1 c2 : PC} {a b : Expr} {pos : Pos} {rest : List Expr} {k2 : Bool} (ha : RT X W p ρ c a (.val false c1)) (hb : RW X W p ρ c1 (.BoolOp .Or (b :: rest) pos) (.val k2 c2)) : RW X W p ρ c (.BoolOp .Or (a :: b :: rest) pos) (.val k2 c2) := by
  refine pw_imp (pw_or ha hb) fun σ H Q ⟨s, kk⟩ => ⟨s, fun H1 e1 p1 => ?_⟩
  refine iteF ?_
  exact ⟨s.mono e1 p1, fun H2 e2 p2 => kk H2 (e1.trans e2) p2⟩
/-! ### drawn trees -/
def trN (n : Nat) : Nat → Pl → Tr × Pl
  | 0, x => (.leaf (drawV x 2), drawC x 2)
  | r + 1, x => if n = 0 then (.leaf (drawV x 2), drawC x 2) else if drawV x 5 = 4 then (.leaf (drawV (drawC x 5) 2), drawC (drawC x 5) 2) else
    (.node (drawV (drawC x 5) ((n : Nat) : Int)) (trN n r (drawC (drawC x 5) ((n : Nat) : Int))).1 (trN n r (trN n r (drawC (drawC x 5) ((n : Nat) : Int))).2).1, (trN n r (trN n r (drawC (drawC x 5) ((n : Nat) : Int))).2).2)
theorem leaf_ok (n : Int) (x : Pl) : okT n (.leaf (drawV x 2)) = true := by
  have h := drawV_in (c := x) (show (0 : Int) < 2 by decide)
  show (decide (0 ≤ drawV x 2) && decide (drawV x 2 < 2)) = true
  rw [decide_eq_true h.1, decide_eq_true h.2]
  rfl
theorem trN_ok (n : Nat) : ∀ (r : Nat) (x : Pl), okT ((n : Nat) : Int) (trN n r x).1 = true ∧ nodes (trN n r x).1 + 1 ≤ 2 ^ r
  | 0, x => ⟨leaf_ok _ _, Nat.le_refl _⟩
  | r + 1, x => by
    unfold trN
    split
    · exact ⟨leaf_ok _ _, Nat.one_le_two_pow⟩
    · rename_i hn
      split
      · exact ⟨leaf_ok _ _, Nat.one_le_two_pow⟩
      · have h := drawV_in (c := drawC x 5) (show (0 : Int) < ((n : Nat) : Int) by omega)
        obtain ⟨a1, a2⟩ := trN_ok n r (drawC (drawC x 5) ((n : Nat) : Int))
        obtain ⟨b1, b2⟩ := trN_ok n r (trN n r (drawC (drawC x 5) ((n : Nat) : Int))).2
        refine ⟨?_, ?_⟩
        · show (decide (0 ≤ drawV (drawC x 5) ((n : Nat) : Int)) && decide (drawV (drawC x 5) ((n : Nat) : Int) < ((n : Nat) : Int)) && (okT _ _ && okT _ _)) = true
          rw [decide_eq_true h.1, decide_eq_true h.2, a1, b1]
          rfl
        · show nodes _ + nodes _ + 1 + 1 ≤ 2 ^ (r + 1)
          rw [Nat.pow_succ]
          omega
def treeR (r : Nat) : FSpec := fun ds c o => ∃ (i n : Nat) (x : Pl), ds = [.mut i, .int ((n : Nat) : Int), .int (r : Nat)] ∧ n ≤ 6 ∧ c[i]? = some x.c ∧ o = .val (trD (trN n r x).1) false (c.set i (trN n r x).2.c)
section
variable {P : Program} {w : World} {K : PySem.W.Frag} {mg : Str → Option Value} {base : Heap}
abbrev nTree : List Str := ["_law_pool_here", "_law_many", "_law_room", "_law_spot", "_law_low"]
theorem scTree : FnScope nTree ["_law_pool_here", "_law_many", "_law_room"] (defScope (top 48)) := ⟨rfl, rfl, rfl, by decide +kernel, rfl, by decide +kernel, by decide +kernel⟩
theorem ok_tree {f : Addr} {fd : FuncData} (T : DrawD P w K mg base) (F : Fun K "_law_tree" "_law_tree" (top 48) f fd) (hm : mg "_law_tree" = some (.ref f)) (hb : Binds K fd ["_law_pool_here", "_law_many", "_law_room"] []) : ∀ r : Nat, FnOk P w K mg base CX0 (r + 2) f fd ["_law_pool_here", "_law_many", "_law_room"] (spF K (treeR r)) := by
  intro r
  induction r with
  | zero =>
    refine fn_val F scTree (fun ds c o h => ?_) (fun ds c o h => ?_) (fun cdv A outer s H E hr p ds c o h => ?_)
    · obtain ⟨i, n, x, rfl, _⟩ := h
      rfl
    · obtain ⟨i, n, x, _, _, _, rfl⟩ := h
      exact ⟨_, _, _, rfl⟩
    · obtain ⟨i, n, x, rfl, hn6, hx, rfl⟩ := h
      exact .inl (rss_ret (rs_if (kb := true) (RW.rt (rw_or (k1 := true) (k2 := true) (rt_cmp op_eq (re_var 2) re_int ov_eqI) fun z => nomatch z)) (fun _ => rss_ret (rs_ret (re_c0 T hr (ra_cons (re_var 0) (ra_cons re_int ra_nil)) ⟨i, 2, x, rfl, hx, by decide, by decide, rfl⟩))) fun z => nomatch z))
  | succ r ih =>
    have TI : Def0 P w K mg base (r + 2) "_law_tree" ["_law_pool_here", "_law_many", "_law_room"] (treeR r) := ⟨⟨f, fd, ih, hm, F.kp, hb⟩⟩
    refine fn_val F scTree (fun ds c o h => ?_) (fun ds c o h => ?_) (fun cdv A outer s H E hr p ds c o h => ?_)
    · obtain ⟨i, n, x, rfl, _⟩ := h
      rfl
    · obtain ⟨i, n, x, _, _, _, rfl⟩ := h
      exact ⟨_, _, _, rfl⟩
    · obtain ⟨i, n, x, rfl, hn6, hx, rfl⟩ := h
      have hr1 := hr.mono (show 1 ≤ r + 2 by omega)
      by_cases hn0 : n = 0
      · subst hn0
        exact .inl (rss_ret (rs_if (kb := true) (RW.rt (rw_orS (rt_to (rt_cmp op_eq (re_var 2) re_int ov_eqI) (decide_eq_false (by omega))) <| rw_or (k1 := true) (k2 := true) (rt_cmp op_eq (re_var 1) re_int ov_eqI) fun z => nomatch z)) (fun _ => rss_ret (rs_ret (re_c0 T hr1 (ra_cons (re_var 0) (ra_cons re_int ra_nil)) ⟨i, 2, x, rfl, hx, by decide, by decide, rfl⟩))) fun z => nomatch z))
      have hx1 : (c.set i (drawC x 5).c)[i]? = some (drawC x 5).c := at_set hx
      have g5 : ∀ k, k = decide (drawV x 5 = 4) → RT (cxOf CX0 P w K mg base nTree "_law_tree" (defScope (top 48)) f cdv A outer s H E).nox Wf p (startR nTree [.mut i, .int ((n : Nat) : Int), .int ((r + 1 : Nat) : Int)]) c (match (defBody (top 48)).getD 0 (.Pass ⟨0, 0, 0, 0⟩) with | .If t _ _ _ => t | _ => .Name "" ⟨0, 0, 0, 0⟩) (.val k (c.set i (drawC x 5).c)) := fun k hk =>
        RW.rt (rw_orS (rt_to (rt_cmp op_eq (re_var 2) re_int ov_eqI) (decide_eq_false (by omega))) <| rw_orS (rt_to (rt_cmp op_eq (re_var 1) re_int ov_eqI) (decide_eq_false (by omega))) <| rw_or1 (rt_to (rt_cmp op_eq (re_c0 T hr1 (ra_cons (re_var 0) (ra_cons re_int ra_nil)) ⟨i, 5, x, rfl, hx, by decide, by decide, rfl⟩) re_int ov_eqI) hk.symm))
      by_cases h4 : drawV x 5 = 4
      · have e : trN n (r + 1) x = (.leaf (drawV (drawC x 5) 2), drawC (drawC x 5) 2) := by unfold trN; rw [if_neg hn0, if_pos h4]
        rw [e]
        have e2 : c.set i (drawC (drawC x 5) 2).c = (c.set i (drawC x 5).c).set i (drawC (drawC x 5) 2).c := (List.set_set ..).symm
        dsimp only
        rw [e2]
        exact .inl (rss_ret (rs_if (kb := true) (g5 true (decide_eq_true h4).symm) (fun _ => rss_ret (rs_ret (re_c0 T hr1 (ra_cons (re_var 0) (ra_cons re_int ra_nil)) ⟨i, 2, _, rfl, hx1, by decide, by decide, rfl⟩))) fun z => nomatch z))
      · have e : trN n (r + 1) x = (.node (drawV (drawC x 5) ((n : Nat) : Int)) (trN n r (drawC (drawC x 5) ((n : Nat) : Int))).1 (trN n r (trN n r (drawC (drawC x 5) ((n : Nat) : Int))).2).1, (trN n r (trN n r (drawC (drawC x 5) ((n : Nat) : Int))).2).2) := by unfold trN; rw [if_neg hn0, if_neg h4]; cases r <;> rfl
        rw [e]
        dsimp only
        have hx2 : ((c.set i (drawC x 5).c).set i (drawC (drawC x 5) ((n : Nat) : Int)).c)[i]? = some (drawC (drawC x 5) ((n : Nat) : Int)).c := at_set hx1
        have hx3 : (((c.set i (drawC x 5).c).set i (drawC (drawC x 5) ((n : Nat) : Int)).c).set i (trN n r (drawC (drawC x 5) ((n : Nat) : Int))).2.c)[i]? = some (trN n r (drawC (drawC x 5) ((n : Nat) : Int))).2.c := at_set hx2
        have e2 : c.set i (trN n r (trN n r (drawC (drawC x 5) ((n : Nat) : Int))).2).2.c = (((c.set i (drawC x 5).c).set i (drawC (drawC x 5) ((n : Nat) : Int)).c).set i (trN n r (drawC (drawC x 5) ((n : Nat) : Int))).2.c).set i (trN n r (trN n r (drawC (drawC x 5) ((n : Nat) : Int))).2).2.c := by
          rw [List.set_set, List.set_set, List.set_set]
        rw [e2]
        refine .inl (rss_cons (rs_if (kb := false) (g5 false (decide_eq_false h4).symm) (fun z => nomatch z) fun _ => rss_nil) ?_)
        refine rss_cons (rs_set 3 scTree.nd (re_c0 T hr1 (ra_cons (re_var 0) (ra_cons (re_var 1) ra_nil)) ⟨i, ((n : Nat) : Int), _, rfl, hx1, by omega, by omega, rfl⟩)) ?_
        have es : (((r + 1 : Nat) : Int) - 1) = ((r : Nat) : Int) := by omega
        refine rss_cons (rs_set 4 scTree.nd (re_c0 TI hr (ra_cons (re_var 0) (ra_cons (re_var 1) (ra_cons (re_to (re_bin op_sub (re_var 2) re_int ov_ii) (congrArg D.int es)) ra_nil))) ⟨i, n, _, rfl, hn6, hx2, rfl⟩)) ?_
        exact rss_ret (rs_ret (re_old (re_tup (ra_cons (re_var 3) (ra_cons (re_var 4) (ra_cons (re_c0 TI hr (ra_cons (re_var 0) (ra_cons (re_var 1) (ra_cons (re_to (re_bin op_sub (re_var 2) re_int ov_ii) (congrArg D.int es)) ra_nil))) ⟨i, n, _, rfl, hn6, hx3, rfl⟩) ra_nil))) (by show 3 ≤ 100000; decide))))
end
end K35

namespace LA
open PySem PySem.Spec PyProof.Rows L2
/-! ### the bag -/
structure Bg where
  xs : List Int
  w : Int
  s : Int
  n : Int
def Bg.ds (b : Bg) : List D := [.lst ⟨false, true⟩ (b.xs.map D.int), .int b.w, .int b.s, .int b.n]
def Bg.c (b : Bg) : Cell := .lst b.ds
def abI (i : Int) : Int := if i < 0 then -i else i
/-- a cell is taken -/
def Bg.took (b : Bg) : Bg := match b.xs with
  | [] => b
  | x :: r => if b.w = 0 then ⟨r, if abI x ≥ 10 ^ (18 : Int).toNat then abI x else b.w, (b.s * 69069 + x * 48271 + 5) % 2147483647, b.n⟩ else b
def mixV (s n m : Int) : Int := (((((s + n * 40692) % 2147483647) ^ (3 : Int).toNat + n * 16807 + 7) % 2147483629) ^ (2 : Int).toNat + 3 * ((((s + n * 40692) % 2147483647) ^ (3 : Int).toNat + n * 16807 + 7) % 2147483629)) % 2147483587 / 8 % m
def bagV (b : Bg) (m : Int) : Int := if b.took.w > 0 then b.took.w % m else mixV b.took.s (b.took.n + 1) m
def bagC (b : Bg) (m : Int) : Bg := if b.took.w > 0 then { b.took with w := b.took.w / m } else { b.took with n := b.took.n + 1 }
theorem bagV_in {b : Bg} {m : Int} (h : 0 < m) : 0 ≤ bagV b m ∧ bagV b m < m := by
  unfold bagV mixV
  split
  · exact ⟨Int.emod_nonneg _ (by omega), Int.emod_lt_of_pos _ h⟩
  · exact ⟨Int.emod_nonneg _ (by omega), Int.emod_lt_of_pos _ h⟩
def bagR : FSpec := fun ds c o => ∃ (g : G) (ns : List Int), ds = [.lst g (ns.map D.int)] ∧ o = .val (.lst ⟨true, true⟩ (Bg.ds ⟨ns, 0, 29, 0⟩)) true c
def bdrawR : FSpec := fun ds c o => ∃ (m : Int) (b : Bg), ds = [.mut 0, .int m] ∧ c = [b.c] ∧ 0 < m ∧ m.natAbs.log2 < 9000 ∧ o = .val (.int (bagV b m)) false [(bagC b m).c]
section
variable {X : Cx} {W : WX} {p : HD} {ρ : Rho} {c c1 : PC} {e : Expr} {es : List Expr} {pos xp : Pos} {d : D} {nw : Bool} {K : PySem.W.Frag} {g : G} {xs : List D} {ds : List D} {x : Str}
theorem cv_listL : CV K p (fun vs H Q => ∃ p ys, vs = [.ref p] ∧ (SqL K H p ys ∨ SqT K H p ys) ∧ ∀ l, H l = none → Q (.ref l) (upd H l (.lst ys))) [.lst g xs] (.lst ⟨false, true⟩ xs) true c := fun vs H Q dvs hp k => by
  cases dvs with
  | cons h1 r =>
    cases r
    cases h1 with
    | lst hb hq ha =>
      exact ⟨_, _, rfl, .inl (un_sqL hq), fun l nl => k _ _ (Ext.new nl) (hp.upd nl) (.lst ⟨(fun z => nomatch z), fun _ => hide_upd hp nl⟩ (.inl (.inl (hide_upd hp nl))) (ha.mono (Ext.new nl))) fun _ => New.lst hp nl ha⟩
theorem cv_listT : CV K p (fun vs H Q => ∃ p ys, vs = [.ref p] ∧ (SqL K H p ys ∨ SqT K H p ys) ∧ ∀ l, H l = none → Q (.ref l) (upd H l (.lst ys))) [.tup xs] (.lst ⟨false, true⟩ xs) true c := fun vs H Q dvs hp k => by
  cases dvs with
  | cons h1 r =>
    cases r
    cases h1 with
    | tup hq ha =>
      exact ⟨_, _, rfl, .inr (un_sqT hq), fun l nl => k _ _ (Ext.new nl) (hp.upd nl) (.lst ⟨(fun z => nomatch z), fun _ => hide_upd hp nl⟩ (.inl (.inl (hide_upd hp nl))) (ha.mono (Ext.new nl))) fun _ => New.lst hp nl ha⟩
theorem cv_abs {i : Int} : CV K p (fun xs H Q => ∃ i, xs = [.int i] ∧ Q (.int (if i < 0 then -i else i)) H) [.int i] (.int (abI i)) true c := fun vs H Q dvs hp k => by
  cases dvs with
  | cons h r =>
    cases r
    cases h
    exact ⟨i, rfl, k _ H (Ext.refl p H) hp (.int _) fun _ => New.sc (by intro a h; cases h)⟩
theorem cv_gcd {a b : Int} : CV K p rGcd [.int a, .int b] (.int ((Nat.gcd a.natAbs b.natAbs : Nat) : Int)) true c := fun vs H Q dvs hp k => by
  cases dvs with
  | cons h r =>
    cases r with
    | cons h2 r =>
      cases r
      cases h
      cases h2
      exact ⟨a, b, rfl, k _ H (Ext.refl p H) hp (.int _) fun _ => New.sc (by intro a h; cases h)⟩
/-- a call of a built-in that stands under a module's name -/
theorem re_callBf {id : String} {r : List V → Hp → VK → Prop} (hc : CallR X (.builtin id) r) (hm : X.mg x = some (.builtin id)) (ha : RA X W p ρ c (e :: es) (.val ds c1)) (hr : CV X.K p r ds d nw c1)
    (hg : Gl X x := by rfl) (hdb : (x == ("__debug__" : Str)) = false := by decide)
    (he : starEach (e :: es) X.env = (false, eval e X.env) :: starEach es X.env := by rfl) (hpl : (backTo pos (starEach es X.env)).any (·.1) = false := by rfl) : RE X W p ρ c (.Call (.Name x xp) (e :: es) [] pos) (.val d nw c1) :=
  pe_imp (pe_callBfun hc hg hm ha hdb he hpl) fun σ H Q ⟨s, k⟩ => ⟨s, fun vs H1 e1 p1 dvs => hr vs H1 Q dvs p1 fun w H2 e2 p2 dw hn => k w H2 (e1.trans e2) p2 dw fun q => (hn q).back e1⟩
end
/-- // by any int but 0 -/
theorem op_fdivA {X : Cx} : OpR X (binaryOp .FloorDiv) (rI (fun _ j => j ≠ 0 ∧ j.natAbs.log2 < 9000) fun i j => .int (i.fdiv j)) := opI fun i j _ _ _ _ _ hc q => floordiv_int hc.1 q (.inl (PyProof.noPylong_of_log2 hc.2))
theorem log_lt {m : Int} {n : Nat} (h : m.natAbs < 2 ^ n) (hn : 0 < n) : m.natAbs.log2 < n := PySem.Flt.log2_lt_of hn h
end LA

/-! keyword-only parameters with defaults; sum, max; {}; a pair with the list that changed -/
namespace LA
open PySem PySem.Spec PyProof.Rows L2
section
variable {X : Cx} {W : WX} {p : HD} {ρ ρ1 : Rho} {c c1 c2 : PC} {sts : List Stmt} {pos : Pos} {ds xs : List D} {b : D} {nw : Bool} {K : PySem.W.Frag} {g : G}
theorem rso_pair {a : Addr} (h : RSs X W (p.mut a) ρ c1 sts (.rt (.tup [.mut c.length, b]) nw (c ++ [.lst ds]))) (lb : lowD c.length b = true) : RSo X W p [a] ρ c1 sts (.rt (.tup [.lst ⟨false, true⟩ ds, b]) false c) := by
  refine pss_imp h fun De σ H q0 => ?_
  obtain ⟨H0, σ0, ρ0, c0, na, e1, q, hl, s⟩ := q0
  refine ⟨s, fun v H2 e2 p2 dv _ => ?_⟩
  have hz : a ∉ p.z := fun z => by
    obtain ⟨o, ho⟩ := (st_sr q).pl.2 a z
    rw [(na a List.mem_cons_self).1] at ho
    cases ho
  have hlen : p.m.length = c.length := by
    have := p2.1.2.1
    rw [List.length_append] at this
    have e : (p.m ++ [a]).length = c.length + 1 := this
    rw [List.length_append] at e
    exact Nat.succ.inj e
  have po : PoolAt X.K p H2 c := by
    have z := PoolAt.out (p := p) p2
    rw [hlen, List.take_left'] at z
    · exact z
    · rfl
  have ha : (p.m ++ [a])[c.length]? = some a := by
    rw [← hlen, List.getElem?_append_right (Nat.le_refl _)]
    simp
  have nda : a ∉ p.m := (na a List.mem_cons_self).2
  obtain ⟨vs, hv, dvs⟩ : CellAt X.K (p.mut a) H2 a (.lst ds) := p2.1.2.2 c.length a (.lst ds) ha (by simp)
  have vis : hide p H2 a = some (.lst vs) := by
    rw [hide_ne]
    · exact hv
    · rintro (z | z)
      · exact nda z
      · exact hz z
  refine q.2 v H2 (ext_muts (as := [a]) na e1 e2) po ?_ fun z => nomatch z
  cases dv with
  | tup hq r =>
    cases r with
    | cons h1 r =>
      cases r with
      | cons h2 r =>
        cases r
        refine .tup (Sub.sqT sub_mut hq) (.cons ?_ (.cons (h2.low (n := c.length) sub_mut (fun i b li hi => at_mut (by rw [hlen]; exact li) hi) lb) .nil))
        generalize hm : D.mut c.length = dm at h1
        cases h1 <;> cases hm
        rename_i b hb
        have eb : b = a := by
          have hb' : (p.m ++ [a])[c.length]? = some b := hb
          rw [ha] at hb'
          exact (Option.some.inj hb').symm
        subst eb
        exact .lst ⟨(fun z => nomatch z), fun _ => vis⟩ (.inl (.inl vis)) (dvs.sub (fun b o y => by rw [hide_flat] at y; exact sub_mut b o y) fun i b z => by simp [HD.flat] at z)
theorem re_dct0 : RE X W p ρ c (.Dict [] [] pos) (.val (.dct []) true c) :=
  pe_imp pe_dnewK fun σ H Q ⟨s, k⟩ => fun L nL => by
    have pq : PoolAt X.K p (upd H L (.dK [])) c := s.pl.upd nL
    refine k _ _ (Ext.new nL) pq (.dct (.inl (hide_upd s.pl nL)) .nil) fun _ => (fun b z => by
      cases z
      exact ⟨⟨nL, s.pl.not nL ∘ Or.inl⟩, s.pl.also nL, fun g ds z => nomatch z⟩)
theorem cv_sum {ns : List Int} : CV K p (rSum K) [.lst g (ns.map D.int)] (.int ns.sum) true c := fun vs H Q dvs hp k => by
  cases dvs with
  | cons h r =>
    cases r
    cases h with
    | lst hb hq ha =>
      rw [of_ints ha] at hq
      exact ⟨_, ns, rfl, un_sqL hq, k _ H (Ext.refl p H) hp (.int _) fun _ => New.sc (by intro a h; cases h)⟩
def mxL (ns : List Int) : Int := ns.tail.foldl max (ns.headD 0)
theorem mxL_ok : ∀ {ns : List Int} {m : Int}, m ∈ ns → (∀ y ∈ ns, y ≤ m) → m = mxL ns := by
  have key : ∀ (r : List Int) (a : Int), a ≤ r.foldl max a ∧ (∀ y ∈ r, y ≤ r.foldl max a) ∧ (r.foldl max a = a ∨ r.foldl max a ∈ r) := fun r => by
    induction r with
    | nil => exact fun a => ⟨Int.le_refl _, (fun y h => nomatch h), .inl rfl⟩
    | cons b r ih =>
      intro a
      obtain ⟨h1, h2, h3⟩ := ih (max a b)
      refine ⟨Int.le_trans (Int.le_max_left a b) h1, fun y hy => ?_, ?_⟩
      · rcases List.mem_cons.mp hy with rfl | hy
        · exact Int.le_trans (Int.le_max_right a y) h1
        · exact h2 y hy
      · show (r.foldl max (max a b) = a) ∨ r.foldl max (max a b) ∈ b :: r
        rcases h3 with h3 | h3
        · rw [h3]
          by_cases q : a ≤ b
          · rw [Int.max_eq_right q]
            exact .inr List.mem_cons_self
          · rw [Int.max_eq_left (by omega)]
            exact .inl rfl
        · exact .inr (List.mem_cons_of_mem _ h3)
  intro ns m hm hy
  cases ns with
  | nil => cases hm
  | cons a r =>
    obtain ⟨h1, h2, h3⟩ := key r a
    have u : mxL (a :: r) ≤ m := by
      rcases h3 with h3 | h3
      · show r.foldl max a ≤ m
        rw [h3]
        exact hy a List.mem_cons_self
      · exact hy _ (List.mem_cons_of_mem _ h3)
    have l : m ≤ mxL (a :: r) := by
      rcases List.mem_cons.mp hm with rfl | hm
      · exact h1
      · exact h2 m hm
    exact Int.le_antisymm l u
theorem cv_maxL {ns : List Int} (h0 : 0 < ns.length) : CV K p (rMax K) [.lst g (ns.map D.int)] (.int (mxL ns)) true c := fun vs H Q dvs hp k => by
  cases dvs with
  | cons h r =>
    cases r
    cases h with
    | lst hb hq ha =>
      rw [of_ints ha] at hq
      refine ⟨_, ns, rfl, un_sqL hq, h0, fun m h1 h2 => ?_⟩
      rw [mxL_ok h1 h2]
      exact k _ H (Ext.refl p H) hp (.int _) fun _ => New.sc (by intro a h; cases h)
end
/-! ### defs with keyword-only parameters that have defaults -/
structure Gk (K : PySem.W.Frag) (x : Str) (st : Stmt) (kws : List (Str × V)) : Prop where
  ex : ∃ f fd, PySem.W.nsIn K mainGlobals x = some (some (.ref f)) ∧ FunD K x x (defArgs st) (defBody st) (defScope st) [] kws f fd
section
variable {K : PySem.W.Frag} {x qual : Str} {params : Arguments} {body : List Stmt} {scope : Scope} {kws : List (Str × V)} {f : Addr} {fd : FuncData} {ps : List Str}
theorem gk1_mk {x k1 : Str} {st : Stmt} {f T : Addr} {oc dc pm cd ct : Value} {od an : Option Addr} {sl : Array (Option Value)} (a : PySem.W.nsIn K mainGlobals x = some (some (.ref f)))
    (l : K.lookup f = some ⟨oc, od, .func (PySem.W.fnOf x x (defArgs st) (defBody st) (defScope st) .none (.ref T) dc pm an cd ct), sl⟩) (n1 : PySem.W.nsIn K T k1 = some (some .none)) (c : PySem.W.codeIn K cd x = true) (k : PySem.W.keepIn K (.ref f) = true) : Gk K x st [(k1, .non)] :=
  ⟨⟨f, _, a, ⟨⟨oc, od, .none, .ref T, dc, pm, an, cd, ct, sl, rfl, l, c, .inl ⟨rfl, rfl⟩, .inr ⟨T, rfl, fun q hq => by
    rw [List.mem_singleton.mp hq]
    exact ⟨.none, n1, rfl⟩⟩⟩, k⟩⟩⟩
theorem gk2_mk {x k1 k2 : Str} {st : Stmt} {f T : Addr} {oc dc pm cd ct : Value} {od an : Option Addr} {sl : Array (Option Value)} (a : PySem.W.nsIn K mainGlobals x = some (some (.ref f)))
    (l : K.lookup f = some ⟨oc, od, .func (PySem.W.fnOf x x (defArgs st) (defBody st) (defScope st) .none (.ref T) dc pm an cd ct), sl⟩) (n1 : PySem.W.nsIn K T k1 = some (some .none)) (n2 : PySem.W.nsIn K T k2 = some (some .none)) (c : PySem.W.codeIn K cd x = true) (k : PySem.W.keepIn K (.ref f) = true) : Gk K x st [(k1, .non), (k2, .non)] :=
  ⟨⟨f, _, a, ⟨⟨oc, od, .none, .ref T, dc, pm, an, cd, ct, sl, rfl, l, c, .inl ⟨rfl, rfl⟩, .inr ⟨T, rfl, fun q hq => by
    rcases List.mem_cons.mp hq with rfl | hq
    · exact ⟨.none, n1, rfl⟩
    · rw [List.mem_singleton.mp hq]
      exact ⟨.none, n2, rfl⟩⟩⟩, k⟩⟩⟩
/-- f(e, .., k = v, ..): keywords named ks are written, those named ms lack (defaults None) -/
theorem FunD.kbinds0 (F : FunD K x qual params body scope [] kws f fd) (n : Nat) (ks ms : List Str) (g : List Value → List Value → List Value) (gV : List V → List V → List V) (hk : kws ≠ []) (hms : ∀ q ∈ ms, (q, V.non) ∈ kws)
    (hrel : ∀ {vs : List V} {us : List Value} {zs : List V} {ws : List Value}, Vals vs us → Vals zs ws → Vals (gV vs zs) (g us ws))
    (h : ∀ (D : Addr) (doc pm : Value) (an : Option Addr) (cdv ct : Value) (us ws : List Value), us.length = n → ws.length = ks.length →
      KwChain D (ms.map fun m => (m, Value.none)) (bindArgs (PySem.W.fnOf x qual params body scope .none (.ref D) doc pm an cdv ct) ⟨us, ks.zip ws⟩) (ps.zip (g us ws))) : KBn K fd ps n ks g gV := by
  obtain ⟨oc, od, dV, kV, doc, pm, an, cdv, ct, osl, rfl, lk, hcd, hD, hK⟩ := F.ex
  rcases hD with ⟨_, rfl⟩ | ⟨e, _⟩
  · rcases hK with e | ⟨D, rfl, hq⟩
    · exact absurd e hk
    · refine ⟨fun s us ws X l1 l2 => BindsTo.of_looks fun M => KwChain.looks X (fun q hqm => ?_) (h D doc pm an cdv ct us ws l1 l2), hrel⟩
      obtain ⟨m, hm, rfl⟩ := List.mem_map.mp hqm
      obtain ⟨u, e1, e2⟩ := hq _ (hms m hm)
      have e3 : u = Value.none := by cases u <;> first | rfl | exact absurd e2 (by intro z; cases z)
      rw [e3] at e1
      exact e1
  · exact absurd rfl e
end
/-! ### zip of two lists -/
def zipLL (xs ys : List D) : List D := (List.range (min xs.length ys.length)).map fun i => D.tup [xs.getD i .non, ys.getD i .non]
theorem zipLL_at {xs ys : List D} {i : Nat} {d : D} (h : (zipLL xs ys)[i]? = some d) : i < min xs.length ys.length ∧ d = D.tup [xs.getD i .non, ys.getD i .non] := by
  have l := (List.getElem?_eq_some_iff.mp h).1
  unfold zipLL at h l
  rw [List.length_map, List.length_range] at l
  rw [List.getElem?_map, List.getElem?_range l] at h
  exact ⟨l, (Option.some.inj h).symm⟩
section
variable {X : Cx} {W : WX} {p : HD} {ρ : Rho} {c c1 : PC} {e e2 : Expr} {pos : Pos}
theorem ri_zLL {ps tpos : Pos} {elts : List Expr} {kk : Nat} {g g2 : LA.G} {xs ys : List D} (hm : X.mg "zip" = none) (h : RA X W p ρ c [e, e2] (.val [.lst g xs, .lst g2 ys] c1)) (hg : Gl X "zip" := by rfl)
    (hs : starEach [e, e2] X.env = (false, eval e X.env) :: starEach [e2] X.env := by rfl) (hpl : (backTo pos (starEach [e2] X.env)).any (·.1) = false := by rfl) :
    RI X W p ρ c (.Tuple elts kk tpos) (.Call (.Name "zip" ps) [e, e2] [] pos) (zipLL xs ys) c1 :=
  pi_imp (pi_zip hg hm h hs hpl) fun σ H R ⟨s, k⟩ => ⟨s, fun vs H1 e1 p1 dvs => by
    match vs, dvs with
    | _, .cons (.lst (a := a) (xs := ws) hb hq r) (.cons (.lst (a := a2) (xs := ws2) hb2 hq2 r2) .nil) =>
      refine ⟨a, a2, ws, ws2, rfl, un_sqL hq, un_sqL hq2, k _ H1 e1 p1 fun q c' H2 qe qs p2 => ?_⟩
      have hq3 : SqL X.K H2 a ws := un_sqL (qs.sqL hq)
      have hq4 : SqL X.K H2 a2 ws2 := un_sqL (qs.sqL hq2)
      have len : (zipLL xs ys).length = min ws.length ws2.length := by
        unfold zipLL
        rw [List.length_map, List.length_range, r.length, r2.length]
      refine ⟨⟨ws, ws2, hq3, hq4, by omega⟩, fun i d hd => ?_⟩
      obtain ⟨li, rfl⟩ := zipLL_at hd
      have lx : i < xs.length := Nat.lt_of_lt_of_le li (Nat.min_le_left _ _)
      have ly : i < ys.length := Nat.lt_of_lt_of_le li (Nat.min_le_right _ _)
      obtain ⟨v, h1, h2⟩ := r.get (List.getElem?_eq_getElem lx)
      obtain ⟨v2, h3, h4⟩ := r2.get (List.getElem?_eq_getElem ly)
      refine ⟨⟨ws, ws2, v, v2, hq3, hq4, h1, h3⟩, fun x H3 y => ?_⟩
      obtain ⟨T, w, w2, rfl, hT, rfl, hw, hw2⟩ := y
      obtain rfl : w = v := Option.some.inj ((hw ws hq3).symm.trans h1)
      obtain rfl : w2 = v2 := Option.some.inj ((hw2 ws2 hq4).symm.trans h3)
      have ex : xs.getD i .non = xs[i] := by
        rw [List.getD_eq_getElem?_getD, List.getElem?_eq_getElem lx]
        rfl
      have ey : ys.getD i .non = ys[i] := by
        rw [List.getD_eq_getElem?_getD, List.getElem?_eq_getElem ly]
        rfl
      rw [ex, ey]
      exact ⟨Ext.new hT, p2.upd hT, .tup (.inl (.inl (hide_upd p2 hT))) (.cons ((h2.sub qs (fun i b zz => by rw [qe]; exact zz)).mono (Ext.new hT)) (.cons ((h4.sub qs (fun i b zz => by rw [qe]; exact zz)).mono (Ext.new hT)) .nil))⟩⟩
end
section
variable {X : Cx} {W : WX} {p : HD} {ρ ρ1 : Rho} {c c1 c2 : PC} {e : Expr} {es : List Expr} {pos xp : Pos} {k : Nat} {x : Str} {ps : List Str} {R : FSpec} {C : Addr} {fs : List (Str × D)} {d : D} {nw : Bool} {st : Stmt} {rest : List Stmt} {o : EO}
theorem body_cons (h1 : RS X W p ρ c st (.nx ρ1 c1)) (h2 : BodyOk X W p ρ1 c1 rest o) (hl : ρ1.length = ρ.length := by rfl) : BodyOk X W p ρ c (st :: rest) o := by
  cases o with
  | val d nw c' =>
    rcases h2 with h2 | ⟨h, ρ', h2⟩
    · exact .inl (rss_cons h1 h2 hl)
    · exact .inr ⟨h, ρ', rss_cons h1 h2 hl⟩
  | ex C fs c' => exact rss_cons h1 h2 hl
theorem re_c0Z (T : Def0 X.prog X.w X.K X.mg X.base k x ps R) (hr : Room k X.A) (ha : RA X W p ρ c (e :: es) (.ex C fs c1))
    (hg : Gl X x := by rfl) (hdb : (x == ("__debug__" : Str)) = false := by decide) (he : starEach (e :: es) X.env = (false, eval e X.env) :: starEach es X.env := by rfl) (hpl : (backTo pos (starEach es X.env)).any (·.1) = false := by rfl) :
    RE X W p ρ c (.Call (.Name x xp) (e :: es) [] pos) (.ex C fs c1) := by
  obtain ⟨f, fd, h1, h2, h3, h4⟩ := T.ex
  exact pe_imp (pe_call h1 hr hg h2 h3 h4 .nil pass0 ha hdb he hpl) fun σ H Q h => h
theorem ra_consZ (ha : RE X W p ρ c e (.val d nw c1)) (hr : RA X W p ρ c1 es (.ex C fs c2)) (hs : starEach (e :: es) X.env = (false, eval e X.env) :: starEach es X.env := by rfl) : RA X W p ρ c (e :: es) (.ex C fs c2) :=
  pa_imp (pa_cons ha hr hs) fun σ H Q ⟨s, k⟩ => ⟨s, fun v H1 e1 p1 dv _ => ⟨s.mono e1 p1, fun dx fv σ' H' e2 s2 hx hf => k dx fv σ' H' (e1.trans e2) s2 hx hf⟩⟩
end
section
variable {X : Cx} {W : WX} {p : HD} {ρ : Rho} {c c1 : PC} {e tg : Expr} {pos : Pos} {nw : Bool}
theorem ri_rangeN {ps : Pos} {m : Nat} (hm : X.mg "range" = none) (h : RE X W p ρ c e (.val (.int ((m : Nat) : Int)) nw c1)) (h1 : m ≤ 100000) (hg : Gl X "range" := by rfl) (hs : starEach [e] X.env = [(false, eval e X.env)] := by rfl) : RI X W p ρ c tg (.Call (.Name "range" ps) [e] [] pos) (intsD m) c1 := by
  have q := ri_range (tg := tg) (ps := ps) (pos := pos) hm h (by omega) (by omega) hg hs
  rw [Int.toNat_natCast] at q
  exact q
end
end LA

/-! a def that gives a pair, the first of it a list that nobody else sees -/
namespace LA
open PySem PySem.Spec PyProof.Rows L2
theorem dvs_intL {K : PySem.W.Frag} {p : HD} {H : Hp} : ∀ ns : List Int, DVs K p H (ns.map V.int) (ns.map D.int)
  | [] => .nil
  | n :: r => .cons (.int n) (dvs_intL r)
theorem low_intL (n : Nat) : ∀ ns : List Int, lowDs n (ns.map D.int) = true
  | [] => rfl
  | _ :: r => low_intL n r
section
variable {X : Cx} {W : WX} {p : HD} {as : List Addr} {ρ ρ1 ρ' : Rho} {c c1 c2 c3 : PC} {e : Expr} {st : Stmt} {sts rest : List Stmt} {pos pos' : Pos} {g : G} {ds ds2 : List D} {so : SO} {d : D} {w : Ends → L2.St → Hp → Prop}
/-- within, with whatever is wanted without -/
def tW (K : PySem.W.Frag) (p : HD) (as : List Addr) (ρ : Rho) (c : PC) (w : Ends → L2.St → Hp → Prop) : TS := fun De σ H => ∃ (H0 : Hp) (σ0 : L2.St), (∀ a ∈ as, H0 a = none ∧ a ∉ p.m) ∧ Ext p H0 H ∧ w De σ0 H0 ∧ (∀ a ∈ p.z, ∃ o, H0 a = some o) ∧ SR K (p.muts as) H σ ρ c
theorem tw_of (h : PSs X sts (tW X.K p [] ρ c w)) : PSs X sts (fun De σ H => w De σ H ∧ SR X.K p H σ ρ c) := pss_imp h fun De σ H q => ⟨H, σ, (fun _ m => nomatch m), Ext.refl _ _, q.1, q.2.pl.2, q.2⟩
theorem tw_cons (h1 : RS X W (p.muts as) ρ c st (.nx ρ1 c1)) (h2 : PSs X rest (tW X.K p as ρ1 c1 w)) : PSs X (st :: rest) (tW X.K p as ρ c w) := by
  refine pss_imp (pss_cons h1 h2) fun De σ H ⟨H0, σ0, na, e1, h, z, s⟩ => ⟨s, fun σ1 H1 e2 s1 => ⟨H0, σ0, na, ext_muts na e1 e2, h, z, s1⟩⟩
theorem tw_new (i : Nat) (h : RN X (p.muts as) ρ c st i (.lst g ds) c1) (hds : lowDs 0 ds = true)
    (hr : ∀ a, PSs X rest (tW X.K p (a :: as) (ρ.set i (some (.mut c1.length))) (c1 ++ [.lst ds]) w)) : PSs X (st :: rest) (tW X.K p as ρ c w) := by
  have PU : PSs X rest (fun De σ H => ∃ a, tW X.K p (a :: as) (ρ.set i (some (.mut c1.length))) (c1 ++ [.lst ds]) w De σ H) := ⟨fun pins s σ H De I ⟨a, h2⟩ => (hr a).run pins s σ H De I h2⟩
  refine pss_imp (pss_cons h PU) fun De σ H ⟨H0, σ0, na, e1, q, z, s⟩ => ⟨s, fun v H1 e2 p1 dv hn => ?_⟩
  cases dv with
  | @lst a vs _ _ hb hq r =>
    obtain ⟨⟨nA, nm⟩, pa, hc⟩ := hn a rfl
    obtain ⟨vs', hv, dvs⟩ := hc _ _ rfl
    have n0 : H0 a = none ∧ a ∉ p.m := by
      have nmp : a ∉ p.m := fun z => nm (by
        have key : ∀ (as : List Addr), a ∈ (p.muts as).m := fun as => by
          induction as with
          | nil => exact z
          | cons b r ih => exact List.mem_append.mpr (.inl ih)
        exact key as)
      refine ⟨?_, nmp⟩
      cases q0 : H0 a with
      | none => rfl
      | some o =>
        rw [e1 a o nmp q0] at nA
        cases nA
    exact ⟨a, H0, σ0, fun b m => (List.mem_cons.mp m).elim (fun z => by rw [z]; exact n0) (na b), ext_muts na e1 e2, q, z, s.in' nA nm e2 pa hv dvs hds⟩
/-- what is wished at the end: the pair, its list seen by nobody else -/
def wPair (K : PySem.W.Frag) (p : HD) (c : PC) (ns : List Int) (i : Int) : Ends → L2.St → Hp → Prop := fun De _ H0 => ∀ (a T : Addr) (H1 : Hp), Ext p H0 H1 → (H0 a = none ∧ a ∉ p.m) → PoolAt K (p.also a) H1 c → H1 a = some (.lst (ns.map V.int)) → SqT K H1 T [.ref a, .int i] → De.rt (.ref T) H1
theorem tw_pair {a : Addr} {nw : Bool} {ns : List Int} {i : Int} (h : RSs X W (p.mut a) ρ (c ++ [.lst (ns.map D.int)]) sts (.rt (.tup [.mut c.length, .int i]) nw (c ++ [.lst (ns.map D.int)]))) : PSs X sts (tW X.K p [a] ρ (c ++ [.lst (ns.map D.int)]) (wPair X.K p c ns i)) := by
  refine pss_imp h fun De σ H ⟨H0, σ0, na, e1, q, z0, s⟩ => ⟨s, fun v H2 e2 p2 dv _ => ?_⟩
  have hlen : p.m.length = c.length := by
    have := p2.1.2.1
    rw [List.length_append] at this
    have e : (p.m ++ [a]).length = c.length + 1 := this
    rw [List.length_append] at e
    exact Nat.succ.inj e
  have ha : (p.m ++ [a])[c.length]? = some a := by
    rw [← hlen, List.getElem?_append_right (Nat.le_refl _)]
    simp
  have nda : a ∉ p.m := (na a List.mem_cons_self).2
  obtain ⟨vs, hv, dvs⟩ : CellAt X.K (p.mut a) H2 a (.lst (ns.map D.int)) := p2.1.2.2 c.length a (.lst (ns.map D.int)) ha (by simp)
  rw [of_ints dvs] at hv
  have eF := ext_muts (as := [a]) na e1 e2
  have pa : PoolAt X.K (p.also a) H2 c := by
    refine ⟨⟨(List.nodup_append.mp (show (p.m ++ [a]).Nodup from p2.1.1)).1, hlen, fun j b y hb hy => ?_⟩, fun b m => ?_⟩
    · have lt : j < c.length := (List.getElem?_eq_some_iff.mp hy).1
      have q1 : CellAt X.K (p.mut a) H2 b y := p2.1.2.2 j b y (mut_at hb) (by rw [List.getElem?_append_left lt]; exact hy)
      refine q1.sub (fun x o hx => ?_) rfl
      obtain ⟨h1, h2⟩ := hide_some hx
      rw [hide_ne]
      · exact h1
      · rintro (z | z)
        · exact h2 (.inl (List.mem_append.mpr (.inl z)))
        · rcases List.mem_cons.mp z with rfl | z
          · exact h2 (.inl (List.mem_append.mpr (.inr List.mem_cons_self)))
          · exact h2 (.inr z)
    · rcases List.mem_cons.mp m with rfl | m
      · exact ⟨_, hv⟩
      · exact p2.2 b m
  cases dv with
  | @tup T _ _ hq r =>
    cases r with
    | cons h1 r =>
      cases r with
      | cons h2 r =>
        cases r
        cases h2
        generalize hm : D.mut c.length = dm at h1
        cases h1 <;> cases hm
        rename_i b hb
        have eb : b = a := by
          have hb' : (p.m ++ [a])[c.length]? = some b := hb
          rw [ha] at hb'
          exact (Option.some.inj hb').symm
        subst eb
        exact q _ T H2 eF (na _ List.mem_cons_self) pa hv (un_sqT hq)
/-- two names: a new list, a number -/
def tN2 (K : PySem.W.Frag) (p : HD) (ρ : Rho) (c : PC) (i j : Nat) (ns : List Int) (k : Int) : TS := fun De σ H => SR K p H σ ρ c ∧ ∀ a H', Ext p H H' → (H a = none ∧ a ∉ p.m) → PoolAt K (p.also a) H' c → H' a = some (.lst (ns.map V.int)) → De.nx ((σ.set i (some (.ref a))).set j (some (.int k))) H'
theorem rso_new2 (i j : Nat) {ns : List Int} {k : Int} (h : PS X st (tN2 X.K (p.muts as) ρ c i j ns k))
    (hr : ∀ a, RSo X W p (a :: as) ((ρ.set i (some (.mut c.length))).set j (some (.int k))) (c ++ [.lst (ns.map D.int)]) rest so) : RSo X W p as ρ c (st :: rest) so := by
  have PU : PSs X rest (fun De σ H => ∃ a, tSo X.K W p (a :: as) ((ρ.set i (some (.mut c.length))).set j (some (.int k))) (c ++ [.lst (ns.map D.int)]) so De σ H) := ⟨fun pins s σ H De I ⟨a, h2⟩ => (hr a).run pins s σ H De I h2⟩
  refine pss_imp (pss_cons h PU) fun De σ H ⟨H0, σ0, ρ0, c0, na, e1, q, hl, s⟩ => ⟨s, fun a H1 e2 nA pa hv => ?_⟩
  have nmp : a ∉ p.m := fun z => nA.2 (by
    have key : ∀ (as : List Addr), a ∈ (p.muts as).m := fun as => by
      induction as with
      | nil => exact z
      | cons b r ih => exact List.mem_append.mpr (.inl ih)
    exact key as)
  have n0 : H0 a = none ∧ a ∉ p.m := by
    refine ⟨?_, nmp⟩
    cases q0 : H0 a with
    | none => rfl
    | some o =>
      rw [e1 a o nmp q0] at nA
      cases nA.1
  have dvs : DVs X.K ((p.muts as).also a) H1 (ns.map V.int) (ns.map D.int) := dvs_intL ns
  have low : lowDs 0 (ns.map D.int) = true := low_intL 0 ns
  exact ⟨a, H0, σ0, ρ0, c0, fun b m => (List.mem_cons.mp m).elim (fun z => by rw [z]; exact n0) (na b), ext_muts na e1 e2, q, by rw [List.length_set, List.length_set]; exact hl, (s.in' (i := i) nA.1 nA.2 e2 pa hv dvs low).set j (.int k)⟩
end
/-- a def that gives such a pair -/
def spPair (K : PySem.W.Frag) (R : List D → List Int → Int → Prop) : Sp := fun vs H Q _ => ∃ (p : HD) (c : PC) (ds : List D) (ns : List Int) (i : Int), DVs K p H vs ds ∧ PoolAt K p H c ∧ R ds ns i ∧
  ∀ (a T : Addr) (H1 : Hp), Ext p H H1 → (H a = none ∧ a ∉ p.m) → PoolAt K (p.also a) H1 c → H1 a = some (.lst (ns.map V.int)) → SqT K H1 T [.ref a, .int i] → Q (.ref T) H1
structure DefP (P : Program) (w : World) (K : PySem.W.Frag) (mg : Str → Option Value) (base : Heap) (k : Nat) (x : Str) (ps : List Str) (R : List D → List Int → Int → Prop) : Prop where
  ex : ∃ (f : Addr) (fd : FuncData), FnOk P w K mg base CX0 k f fd ps (spPair K R) ∧ mg x = some (.ref f) ∧ PySem.W.keepIn K (.ref f) = true ∧ Binds K fd ps []
section
variable {P : Program} {w : World} {K : PySem.W.Frag} {mg : Str → Option Value} {base : Heap} {x qual : Str} {st : Stmt} {f : Addr} {fd : FuncData} {N ps : List Str} {k : Nat} {R : List D → List Int → Int → Prop}
theorem fn_pair (F : Fun K x qual st f fd) (S : FnScope N ps (defScope st)) (hl : ∀ ds ns i, R ds ns i → ds.length = ps.length)
    (body : ∀ (cdv : Value) (A : Around) (outer : List Env) (s : Shared) (H : Hp) (E : XK), Room k (A.deeper (envOfC qual (defScope st) s.heap.objs.size f cdv)) → ∀ (p : HD) (ds : List D) (c : PC) (ns : List Int) (i : Int), R ds ns i →
      PSs (cxOf CX0 P w K mg base N qual (defScope st) f cdv A outer s H E).nox (defBody st) (tW K p [] (startR N ds) c (wPair K p c ns i))) : FnOk P w K mg base CX0 (k + 1) f fd ps (spPair K R) := by
  refine F.ok S (fun vs H Q E h => ?_) (fun cdv A outer s H vs Q E hr h => ?_)
  · obtain ⟨p, c, ds, ns, i, h1, _, h3, _⟩ := h
    rw [h1.length]
    exact hl _ _ _ h3
  · obtain ⟨p, c, ds, ns, i, h1, h2, h3, h4⟩ := h
    exact ⟨_, tw_of (body cdv A outer s H E hr p ds c ns i h3), fun a T H1 e1 na pa hv hq => h4 a T H1 e1 na pa hv hq, sr_start h1 h2⟩
end
section
variable {X : Cx} {W : WX} {p : HD} {ρ : Rho} {c c1 : PC} {e : Expr} {es : List Expr} {pos xp q1 q2 tp apos : Pos} {k : Nat} {x a b : Str} {ps : List Str} {R : List D → List Int → Int → Prop} {ds : List D} {ns : List Int} {v : Int} {i j kk : Nat}
/-- a, b = x(e, ..) -/
theorem rn_pair (i j : Nat) (T : DefP X.prog X.w X.K X.mg X.base k x ps R) (hr : Room k X.A) (ha : RA X W p ρ c (e :: es) (.val ds c1)) (ho : R ds ns v) (hN : X.N.Nodup)
    (hg1 : PG X (.Tuple [.Name a q1, .Name b q2] kk tp) (gTup X.K 2 (gCons (gName i) (gCons (gName j) gNil))))
    (hg : Gl X x := by rfl) (hdb : (x == ("__debug__" : Str)) = false := by decide) (he : starEach (e :: es) X.env = (false, eval e X.env) :: starEach es X.env := by rfl) (hpl : (backTo pos (starEach es X.env)).any (·.1) = false := by rfl)
    (hs : swapsWithSole [.Tuple [.Name a q1, .Name b q2] kk tp] (.Call (.Name x xp) (e :: es) [] pos) apos.line X.env = pure false := by rfl) (hw : swappedStores [.Tuple [.Name a q1, .Name b q2] kk tp] (.Call (.Name x xp) (e :: es) [] pos) X.env = pure none := by rfl)
    (h1 : (assignEach [.Tuple [.Name a q1, .Name b q2] kk tp] X.env).map (·.2) = [assign (.Tuple [.Name a q1, .Name b q2] kk tp) X.env] := by rfl) :
    PS X (.Assign [.Tuple [.Name a q1, .Name b q2] kk tp] (.Call (.Name x xp) (e :: es) [] pos) apos) (fun De σ H => SR X.K p H σ ρ c ∧ ∀ ad H', Ext p H H' → (H ad = none ∧ ad ∉ p.m) → PoolAt X.K (p.also ad) H' c1 → H' ad = some (.lst (ns.map V.int)) → De.nx ((σ.set i (some (.ref ad))).set j (some (.int v))) H') := by
  obtain ⟨f, fd, F, hm, hk, hb⟩ := T.ex
  refine ps_imp (ps_asg (pe_call F hr hg hm hk hb .nil pass0 ha hdb he hpl) hg1 hs hw h1) fun De σ H ⟨s, k1⟩ => ⟨s, fun vs H1 e1 p1 dvs => ?_⟩
  refine ⟨p, c1, ds, ns, v, by rw [List.append_nil]; exact dvs, p1, ho, fun ad T H2 e2 na pa hv hq => ?_⟩
  have nH : H ad = none ∧ ad ∉ p.m := by
    refine ⟨?_, na.2⟩
    cases q0 : H ad with
    | none => rfl
    | some o =>
      have := e1 ad o na.2 q0
      rw [na.1] at this
      cases this
  exact ⟨_, _, rfl, hq, rfl, _, _, rfl, _, _, rfl, rfl, k1 ad H2 (e1.trans e2) nH pa hv⟩
end
end LA

/-! tuples added, tuples cut -/
namespace LA
open PySem PySem.Spec PyProof.Rows L2
section
variable {X : Cx} {W : WX} {p : HD} {ρ : Rho} {c c1 c2 c3 : PC} {e : Expr} {lo hi : Option Expr} {ol oh : Option Int} {p2 pos : Pos} {n1 : Bool} {K : PySem.W.Frag} {xs ys : List D}
theorem ov_catA (hz : xs.length + ys.length ≤ 100000) : OV K p (rCatA K) (.tup xs) (.tup ys) (.tup (xs ++ ys)) false c := fun v u H Q dv du hp k => by
  cases dv with
  | @tup a us _ hq r =>
    cases du with
    | @tup b vs _ hq2 r2 =>
      refine ⟨a, b, us, vs, rfl, rfl, un_sqT hq, un_sqT hq2, by rw [r.length, r2.length]; exact sz_le hz, fun h => ?_, fun _ h => ?_, fun _ _ q hn => ?_⟩
      · subst h
        cases r
        exact k _ H (Ext.refl p H) hp (.tup hq2 r2) fun z => nomatch z
      · subst h
        cases r2
        simp only [List.append_nil] at k
        exact k _ H (Ext.refl p H) hp (.tup hq r) fun z => nomatch z
      · exact k _ _ (Ext.new hn) (hp.upd hn) (.tup (.inl (.inl (hide_upd hp hn))) ((r.mono (Ext.new hn)).app (r2.mono (Ext.new hn)))) fun z => nomatch z
theorem re_slT (he : RE X W p ρ c e (.val (.tup xs) n1 c1)) (hl : RP X p ρ c1 lo ol c2) (hh : RP X p ρ c2 hi oh c3) : RE X W p ρ c (.Subscript e (.Slice lo hi none p2) pos) (.val (.tup (cutD xs ol oh)) false c3) :=
  pe_imp (pe_slice sl_tupA he hl hh) fun σ H Q ⟨s, k⟩ => ⟨s, fun v H1 e1 p1 dv _ => ⟨s.mono e1 p1, fun H2 e2 q2 => ⟨s.mono (e1.trans e2) q2, fun H3 e3 q3 => by
    cases (dv.mono e2).mono e3 with
    | @tup a0 us _ hq r =>
      have e4 := (e1.trans e2).trans e3
      have key : DVs X.K p H3 (cutV us ol oh) (cutD xs ol oh) := by
        unfold cutV cutD
        rw [r.length]
        exact dvs_take _ (dvs_drop _ r)
      refine ⟨_, _, rfl, un_sqT hq, fun h => ?_, fun _ a na => ?_⟩
      · refine k _ _ e4 q3 ?_ fun z => nomatch z
        refine .tup hq ?_
        have e : cutV us ol oh = us := by
          unfold cutV
          rw [h.1, h.2, List.drop_zero, Nat.sub_zero, List.take_length]
        rw [e] at key
        exact key
      · exact k _ _ (e4.trans (Ext.new na)) (q3.upd na) (.tup (.inl (.inl (hide_upd q3 na))) (key.mono (Ext.new na))) fun z => nomatch z⟩⟩⟩
end
end LA

/-! what repr asks where ints are larger -/
namespace LA
open PySem PySem.Spec PyProof.Rows L2
structure Wd (w k : Nat) (d : D) : Prop where
  ok : okD false d = true
  sh : (toPy d).showable = true
  lay : (toPy d).canLay0 = true
  ish : PyData.intsShort 302 (toPy d) = true
  wt : (toPy d).weight ≤ w
  dp : (toPy d).depth ≤ k
  nd : (toPy d).hasDict = false
theorem Wd.up {w k w' k' : Nat} {d : D} (h : Wd w k d) (h1 : w ≤ w') (h2 : k ≤ k') : Wd w' k' d := ⟨h.ok, h.sh, h.lay, h.ish, Nat.le_trans h.wt h1, Nat.le_trans h.dp h2, h.nd⟩
theorem wd_non : Wd 300 0 .non := ⟨rfl, by unfold toPy; decide +kernel, by unfold toPy; decide +kernel, by unfold toPy; decide +kernel, by unfold toPy; decide +kernel, by unfold toPy; decide +kernel, by unfold toPy; decide +kernel⟩
theorem wd_bl (b : Bool) : Wd 300 0 (.bl b) := by
  cases b <;> exact ⟨rfl, by unfold toPy; decide +kernel, by unfold toPy; decide +kernel, by unfold toPy; decide +kernel, by unfold toPy; decide +kernel, by unfold toPy; decide +kernel, by unfold toPy; decide +kernel⟩
theorem wd_int {i : Int} (h : i.natAbs.log2 < 299) : Wd 300 0 (.int i) := by
  refine ⟨rfl, ?_, ?_, ?_, ?_, ?_, ?_⟩
  · unfold toPy PyData.showable
    exact decide_eq_true (by omega)
  · unfold toPy PyData.canLay0
    rfl
  · unfold toPy PyData.intsShort PyData.shown
    refine decide_eq_true ?_
    have := PySem.int_text_length_le (a := i) (k := 299) (by decide) h
    have e : (Str.ofString (toString i)).length = (toString i).length := PySem.ofString_length _
    omega
  · unfold toPy PyData.weight
    split <;> omega
  · unfold toPy PyData.depth
    exact Nat.le_refl _
  · unfold toPy PyData.hasDict
    rfl
theorem wd_str {s : Str} (h : PyData.strOk s = true) (hl : s.length ≤ 300) : Wd 300 0 (.str s) :=
  ⟨rfl, by unfold toPy PyData.showable; rfl, by unfold toPy PyData.canLay0; exact h, by unfold toPy PyData.intsShort; rfl, by unfold toPy PyData.weight; exact hl, by unfold toPy PyData.depth; exact Nat.le_refl _, by unfold toPy PyData.hasDict; rfl⟩
theorem wd_all {w k : Nat} : ∀ {ds : List D}, (∀ d ∈ ds, Wd w k d) → okDs false ds = true ∧ PyData.showableAll (toPys ds) = true ∧ PyData.canLayAll0 (toPys ds) = true ∧ PyData.intsShortAll 302 (toPys ds) = true ∧ PyData.weightAll (toPys ds) ≤ (w + 1) * ds.length ∧ PyData.depthAll (toPys ds) ≤ k ∧ PyData.hasDictAll (toPys ds) = false
  | [], _ => ⟨rfl, by unfold toPys; decide +kernel, by unfold toPys; decide +kernel, by unfold toPys; decide +kernel, by unfold toPys PyData.weightAll; omega, by unfold toPys PyData.depthAll; omega, by unfold toPys; decide +kernel⟩
  | d :: r, h => by
    obtain ⟨a1, a2, a3, a4, a5, a6, a7⟩ := h d List.mem_cons_self
    obtain ⟨b1, b2, b3, b4, b5, b6, b7⟩ := wd_all (ds := r) fun x m => h x (List.mem_cons_of_mem _ m)
    unfold okDs toPys PyData.showableAll PyData.canLayAll0 PyData.intsShortAll PyData.weightAll PyData.depthAll PyData.hasDictAll
    rw [a1, a2, a3, a4, a7, b1, b2, b3, b4, b7, List.length_cons]
    refine ⟨rfl, rfl, rfl, rfl, ?_, ?_, rfl⟩
    · rw [Nat.mul_add, Nat.mul_one]
      omega
    · omega
theorem Wd.lst {w k n : Nat} {g : G} {ds : List D} (h : ∀ d ∈ ds, Wd w k d) (hl : ds.length ≤ n) : Wd ((w + 1) * n + 10) (k + 1) (.lst g ds) := by
  obtain ⟨b1, b2, b3, b4, b5, b6, b7⟩ := wd_all h
  have hm : (w + 1) * ds.length ≤ (w + 1) * n := Nat.mul_le_mul_left _ hl
  refine ⟨?_, ?_, ?_, ?_, ?_, ?_, ?_⟩
  · unfold okD
    rw [b1]
    simp
  · unfold toPy PyData.showable
    exact b2
  · unfold toPy PyData.canLay0
    exact b3
  · unfold toPy PyData.intsShort
    exact b4
  · unfold toPy PyData.weight
    omega
  · unfold toPy PyData.depth
    omega
  · unfold toPy PyData.hasDict
    exact b7
theorem Wd.tup {w k n : Nat} {ds : List D} (h : ∀ d ∈ ds, Wd w k d) (hl : ds.length ≤ n) : Wd ((w + 1) * n + 10) (k + 1) (.tup ds) := by
  obtain ⟨b1, b2, b3, b4, b5, b6, b7⟩ := wd_all h
  have hm : (w + 1) * ds.length ≤ (w + 1) * n := Nat.mul_le_mul_left _ hl
  refine ⟨?_, ?_, ?_, ?_, ?_, ?_, ?_⟩
  · unfold okD
    exact b1
  · unfold toPy PyData.showable
    exact b2
  · unfold toPy PyData.canLay0
    exact b3
  · unfold toPy PyData.intsShort
    exact b4
  · unfold toPy PyData.weight
    omega
  · unfold toPy PyData.depth
    omega
  · unfold toPy PyData.hasDict
    exact b7
theorem Wd.shows {w k : Nat} {d : D} (h : Wd w k d) (hw : w ≤ 50000) (hk : k ≤ 60) : Shows d := by
  have h1 := h.wt
  have h2 := h.dp
  refine ⟨by rw [h.nd]; exact h.ok, h.sh, by omega, ?_⟩
  have h := PyData.shown_le 302 (by decide) (toPy d) (PyData.leavesShort_of_canLay0 302 (toPy d) h.lay h.ish)
  have e : sizeLine = 16777216 := by decide
  omega
theorem Wd.one {w k : Nat} {d : D} (h : Wd w k d) {s : Str} (hs : PyData.strOk s = true) (hs2 : s.length ≤ 300) (hw : 300 ≤ w) (hw2 : w ≤ 20000) (hk : k ≤ 50) : Shows (.lst ⟨true, true⟩ [.str s, d]) := by
  refine (Wd.lst (w := w) (k := k) (n := 2) (ds := [.str s, d]) (fun x m => ?_) (Nat.le_refl 2)).shows (by omega) (by omega)
  rcases List.mem_cons.mp m with rfl | m
  · exact (wd_str hs hs2).up hw (Nat.zero_le _)
  · rw [List.mem_singleton.mp m]
    exact h
/-- sums of what lies within bounds -/
theorem sum_in {M : Int} : ∀ {l : List Int}, (∀ x ∈ l, 0 ≤ x ∧ x ≤ M) → 0 ≤ l.sum ∧ l.sum ≤ (l.length : Int) * M
  | [], _ => ⟨Int.le_refl _, by simp⟩
  | a :: r, h => by
    obtain ⟨h1, h2⟩ := h a List.mem_cons_self
    obtain ⟨h3, h4⟩ := sum_in (l := r) fun x m => h x (List.mem_cons_of_mem _ m)
    rw [List.sum_cons, List.length_cons]
    refine ⟨by omega, ?_⟩
    have e : ((r.length + 1 : Nat) : Int) * M = (r.length : Int) * M + M := by
      rw [Int.natCast_add, Int.add_mul]
      simp
    omega
theorem log_of {i : Int} {n : Nat} (h0 : 0 ≤ i) (h : i < 2 ^ n) (hn : 0 < n) : i.natAbs.log2 < n := by
  refine log_lt (n := n) ?_ hn
  have : (i.natAbs : Int) = i := Int.natAbs_of_nonneg h0
  have e : ((2 ^ n : Nat) : Int) = 2 ^ n := by simp
  omega
end LA

namespace K35
open PySem PySem.Spec PyProof.Rows L2 LA
open K36 (ev dep kn nw)
/-! ### ways -/
def pth (w : List Nat) : Tr → List Int
  | .leaf _ => []
  | .node p l r => p :: (if w.getD p.toNat 0 = 48 then pth w l else pth w r)
theorem stG_pth (w : List Nat) : ∀ (n : Nat) (t : Tr) (ps : List Int), n = ln w t → (stG w n t ps).2 = ps ++ pth w t
  | n, .leaf a, ps, h => by
    subst h
    show ps = ps ++ []
    rw [List.append_nil]
  | 0, .node p l r, ps, h => by
    unfold ln at h
    omega
  | n + 1, .node p l r, ps, h => by
    have h' : n = ln w (if w.getD p.toNat 0 = 48 then l else r) := by
      unfold ln at h
      split
      · rename_i q
        rw [if_pos q] at h
        omega
      · rename_i q
        rw [if_neg q] at h
        omega
    have := stG_pth w n _ (ps ++ [p]) h'
    show (stG w n (if w.getD p.toNat 0 = 48 then l else r) (ps ++ [p])).2 = _
    rw [this, List.append_assoc]
    show ps ++ (p :: pth w (if w.getD p.toNat 0 = 48 then l else r)) = ps ++ (p :: (if w.getD p.toNat 0 = 48 then pth w l else pth w r))
    split <;> rfl
theorem pth_len (w : List Nat) : ∀ t : Tr, (pth w t).length = ln w t
  | .leaf _ => rfl
  | .node p l r => by
    have a := pth_len w l
    have b := pth_len w r
    unfold pth ln
    split
    · rw [List.length_cons, a]
    · rw [List.length_cons, b]
theorem ln_dep (w : List Nat) : ∀ t : Tr, ln w t ≤ dep t
  | .leaf _ => Nat.le_refl _
  | .node p l r => by
    have a := ln_dep w l
    have b := ln_dep w r
    show (if w.getD p.toNat 0 = 48 then ln w l else ln w r) + 1 ≤ max (dep l) (dep r) + 1
    split <;> omega
def gnR : List D → List Int → Int → Prop := fun ds ns i => ∃ (t : Tr) (w : List Nat), ds = [trD t, .str (tx w)] ∧ okT (w.length : Nat) t = true ∧ nodes t ≤ 60 ∧ w.length ≤ 6 ∧ ns = pth w t ∧ i = ev w t
/-- what a way asks for: three ends -/
def wayR (BI BT : Addr) (v : Tr → List Nat → D) (nw : Bool) : FSpec := fun ds c o => (∃ d1 d2, ds = [d1, d2] ∧ Fit d2 ∧ isW bins d2 = false ∧ o = .ex BI [("given", d2)] c) ∨
  (∃ (d1 : D) (w : List Nat), ds = [d1, .str (tx w)] ∧ Fit (.str (tx w)) ∧ isW bins (.str (tx w)) = true ∧ w.length ≤ 6 ∧ Deep 40 d1 ∧ isT 40 (w.length : Nat) d1 = false ∧ o = .ex BT [("given", d1)] c) ∨
  ∃ (t : Tr) (w : List Nat), ds = [trD t, .str (tx w)] ∧ Fit (.str (tx w)) ∧ isW bins (.str (tx w)) = true ∧ w.length ≤ 6 ∧ okT (w.length : Nat) t = true ∧ nodes t ≤ 40 ∧ o = .val (v t w) nw c
abbrev cwR (BI BT : Addr) : FSpec := wayR BI BT (fun _ _ => .non) true
abbrev lkR (BI BT : Addr) : FSpec := wayR BI BT (fun t w => .lst ⟨false, true⟩ (iD (pth w t))) true
abbrev taR (BI BT : Addr) : FSpec := wayR BI BT (fun t w => .int (ev w t)) false
/-- the leaves -/
def lvs : Tr → List Nat → List (List Nat × Int)
  | .leaf i, m => [(m, i)]
  | .node p l r, m => if kn m p = 45 then lvs l (nw m p 48) ++ lvs r (nw m p 49) else if kn m p = 48 then lvs l m else lvs r m
def lvD (xs : List (List Nat × Int)) : List D := xs.map fun x => .tup [.str (tx x.1), .int x.2]
theorem lvs_len : ∀ (t : Tr) (m : List Nat), (lvs t m).length ≤ nodes t + 1
  | .leaf _, _ => Nat.le_refl _
  | .node p l r, m => by
    have a := lvs_len l (nw m p 48)
    have b := lvs_len r (nw m p 49)
    have c := lvs_len l m
    have e := lvs_len r m
    unfold lvs nodes
    split
    · rw [List.length_append]
      omega
    · split <;> omega
theorem lvD_len (xs : List (List Nat × Int)) : (lvD xs).length = xs.length := List.length_map ..
theorem lvD_app (xs ys : List (List Nat × Int)) : lvD xs ++ lvD ys = lvD (xs ++ ys) := (List.map_append ..).symm
theorem lvD_low (n : Nat) : ∀ xs : List (List Nat × Int), lowDs n (lvD xs) = true
  | [] => rfl
  | a :: r => lvD_low n r
def lvR (m : Nat) : FSpec := fun ds c o => ∃ (t : Tr) (l : List Nat), ds = [trD t, .str (tx l)] ∧ nodes t ≤ m ∧ m ≤ 60 ∧ okT (l.length : Nat) t = true ∧ l.length ≤ 6 ∧ (∀ a ∈ l, a = 45 ∨ a = 48 ∨ a = 49) ∧ o = .val (.lst ⟨false, true⟩ (lvD (lvs t l))) true c
section
variable {P : Program} {wd : World} {K : PySem.W.Frag} {mg : Str → Option Value} {base : Heap} {BI BT Cn C : Addr}
theorem ok_goneP {f : Addr} {fd : FuncData} (G : Glb mg) (F : Fun K "_gone" "_gone" (top 39) f fd) : FnOk P wd K mg base CX0 1 f fd ["tree", "text"] (spPair K gnR) := by
  refine fn_pair F scGone (fun ds ns i h => ?_) (fun cdv A outer s H E hr p ds c ns i h => ?_)
  · obtain ⟨t, w, rfl, _⟩ := h
    rfl
  · obtain ⟨t, w, rfl, ho, hn, hw, rfl, rfl⟩ := h
    have zt : (tx w).length ≤ sizeLine := sz_le (by rw [tx_len]; omega)
    have lnl := ln_le w t
    let X := (cxOf CX0 P wd K mg base nGone "_gone" (defScope (top 39)) f cdv A outer s H E).nox
    refine tw_new (g := ⟨true, true⟩) (ds := []) (c1 := c) 2 (rn_set (W := Wf) 2 scGone.nd (re_lst ra_nil (by show 0 ≤ 100000; decide))) rfl fun a => ?_
    let ρs : Nat → Rho := fun i => [some (trD (stG w i t []).1), some (.str (tx w)), some (.mut c.length), none, none, none]
    let cs : Nat → PC := fun i => c ++ [.lst (iD (stG w i t []).2)]
    have loop := rs_while (X := X) (W := Wf) (p := HD.muts p [a]) (ρ := ρs 0) (c := cs 0) (t := wTs ((defBody (top 39)).getD 1 (.Pass ⟨0, 0, 0, 0⟩))) (body := wBd ((defBody (top 39)).getD 1 (.Pass ⟨0, 0, 0, 0⟩))) (pos := wPs ((defBody (top 39)).getD 1 (.Pass ⟨0, 0, 0, 0⟩))) (ln w t) ρs cs PassesOwn.never rfl rfl
      (fun i hi => by
        obtain ⟨k, l, r, e1, e2⟩ := stG_step w i t [] hi
        show RT X Wf _ [some (trD (stG w i t []).1), some (.str (tx w)), some (.mut c.length), none, none, none] (cs i) _ (.val true (cs i))
        rw [e1]
        exact rt_val (re_callB (d := .bl true) call_isi G.isi PyProof.Rows.boot_isinstance (ra_cons (re_var 0) (ra_cons (re_ty G.tuple PyProof.Rows.boot_tuple) ra_nil)) (cv_isi (t := "tuple") rfl rfl)))
      (by
        have e1 := stG_end w (ln w t) t [] rfl
        show RT X Wf _ [some (trD (stG w (ln w t) t []).1), some (.str (tx w)), some (.mut c.length), none, none, none] (cs (ln w t)) _ (.val false (cs (ln w t)))
        rw [e1]
        exact rt_val (re_callB (d := .bl false) call_isi G.isi PyProof.Rows.boot_isinstance (ra_cons (re_var 0) (ra_cons (re_ty G.tuple PyProof.Rows.boot_tuple) ra_nil)) (cv_isi (t := "int") rfl rfl)))
      (fun i hi => by
        obtain ⟨k, l, r, e1, e2⟩ := stG_step w i t [] hi
        have oi := stG_ok (n := (w.length : Nat)) w i t [] ho
        rw [e1] at oi
        obtain ⟨hk, _, _⟩ := okT_node oi
        have ek : k = ((k.toNat : Nat) : Int) := (Int.toNat_of_nonneg hk.1).symm
        have hkl : k.toNat < w.length := by omega
        have len := stG_len w i t []
        have at_ : (tx w).cps.toList[k.toNat]? = some (w.getD k.toNat 0) := at_get hkl
        have q48 := ov_eqT (K := K) (p := HD.muts p [a]) (c := cs (i + 1)) (i := chr1 (w.getD k.toNat 0)) (j := chr1 48)
        have c48 : decide (chr1 (w.getD k.toNat 0) = chr1 48) = decide (w.getD k.toNat 0 = 48) := decide_eq_decide.mpr chr_eq
        rw [c48] at q48
        have ecs : cs (i + 1) = c ++ [.lst (iD (stG w i t []).2 ++ [.int k])] := by
          show c ++ [.lst (iD (stG w (i + 1) t []).2)] = _
          rw [e2]
          show c ++ [.lst (((stG w i t []).2 ++ [k]).map D.int)] = _
          rw [List.map_append]
          rfl
        have ers : ρs (i + 1) = [some (trD (if w.getD k.toNat 0 = 48 then l else r)), some (.str (tx w)), some (.mut c.length), none, none, none] := by
          show [some (trD (stG w (i + 1) t []).1), _, _, _, _, _] = _
          rw [e2]
        refine rss_less (ρ1 := [some (trD (if w.getD k.toNat 0 = 48 then l else r)), some (.str (tx w)), some (.mut c.length), some (.int k), some (trD l), some (trD r)]) ?_ (by rw [ers]; exact .same (.same (.same (.skip (.skip (.skip .nil))))))
        show RSs X Wf _ [some (trD (stG w i t []).1), some (.str (tx w)), some (.mut c.length), none, none, none] (cs i) _ _
        rw [e1]
        refine rss_cons (c1 := cs i) (ρ1 := [some (trD (.node k l r)), some (.str (tx w)), some (.mut c.length), some (.int k), some (trD l), some (trD r)]) (rs_tg (re_var 0) (pg_tup rfl (pgs_cons (pg_name (i := 3) scGone.nd rfl (Or.inl rfl)) (pgs_cons (pg_name (i := 4) scGone.nd rfl (Or.inl rfl)) (pgs_cons (pg_name (i := 5) scGone.nd rfl (Or.inl rfl)) pgs_nil)))) (tg_three (vs := [3, 4, 5]) (by decide) (by decide) (by decide))) ?_
        have app := rs_app (X := X) (W := Wf) (p := HD.muts p [a]) (ρ := [some (trD (.node k l r)), some (.str (tx w)), some (.mut c.length), some (.int k), some (trD l), some (trD r)]) (c := cs i) (c1 := cs i) (e := match (wBd ((defBody (top 39)).getD 1 (.Pass ⟨0, 0, 0, 0⟩))).getD 1 (.Pass ⟨0, 0, 0, 0⟩) with | .Expr (.Call _ (e :: _) _ _) _ => e | _ => .Name "" ⟨0, 0, 0, 0⟩) (d := .int k) (nw := false) (ds := iD (stG w i t []).2) (x := "places") (pos := match (wBd ((defBody (top 39)).getD 1 (.Pass ⟨0, 0, 0, 0⟩))).getD 1 (.Pass ⟨0, 0, 0, 0⟩) with | .Expr _ q => q | _ => ⟨0, 0, 0, 0⟩) (cpos := match (wBd ((defBody (top 39)).getD 1 (.Pass ⟨0, 0, 0, 0⟩))).getD 1 (.Pass ⟨0, 0, 0, 0⟩) with | .Expr (.Call _ _ _ q) _ => q | _ => ⟨0, 0, 0, 0⟩) (apos := match (wBd ((defBody (top 39)).getD 1 (.Pass ⟨0, 0, 0, 0⟩))).getD 1 (.Pass ⟨0, 0, 0, 0⟩) with | .Expr (.Call (.Attribute _ _ q) _ _ _) _ => q | _ => ⟨0, 0, 0, 0⟩) (xp := match (wBd ((defBody (top 39)).getD 1 (.Pass ⟨0, 0, 0, 0⟩))).getD 1 (.Pass ⟨0, 0, 0, 0⟩) with | .Expr (.Call (.Attribute (.Name _ q) _ _) _ _ _) _ => q | _ => ⟨0, 0, 0, 0⟩) 2 c.length (re_var 3) ⟨iD (stG w i t []).2, by show (c ++ [_])[c.length]? = _; simp⟩ (by show (c ++ [_])[c.length]? = _; simp) (by rw [List.length_map]; simp at len; omega) rfl
        have es : (cs i).set c.length (.lst (iD (stG w i t []).2 ++ [.int k])) = cs (i + 1) := by
          rw [ecs]
          exact set_last _ _ _
        rw [es] at app
        refine rss_cons app ?_
        by_cases h : w.getD k.toNat 0 = 48
        · rw [if_pos h]
          exact rss_cons (rs_set (nw := false) 0 scGone.nd (re_if (k := true) (rt_to (rt_cmp op_eq (re_ix ix_seq (re_var 1) (re_var 3) (ov_ixS zt ek at_)) re_str q48) (decide_eq_true h)) (fun _ => re_var 4) fun z => nomatch z)) rss_nil
        · rw [if_neg h]
          exact rss_cons (rs_set (nw := false) 0 scGone.nd (re_if (k := false) (rt_to (rt_cmp op_eq (re_ix ix_seq (re_var 1) (re_var 3) (ov_ixS zt ek at_)) re_str q48) (decide_eq_false h)) (fun z => nomatch z) fun _ => re_var 5)) rss_nil)
    refine tw_cons loop ?_
    have e1 := stG_end w (ln w t) t [] rfl
    have e2 : (stG w (ln w t) t []).2 = pth w t := stG_pth w _ t [] rfl
    show PSs X _ (tW K p [a] [some (trD (stG w (ln w t) t []).1), some (.str (tx w)), some (.mut c.length), none, none, none] (c ++ [.lst (iD (stG w (ln w t) t []).2)]) _)
    rw [e1, e2]
    exact tw_pair (W := Wf) (nw := true) (rss_ret (rs_ret (re_tup (ra_cons (re_var 2) (ra_cons (re_var 0) ra_nil)) (by show 2 ≤ 100000; decide))))
abbrev GnP (P : Program) (w : World) (K : PySem.W.Frag) (mg : Str → Option Value) (base : Heap) := DefP P w K mg base 1 "_gone" ["tree", "text"] gnR
theorem ok_cw {f : Addr} {fd : FuncData} (G : Glb mg) (TI : IsInD P wd K mg base) (TC : CkD P wd K mg base BT) (Er : Err1 P wd K mg base "BadInput" "given" BI) (F : Fun K "_check_way" "_check_way" (top 38) f fd) : FnOk P wd K mg base (L2.CX P wd) 45 f fd ["tree", "text"] (spF K (cwR BI BT)) := by
  refine fn_exc F (N := ["tree", "text"]) ⟨rfl, rfl, rfl, by decide +kernel, rfl, by decide +kernel, by decide +kernel⟩ (fun ds c o h => ?_) (fun cdv A outer s H E hr p ds c o h tk => ?_)
  · rcases h with ⟨d1, d2, rfl, _⟩ | ⟨d1, w, rfl, _⟩ | ⟨t, w, rfl, _⟩ <;> rfl
  · rcases h with ⟨d1, d2, rfl, hf, hw, rfl⟩ | ⟨d1, w, rfl, hf, hw, hl, hd, ht, rfl⟩ | ⟨t, w, rfl, hf, hw, hl, ho, hn, rfl⟩
    · exact rss_ex (rs_if (kb := true) (rt_not (rt_val (re_c0 (d := .bl false) TI (hr.mono (by decide)) (ra_cons (re_var 1) ra_nil) ⟨d2, rfl, hf, by rw [show isW (Str.ofString "01").cps.toList d2 = false from hw]⟩))) (fun _ => rss_ex (rs_raiseG rfl tk Er (hr.mono (by decide)) (re_var 1))) fun z => nomatch z)
    · refine rss_cons (c1 := c) (rs_if (kb := false) (rt_not (rt_val (re_c0 (d := .bl true) TI (hr.mono (by decide)) (ra_cons (re_var 1) ra_nil) ⟨_, rfl, hf, by rw [show isW (Str.ofString "01").cps.toList (.str (tx w)) = true from hw]⟩))) (fun z => nomatch z) fun _ => rss_nil) ?_
      exact rss_ex (rs_exprX (re_c1 tk TC hr (ra_cons (re_var 0) (ra_cons (re_callB call_len G.len PySem.boot_len (ra_cons (re_var 1) ra_nil) (cv_lenT (l := w) (by omega))) ra_nil)) ⟨d1, _, rfl, hd, by rw [ht, if_neg Bool.false_ne_true]⟩))
    · refine .inr ⟨rfl, startR ["tree", "text"] [trD t, .str (tx w)], rss_cons (c1 := c) (ρ1 := startR ["tree", "text"] [trD t, .str (tx w)]) (rs_if (kb := false) (rt_not (rt_val (re_c0 (d := .bl true) TI (hr.mono (by decide)) (ra_cons (re_var 1) ra_nil) ⟨_, rfl, hf, by rw [show isW (Str.ofString "01").cps.toList (.str (tx w)) = true from hw]⟩))) (fun z => nomatch z) fun _ => rss_nil) ?_⟩
      exact rss_cons (rs_expr (re_c1 (o := .val .non true c) tk TC hr (ra_cons (re_var 0) (ra_cons (re_callB call_len G.len PySem.boot_len (ra_cons (re_var 1) ra_nil) (cv_lenT (l := w) (by omega))) ra_nil)) ⟨_, _, rfl, deep_tr 40 t hn, by rw [isT_tr 40 t hn, ho, if_pos rfl]⟩)) rss_nil
abbrev CwD (P : Program) (w : World) (K : PySem.W.Frag) (mg : Str → Option Value) (base : Heap) (BI BT : Addr) := Def1 P w K mg base 45 "_check_way" ["tree", "text"] (cwR BI BT)
abbrev nLk : List Str := ["tree", "text", "places", "_"]
theorem scLk : FnScope nLk ["tree", "text"] (defScope (top 30)) := ⟨rfl, rfl, rfl, by decide +kernel, rfl, by decide +kernel, by decide +kernel⟩
theorem ok_lk {f : Addr} {fd : FuncData} (TW : CwD P wd K mg base BI BT) (TG : GnP P wd K mg base) (F : Fun K "looked" "looked" (top 30) f fd) : FnOk P wd K mg base (L2.CX P wd) 46 f fd ["tree", "text"] (spF K (lkR BI BT)) := by
  refine fn_exc F scLk (fun ds c o h => ?_) (fun cdv A outer s H E hr p ds c o h tk => ?_)
  · rcases h with ⟨d1, d2, rfl, _⟩ | ⟨d1, w, rfl, _⟩ | ⟨t, w, rfl, _⟩ <;> rfl
  · rcases h with ⟨d1, d2, rfl, hf, hw, rfl⟩ | ⟨d1, w, rfl, hf, hw, hl, hd, ht, rfl⟩ | ⟨t, w, rfl, hf, hw, hl, ho, hn, rfl⟩
    · exact rss_ex (rs_exprX (re_c1 tk TW hr (ra_cons (re_var 0) (ra_cons (re_var 1) ra_nil)) (.inl ⟨d1, d2, rfl, hf, hw, rfl⟩)))
    · exact rss_ex (rs_exprX (re_c1 tk TW hr (ra_cons (re_var 0) (ra_cons (re_var 1) ra_nil)) (.inr (.inl ⟨d1, w, rfl, hf, hw, hl, hd, ht, rfl⟩))))
    · refine .inl (rso_of (rso_cons (c1 := c) (rs_expr (re_c1 (o := .val .non true c) tk TW hr (ra_cons (re_var 0) (ra_cons (re_var 1) ra_nil)) (.inr (.inr ⟨t, w, rfl, hf, hw, hl, ho, hn, rfl⟩)))) ?_))
      exact rso_new2 2 3 (rn_pair (W := Wf) 2 3 TG (hr.mono (by decide)) (ra_cons (re_var 0) (ra_cons (re_var 1) ra_nil)) ⟨t, w, rfl, ho, by omega, hl, rfl, rfl⟩ scLk.nd (pg_tup rfl (pgs_cons (pg_name (i := 2) scLk.nd rfl (Or.inl rfl)) (pgs_cons (pg_name (i := 3) scLk.nd rfl (Or.inl rfl)) pgs_nil)))) fun a => rso_ret (re_var 2)
abbrev LkD (P : Program) (w : World) (K : PySem.W.Frag) (mg : Str → Option Value) (base : Heap) (BI BT : Addr) := Def1 P w K mg base 46 "looked" ["tree", "text"] (lkR BI BT)
theorem ok_ta {f : Addr} {fd : FuncData} (TW : CwD P wd K mg base BI BT) (TE : EndD P wd K mg base) (F : Fun K "tree_answer" "tree_answer" (top 31) f fd) : FnOk P wd K mg base (L2.CX P wd) 46 f fd ["tree", "text"] (spF K (taR BI BT)) := by
  refine fn_exc F (N := ["tree", "text"]) ⟨rfl, rfl, rfl, by decide +kernel, rfl, by decide +kernel, by decide +kernel⟩ (fun ds c o h => ?_) (fun cdv A outer s H E hr p ds c o h tk => ?_)
  · rcases h with ⟨d1, d2, rfl, _⟩ | ⟨d1, w, rfl, _⟩ | ⟨t, w, rfl, _⟩ <;> rfl
  · rcases h with ⟨d1, d2, rfl, hf, hw, rfl⟩ | ⟨d1, w, rfl, hf, hw, hl, hd, ht, rfl⟩ | ⟨t, w, rfl, hf, hw, hl, ho, hn, rfl⟩
    · exact rss_ex (rs_exprX (re_c1 tk TW hr (ra_cons (re_var 0) (ra_cons (re_var 1) ra_nil)) (.inl ⟨d1, d2, rfl, hf, hw, rfl⟩)))
    · exact rss_ex (rs_exprX (re_c1 tk TW hr (ra_cons (re_var 0) (ra_cons (re_var 1) ra_nil)) (.inr (.inl ⟨d1, w, rfl, hf, hw, hl, hd, ht, rfl⟩))))
    · exact .inl (rss_cons (c1 := c) (ρ1 := startR ["tree", "text"] [trD t, .str (tx w)]) (rs_expr (re_c1 (o := .val .non true c) tk TW hr (ra_cons (re_var 0) (ra_cons (re_var 1) ra_nil)) (.inr (.inr ⟨t, w, rfl, hf, hw, hl, ho, hn, rfl⟩)))) (rss_ret (rs_ret (re_c0 TE (hr.mono (by decide)) (ra_cons (re_var 0) (ra_cons (re_var 1) ra_nil)) ⟨t, w, rfl, ho, by omega, hl, rfl⟩))))
abbrev TaD (P : Program) (w : World) (K : PySem.W.Frag) (mg : Str → Option Value) (base : Heap) (BI BT : Addr) := Def1 P w K mg base 46 "tree_answer" ["tree", "text"] (taR BI BT)
end
end K35

namespace K35
open PySem PySem.Spec PyProof.Rows L2 LA
open K36 (ev dep kn nw nw_len)
/-! ### is_tree, leaves -/
abbrev app2' : List Value → List Value → List Value := fun a b => a ++ b
def itR (Cn : Addr) : FSpec := fun ds c o => (∃ d1 d2, ds = [d1, d2] ∧ Ty d1 ∧ posD d1 7 = false ∧ o = .ex Cn [("given", d1)] c) ∨
  ∃ (n : Nat) (d2 : D), ds = [.int ((n : Nat) : Int), d2] ∧ n ≤ 6 ∧ Deep 40 d2 ∧ o = .val (.bl (isT 40 ((n : Nat) : Int) d2)) true c
def leR (Cn BT : Addr) : FSpec := fun ds c o => (∃ d1 d2, ds = [d1, d2] ∧ Ty d1 ∧ posD d1 7 = false ∧ o = .ex Cn [("given", d1)] c) ∨
  (∃ (n : Nat) (d2 : D), ds = [.int ((n : Nat) : Int), d2] ∧ n ≤ 6 ∧ Deep 40 d2 ∧ isT 40 ((n : Nat) : Int) d2 = false ∧ o = .ex BT [("given", d2)] c) ∨
  ∃ (n : Nat) (t : Tr), ds = [.int ((n : Nat) : Int), trD t] ∧ n ≤ 6 ∧ okT ((n : Nat) : Int) t = true ∧ nodes t ≤ 40 ∧ o = .val (.lst ⟨false, true⟩ (lvD (lvs t (dashL n)))) true c
theorem dash_mem {n : Nat} : ∀ a ∈ dashL n, a = 45 ∨ a = 48 ∨ a = 49 := fun a h => by
  unfold dashL at h
  obtain ⟨l, hl, hx⟩ := List.mem_flatten.mp h
  rw [List.eq_of_mem_replicate hl] at hx
  exact .inl (List.mem_singleton.mp hx)
theorem nw_in {l : List Nat} {p : Int} {c : Nat} (h : ∀ a ∈ l, a = 45 ∨ a = 48 ∨ a = 49) (hc : c = 48 ∨ c = 49) : ∀ a ∈ nw l p c, a = 45 ∨ a = 48 ∨ a = 49 := fun a ha => by
  unfold nw at ha
  rcases List.mem_or_eq_of_mem_set ha with q | q
  · exact h a q
  · rw [q]
    exact .inr hc
section
variable {P : Program} {w : World} {K : PySem.W.Frag} {mg : Str → Option Value} {base : Heap} {BI BT Cn C : Addr}
theorem kn_at {l : List Nat} {p : Int} (h : p.toNat < l.length) : (tx l).cps.toList[p.toNat]? = some (kn l p) := by
  rw [tx_list]
  unfold kn
  rw [List.getD_eq_getElem?_getD, List.getElem?_eq_getElem h]
  rfl
theorem ok_it {f : Addr} {fd : FuncData} (TN : CntD P w K mg base Cn) (T : Def0 P w K mg base 43 "_is_tree" ["value", "many"] (isTR 40)) (F : Fun K "is_tree" "is_tree" (top 29) f fd) : FnOk P w K mg base (L2.CX P w) 44 f fd ["many", "value"] (spF K (itR Cn)) := by
  refine fn_exc F (N := ["many", "value"]) ⟨rfl, rfl, rfl, by decide +kernel, rfl, by decide +kernel, by decide +kernel⟩ (fun ds c o h => ?_) (fun cdv A outer s H E hr p ds c o h tk => ?_)
  · rcases h with ⟨d1, d2, rfl, _⟩ | ⟨n, d2, rfl, _⟩ <;> rfl
  · rcases h with ⟨d1, d2, rfl, t1, h1, rfl⟩ | ⟨n, d2, rfl, hn, hd, rfl⟩
    · exact rss_ex (rs_exprX (re_c1D (es' := [.int 6]) tk TN (hr.mono (by decide)) (ra_cons (re_var 0) ra_nil) (fun q H => sixes) ⟨d1, rfl, t1, by rw [h1, if_neg Bool.false_ne_true]⟩))
    · refine .inl (rss_cons (c1 := c) (ρ1 := startR ["many", "value"] [.int ((n : Nat) : Int), d2]) (rs_expr (re_c1D (es' := [.int 6]) (o := .val .non true c) tk TN (hr.mono (by decide)) (ra_cons (re_var 0) ra_nil) (fun q H => sixes) ⟨_, rfl, ⟨_, rfl⟩, by rw [pos_int hn, if_pos rfl]⟩)) ?_)
      exact rss_ret (rs_ret (re_c0 T hr (ra_cons (re_var 1) (ra_cons (re_var 0) ra_nil)) ⟨d2, _, rfl, hd, rfl⟩))
abbrev nLv : List Str := ["tree", "pattern", "position", "low", "high", "lower", "higher"]
theorem scLv : FnScope nLv ["tree", "pattern"] (defScope (top 42)) := ⟨rfl, rfl, rfl, by decide +kernel, rfl, by decide +kernel, by decide +kernel⟩
theorem ok_lv {f : Addr} {fd : FuncData} (G : Glb mg) (TB : BrD P w K mg base) (F : Fun K "_leaves" "_leaves" (top 42) f fd) (hm : mg "_leaves" = some (.ref f)) (hb : Binds K fd ["tree", "pattern"] []) : ∀ m : Nat, FnOk P w K mg base CX0 (m + 3) f fd ["tree", "pattern"] (spF K (lvR m)) := by
  have leafy : ∀ (i : Int) (l : List Nat) (cdv : Value) (A : Around) (outer : List Env) (s : Shared) (H : Hp) (E : XK) (p : HD) (c : PC), RSs (cxOf CX0 P w K mg base nLv "_leaves" (defScope (top 42)) f cdv A outer s H E).nox Wf p (startR nLv [trD (.leaf i), .str (tx l)]) c (defBody (top 42)) (.rt (.lst ⟨false, true⟩ (lvD (lvs (.leaf i) l))) true c) := fun i l cdv A outer s H E p c =>
    rss_ret (rs_if (kb := true) (rt_not (rt_val (re_callB (d := .bl false) call_isi G.isi PyProof.Rows.boot_isinstance (ra_cons (re_var 0) (ra_cons (re_ty G.tuple PyProof.Rows.boot_tuple) ra_nil)) (cv_isi (t := "int") rfl rfl)))) (fun _ => rss_ret (rs_ret (re_dull (g := ⟨true, true⟩) (re_lst (ra_cons (re_tup (ra_cons (re_var 1) (ra_cons (re_var 0) ra_nil)) (by show 2 ≤ 100000; decide)) ra_nil) (by show 1 ≤ 100000; decide))))) fun z => nomatch z)
  intro m
  induction m with
  | zero =>
    refine fn_val F scLv (fun ds c o h => ?_) (fun ds c o h => ?_) (fun cdv A outer s H E hr p ds c o h => ?_)
    · obtain ⟨t, l, rfl, _⟩ := h
      rfl
    · obtain ⟨t, l, _, _, _, _, _, _, rfl⟩ := h
      exact ⟨_, _, _, rfl⟩
    · obtain ⟨t, l, rfl, hn, _, _, _, _, rfl⟩ := h
      cases t with
      | node p l r =>
        unfold nodes at hn
        omega
      | leaf i => exact .inl (leafy i l cdv A outer s H E p c)
  | succ m ih =>
    have TI : Def0 P w K mg base (m + 3) "_leaves" ["tree", "pattern"] (lvR m) := ⟨⟨f, fd, ih, hm, F.kp, hb⟩⟩
    refine fn_val F scLv (fun ds c o h => ?_) (fun ds c o h => ?_) (fun cdv A outer s H E hr p ds c o h => ?_)
    · obtain ⟨t, l, rfl, _⟩ := h
      rfl
    · obtain ⟨t, l, _, _, _, _, _, _, rfl⟩ := h
      exact ⟨_, _, _, rfl⟩
    · obtain ⟨t, l, rfl, hn, h60, ho, hl6, hin, rfl⟩ := h
      cases t with
      | leaf i => exact .inl (leafy i l cdv A outer s H E p c)
      | node k a b =>
        obtain ⟨hk, ha, hb'⟩ := okT_node ho
        have hkl : k.toNat < l.length := by omega
        unfold nodes at hn
        have zt : (tx l).length ≤ sizeLine := sz_le (by rw [tx_len]; omega)
        have ek : k = ((k.toNat : Nat) : Int) := (Int.toNat_of_nonneg hk.1).symm
        have at_ := kn_at (l := l) (p := k) hkl
        have ixE : RE (cxOf CX0 P w K mg base nLv "_leaves" (defScope (top 42)) f cdv A outer s H E).nox Wf p [some (trD (.node k a b)), some (.str (tx l)), some (.int k), some (trD a), some (trD b), none, none] c (match (defBody (top 42)).getD 2 (.Pass ⟨0, 0, 0, 0⟩) with | .If (.Compare e _ _ _) _ _ _ => e | _ => .Name "" ⟨0, 0, 0, 0⟩) (.val (.str (chr1 (kn l k))) true c) := re_ix ix_seq (re_var 1) (re_var 2) (ov_ixS zt ek at_)
        have q45 := ov_neT (K := K) (p := p) (c := c) (i := chr1 (kn l k)) (j := chr1 45)
        have q48 := ov_eqT (K := K) (p := p) (c := c) (i := chr1 (kn l k)) (j := chr1 48)
        have c45 : decide (chr1 (kn l k) = chr1 45) = decide (kn l k = 45) := decide_eq_decide.mpr chr_eq
        have c48 : decide (chr1 (kn l k) = chr1 48) = decide (kn l k = 48) := decide_eq_decide.mpr chr_eq
        rw [c45] at q45
        rw [c48] at q48
        refine .inl (rss_cons (rs_if (kb := false) (rt_not (rt_val (re_callB (d := .bl true) call_isi G.isi PyProof.Rows.boot_isinstance (ra_cons (re_var 0) (ra_cons (re_ty G.tuple PyProof.Rows.boot_tuple) ra_nil)) (cv_isi (t := "tuple") rfl rfl)))) (fun z => nomatch z) fun _ => rss_nil) ?_)
        refine rss_cons (c1 := c) (ρ1 := [some (trD (.node k a b)), some (.str (tx l)), some (.int k), some (trD a), some (trD b), none, none]) (rs_tg (re_var 0) (pg_tup rfl (pgs_cons (pg_name (i := 2) scLv.nd rfl (Or.inl rfl)) (pgs_cons (pg_name (i := 3) scLv.nd rfl (Or.inl rfl)) (pgs_cons (pg_name (i := 4) scLv.nd rfl (Or.inl rfl)) pgs_nil)))) (tg_three (vs := [2, 3, 4]) (by decide) (by decide) (by decide))) ?_
        unfold lvs
        by_cases h : kn l k = 45
        · rw [if_pos h]
          have hl2 : ∀ ch, (nw l k ch).length = l.length := fun ch => nw_len
          have na := lvs_len a (nw l k 48)
          have nb := lvs_len b (nw l k 49)
          refine rss_cons (c1 := c) (rs_if (kb := false) (rt_to (rt_cmp op_ne ixE re_str q45) (by rw [decide_eq_true h]; rfl)) (fun z => nomatch z) fun _ => rss_nil) ?_
          refine rss_cons (c1 := c) (ρ1 := [some (trD (.node k a b)), some (.str (tx l)), some (.int k), some (trD a), some (trD b), some (.str (tx (nw l k 48))), some (.str (tx (nw l k 49)))]) (rs_tg (d := .tup [.str (tx (nw l k 48)), .str (tx (nw l k 49))]) (nw := true) (re_c0 TB (hr.mono (by omega)) (ra_cons (re_var 1) (ra_cons (re_var 2) ra_nil)) ⟨l, k, rfl, hk.1, hkl, by omega, rfl⟩) (pg_tup rfl (pgs_cons (pg_name (i := 5) scLv.nd rfl (Or.inl rfl)) (pgs_cons (pg_name (i := 6) scLv.nd rfl (Or.inl rfl)) pgs_nil))) (tg_two (vs := [5, 6]) (by decide) (by decide))) ?_
          rw [← lvD_app]
          exact rss_ret (rs_ret (re_bin (n1 := true) (n2 := true) op_cat (re_c0 TI hr (ra_cons (re_var 3) (ra_cons (re_var 5) ra_nil)) ⟨a, nw l k 48, rfl, by omega, by omega, by rw [hl2]; exact ha, by rw [hl2]; exact hl6, nw_in hin (.inl rfl), rfl⟩) (re_c0 TI hr (ra_cons (re_var 4) (ra_cons (re_var 6) ra_nil)) ⟨b, nw l k 49, rfl, by omega, by omega, by rw [hl2]; exact hb', by rw [hl2]; exact hl6, nw_in hin (.inr rfl), rfl⟩) (ov_cat rfl rfl (by rw [lvD_len, lvD_len]; omega))))
        · rw [if_neg h]
          refine rss_ret (rs_if (kb := true) (rt_to (rt_cmp op_ne ixE re_str q45) (by rw [decide_eq_false h]; rfl)) (fun _ => ?_) fun z => nomatch z)
          by_cases h2 : kn l k = 48
          · rw [if_pos h2]
            exact rss_ret (rs_ret (re_c0 TI hr (ra_cons (re_if (k := true) (rt_to (rt_cmp op_eq (re_ix ix_seq (re_var 1) (re_var 2) (ov_ixS zt ek at_)) re_str q48) (decide_eq_true h2)) (fun _ => re_var 3) fun z => nomatch z) (ra_cons (re_var 1) ra_nil)) ⟨a, l, rfl, by omega, by omega, ha, hl6, hin, rfl⟩))
          · rw [if_neg h2]
            exact rss_ret (rs_ret (re_c0 TI hr (ra_cons (re_if (k := false) (rt_to (rt_cmp op_eq (re_ix ix_seq (re_var 1) (re_var 2) (ov_ixS zt ek at_)) re_str q48) (decide_eq_false h2)) (fun z => nomatch z) fun _ => re_var 4) (ra_cons (re_var 1) ra_nil)) ⟨b, l, rfl, by omega, by omega, hb', hl6, hin, rfl⟩))
theorem ok_le {f : Addr} {fd : FuncData} (TN : CntD P w K mg base Cn) (TC : CkD P w K mg base BT) (TL : Def0 P w K mg base 43 "_leaves" ["tree", "pattern"] (lvR 40)) (F : Fun K "leaves" "leaves" (top 33) f fd) : FnOk P w K mg base (L2.CX P w) 45 f fd ["many", "tree"] (spF K (leR Cn BT)) := by
  refine fn_exc F (N := ["many", "tree"]) ⟨rfl, rfl, rfl, by decide +kernel, rfl, by decide +kernel, by decide +kernel⟩ (fun ds c o h => ?_) (fun cdv A outer s H E hr p ds c o h tk => ?_)
  · rcases h with ⟨d1, d2, rfl, _⟩ | ⟨n, d2, rfl, _⟩ | ⟨n, t, rfl, _⟩ <;> rfl
  · rcases h with ⟨d1, d2, rfl, t1, h1, rfl⟩ | ⟨n, d2, rfl, hn, hd, hf, rfl⟩ | ⟨n, t, rfl, hn, ho, hm, rfl⟩
    · exact rss_ex (rs_exprX (re_c1D (es' := [.int 6]) tk TN (hr.mono (by decide)) (ra_cons (re_var 0) ra_nil) (fun q H => sixes) ⟨d1, rfl, t1, by rw [h1, if_neg Bool.false_ne_true]⟩))
    · refine rss_cons (c1 := c) (ρ1 := startR ["many", "tree"] [.int ((n : Nat) : Int), d2]) (rs_expr (re_c1D (es' := [.int 6]) (o := .val .non true c) tk TN (hr.mono (by decide)) (ra_cons (re_var 0) ra_nil) (fun q H => sixes) ⟨_, rfl, ⟨_, rfl⟩, by rw [pos_int hn, if_pos rfl]⟩)) ?_
      exact rss_ex (rs_exprX (re_c1 tk TC hr (ra_cons (re_var 1) (ra_cons (re_var 0) ra_nil)) ⟨d2, ((n : Nat) : Int), rfl, hd, by rw [hf, if_neg Bool.false_ne_true]⟩))
    · refine .inl (rss_cons (c1 := c) (ρ1 := startR ["many", "tree"] [.int ((n : Nat) : Int), trD t]) (rs_expr (re_c1D (es' := [.int 6]) (o := .val .non true c) tk TN (hr.mono (by decide)) (ra_cons (re_var 0) ra_nil) (fun q H => sixes) ⟨_, rfl, ⟨_, rfl⟩, by rw [pos_int hn, if_pos rfl]⟩)) ?_)
      refine rss_cons (c1 := c) (ρ1 := startR ["many", "tree"] [.int ((n : Nat) : Int), trD t]) (rs_expr (re_c1 (o := .val .non true c) tk TC hr (ra_cons (re_var 1) (ra_cons (re_var 0) ra_nil)) ⟨_, ((n : Nat) : Int), rfl, deep_tr 40 t hm, by rw [isT_tr 40 t hm, ho, if_pos rfl]⟩)) ?_
      have e1 : Txt.mul (chr1 45) ((n : Nat) : Int) = tx (dashL n) := mul_tx [45] n
      exact rss_ret (rs_ret (re_c0 TL (hr.mono (by decide)) (ra_cons (re_var 1) (ra_cons (nw := true) (re_to (re_bin op_mulS re_str (re_var 0) (ov_mulS (mulOk_small rfl (by omega)))) (congrArg D.str e1)) ra_nil)) ⟨t, dashL n, rfl, hm, by decide, by rw [dashL_len]; exact ho, by rw [dashL_len]; exact hn, dash_mem, rfl⟩))
end
end K35

namespace K35
open PySem PySem.Spec PyProof.Rows L2 LA
open K36 (ev dep kn nw)
/-! ### an input at which a tree answers otherwise -/
def wrL (n : Nat) (l : List Nat) (t : Tr) : List (List Nat) := (insT n).filter fun w => !decide (ev w t = ansV l w)
def fstD : List (List Nat) → D
  | [] => .non
  | w :: _ => .str (tx w)
def wrR (C BT : Addr) : FSpec := fun ds c o => ∃ (n : Nat) (l : List Nat), n ≤ 6 ∧ l.length = 2 ^ n ∧ Tab l ∧
  ((∃ d, ds = [qD C l, d] ∧ Deep 40 d ∧ isT 40 ((n : Nat) : Int) d = false ∧ o = .ex BT [("given", d)] c) ∨
  ∃ t, ds = [qD C l, trD t] ∧ okT ((n : Nat) : Int) t = true ∧ nodes t ≤ 40 ∧ o = .val (fstD (wrL n l t)) false c)
section
variable {P : Program} {w : World} {K : PySem.W.Frag} {mg : Str → Option Value} {base : Heap} {BI BT Cn C : Addr}
abbrev nWr : List Str := ["question", "tree", "wrong", "text"]
theorem scWr : FnScope nWr ["question", "tree"] (defScope (top 35)) := ⟨rfl, rfl, rfl, by decide +kernel, rfl, by decide +kernel, by decide +kernel⟩
theorem ok_wr {f : Addr} {fd : FuncData} (G : Glb mg) (Q : QC K C) (PM : QProp P w K mg base C "many" (manyR C)) (QCl : QCall P w K mg base C BI) (TC : CkD P w K mg base BT) (TI : AllD P w K mg base Cn "inputs" bins) (TE : EndD P w K mg base) (F : Fun K "wrong_input" "wrong_input" (top 35) f fd) : FnOk P w K mg base (L2.CX P w) 45 f fd ["question", "tree"] (spF K (wrR C BT)) := by
  obtain ⟨g1, fd1, h1, h2, h3⟩ := QCl.ex
  refine fn_exc F scWr (fun ds c o h => ?_) (fun cdv A outer s H E hr p ds c o h tk => ?_)
  · obtain ⟨n, l, _, _, _, h | h⟩ := h
    · obtain ⟨d, rfl, _⟩ := h
      rfl
    · obtain ⟨t, rfl, _⟩ := h
      rfl
  · obtain ⟨n, l, hn, hl, tb, h⟩ := h
    have em : (manyOf l : Int) = ((n : Nat) : Int) := by rw [many_pow hn hl]
    rcases h with ⟨d, rfl, hd, ht, rfl⟩ | ⟨t, rfl, ho, hm, rfl⟩
    · exact rss_ex (rs_exprX (re_c1 tk TC hr (ra_cons (re_var 1) (ra_cons (re_qprop PM Q (hr.mono (by decide)) (re_var 0) ⟨l, rfl, rfl⟩) ra_nil)) ⟨d, _, rfl, hd, by rw [em, ht, if_neg Bool.false_ne_true]⟩))
    · have p64 := pow_64 hn
      refine .inl (rss_cons (c1 := c) (ρ1 := startR nWr [qD C l, trD t]) (rs_expr (re_c1 (o := .val .non true c) tk TC hr (ra_cons (re_var 1) (ra_cons (re_qprop PM Q (hr.mono (by decide)) (re_var 0) ⟨l, rfl, rfl⟩) ra_nil)) ⟨_, _, rfl, deep_tr 40 t hm, by rw [em, isT_tr 40 t hm, ho, if_pos rfl]⟩)) ?_)
      have sel := coll_sel (fun w => !decide (ev w t = ansV l w)) (insT n)
      refine rss_cons (c1 := c) (ρ1 := [some (qD C l), some (trD t), some (.lst ⟨false, true⟩ (wD (wrL n l t))), none]) ?_ ?_
      · show RS _ _ _ _ _ _ (.nx [some (qD C l), some (trD t), some (.lst ⟨false, true⟩ (wD ((insT n).filter fun w => !decide (ev w t = ansV l w)))), none] c)
        rw [← sel]
        refine rs_lc (own := [("text", 3)]) (g := gName 3) (xs := wD (insT n)) 2 (fun i => !decide (ev ((insT n).getD i []) t = ansV l ((insT n).getD i []))) (fun i => .str (tx ((insT n).getD i []))) (fun _ => c) (fun _ => c) (fun i => [some (qD C l), some (trD t), none, some (.str (tx ((insT n).getD i [])))]) (fun _ => false) rfl scWr.nd (ri_lst (re_c1 (o := .val (allV bins n) false c) tk TI (hr.mono (by decide)) (ra_cons (re_qprop PM Q (hr.mono (by decide)) (re_var 0) ⟨l, rfl, rfl⟩) ra_nil) ⟨_, rfl, ⟨_, rfl⟩, by rw [em, pos_int hn, if_pos rfl]; rfl⟩)) (blkOk_by (N := nWr) (sc := defScope (top 35)) (by decide +kernel)) (fun _ _ _ _ _ => pg_name (i := 3) scWr.nd rfl (Or.inl rfl)) (fun i d h => ?_) (fun i d h q s H C' cl fp => ?_) (fun i d h _ q s H C cl fp => re_var 3) (fun _ _ _ _ => rfl) (by rw [insT_wD]; omega)
        · obtain ⟨rfl, _, _⟩ := wD_at h
          exact tg_name (j := 3) (vs := [3]) (by decide)
        · obtain ⟨rfl, _, hmi⟩ := wD_at h
          have hl2 := insT_at hmi
          have okW := okI_in hn hmi
          generalize (insT n).getD i [] = v at *
          have iw : isW bins (.str (tx v)) = true := by
            unfold okI at okW
            exact (Bool.and_eq_true_iff.mp okW).1
          exact pts_one (rt_cmp (n2 := true) op_ne (re_c0 TE (hr.mono (by decide)) (ra_cons (re_var 1) (ra_cons (re_var 3) ra_nil)) ⟨t, v, rfl, by rw [hl2]; exact ho, by omega, by omega, rfl⟩) (re_callO (fs := flds l) (o := .val (.int (ansV l v)) true c) takes0 h2 (hr.mono (by decide)) h3 h1 (re_var 0) (ra_cons (re_var 3) ra_nil) ⟨l, .str (tx v), rfl, tb, str_fit (by omega), by rw [iw, cds_tx, em, hl2, decide_eq_true rfl]; rfl⟩) ov_neI)
      · cases hw : wrL n l t with
        | nil => exact rss_ret (rs_ret (re_if (k := false) (rt_lstB (re_var 2) rfl) (fun z => nomatch z) fun _ => re_old re_non))
        | cons a r => exact rss_ret (rs_ret (re_if (k := true) (rt_lstB (re_var 2) rfl) (fun _ => re_ix ix_seq (re_var 2) re_int (ov_ixL (j := 0) rfl rfl)) fun z => nomatch z))
/-! ### the law's way along -/
theorem stG_stop (w : List Nat) : ∀ (i : Nat) (t : Tr) (ps : List Int), ln w t ≤ i → stG w i t ps = (.leaf (ev w t), ps ++ pth w t)
  | 0, .leaf a, ps, _ => by
    show (Tr.leaf a, ps) = (Tr.leaf a, ps ++ [])
    rw [List.append_nil]
  | i + 1, .leaf a, ps, _ => by
    show (Tr.leaf a, ps) = (Tr.leaf a, ps ++ [])
    rw [List.append_nil]
  | 0, .node p l r, ps, h => by
    unfold ln at h
    omega
  | i + 1, .node p l r, ps, h => by
    have h' : ln w (if w.getD p.toNat 0 = 48 then l else r) ≤ i := by
      unfold ln at h
      split
      · rename_i q
        rw [if_pos q] at h
        omega
      · rename_i q
        rw [if_neg q] at h
        omega
    have := stG_stop w i _ (ps ++ [p]) h'
    show stG w i (if w.getD p.toNat 0 = 48 then l else r) (ps ++ [p]) = _
    rw [this, List.append_assoc]
    show (Tr.leaf (ev w (if w.getD p.toNat 0 = 48 then l else r)), ps ++ (p :: pth w (if w.getD p.toNat 0 = 48 then l else r))) = (Tr.leaf (if w.getD p.toNat 0 = 48 then ev w l else ev w r), ps ++ (p :: (if w.getD p.toNat 0 = 48 then pth w l else pth w r)))
    split <;> rfl
def waR : FSpec := fun ds c o => ∃ (t : Tr) (w : List Nat), ds = [trD t, .str (tx w)] ∧ okT (w.length : Nat) t = true ∧ dep t ≤ 20 ∧ w.length ≤ 6 ∧ (∀ m ∈ w, m ∈ bins) ∧ o = .val (.tup [.lst ⟨false, true⟩ (iD (pth w t)), .int (ev w t)]) true c
abbrev nWa : List Str := ["_law_shape", "_law_word", "_law_found", "_law_turn"]
theorem scWa : FnScope nWa ["_law_shape", "_law_word"] (defScope (top 49)) := ⟨rfl, rfl, rfl, by decide +kernel, rfl, by decide +kernel, by decide +kernel⟩
abbrev fTg (st : Stmt) : Expr := match st with | .For t _ _ _ _ => t | _ => .Constant .none 0 ⟨0, 0, 0, 0⟩
abbrev fIt (st : Stmt) : Expr := match st with | .For _ t _ _ _ => t | _ => .Constant .none 0 ⟨0, 0, 0, 0⟩
abbrev fBd (st : Stmt) : List Stmt := match st with | .For _ _ b _ _ => b | _ => []
abbrev fPs (st : Stmt) : Pos := match st with | .For _ _ _ _ q => q | _ => ⟨0, 0, 0, 0⟩
abbrev waF : Stmt := (defBody (top 49)).getD 1 (.Pass ⟨0, 0, 0, 0⟩)
abbrev waI : List Stmt := match (fBd waF).getD 0 (.Pass ⟨0, 0, 0, 0⟩) with | .If _ b _ _ => b | _ => []
theorem re_intC {X : Cx} {W : WX} {p : HD} {ρ : Rho} {c c1 : PC} {e : Expr} {pos ps : Pos} {nw : Bool} {n : Nat} (hm : X.mg "int" = none) (h : RE X W p ρ c e (.val (.str (chr1 n)) nw c1)) (hi : n = 48 ∨ n = 49) (hg : Gl X "int" := by rfl)
    (he : starEach [e] X.env = (false, eval e X.env) :: starEach [] X.env := by rfl) : RE X W p ρ c (.Call (.Name "int" ps) [e] [] pos) (.val (.int ((n : Int) - 48)) true c1) := by
  refine re_callT call_int_str hm PyProof.Rows.boot_int (ra_cons h ra_nil he) (cv_intS ?_ (by show 1 ≤ 640; decide)) hg (by decide) (by decide) he
  rcases hi with rfl | rfl <;> decide +kernel
theorem ok_wa {f : Addr} {fd : FuncData} (G : Glb mg) (F : Fun K "_law_walk" "_law_walk" (top 49) f fd) : FnOk P w K mg base CX0 1 f fd ["_law_shape", "_law_word"] (spF K waR) := by
  refine fn_val F scWa (fun ds c o h => ?_) (fun ds c o h => ?_) (fun cdv A outer s H E hr p ds c o h => ?_)
  · obtain ⟨t, w, rfl, _⟩ := h
    rfl
  · obtain ⟨t, w, _, _, _, _, _, rfl⟩ := h
    exact ⟨_, _, _, rfl⟩
  · obtain ⟨t, v, rfl, ho, hn, hw, hbt, rfl⟩ := h
    have zt : (tx v).length ≤ sizeLine := sz_le (by rw [tx_len]; omega)
    have lnl := ln_dep v t
    let X := (cxOf CX0 P w K mg base nWa "_law_walk" (defScope (top 49)) f cdv A outer s H E).nox
    refine .inl (rso_of (rso_new (g := ⟨true, true⟩) (ds := []) (c1 := c) 2 (rn_set (W := Wf) 2 scWa.nd (re_lst ra_nil (by show 0 ≤ 100000; decide))) rfl fun a => ?_))
    let ρs : Nat → Rho := fun i => [some (trD (stG v i t []).1), some (.str (tx v)), some (.mut c.length), none]
    let ρt : Nat → Rho := fun i => [some (trD (stG v i t []).1), some (.str (tx v)), some (.mut c.length), some (.int ((i : Nat) : Int))]
    let cs : Nat → PC := fun i => c ++ [.lst (iD (stG v i t []).2)]
    have loop := rs_for_all (X := X) (W := Wf) (p := HD.muts p [a]) (c := cs 0) (ρ := ρs 0) (xs := intsD 20) (vs := [3]) (g := gName 3) (body := fBd waF) (tg := fTg waF) (it := fIt waF) (pos := fPs waF)
      ρs ρt cs PassesOwn.never rfl rfl (ri_range (n := 20) G.range re_int (by decide) (by decide)) (pg_name (i := 3) scWa.nd rfl (Or.inl rfl)) (fun i d h => by
        obtain ⟨rfl, _⟩ := intsD_at h
        exact tg_name (by decide)) (fun i d h => ?_)
    · refine rso_cons loop ?_
      have e1 := stG_stop v 20 t [] (by omega)
      show RSo X Wf p [a] [some (trD (stG v 20 t []).1), some (.str (tx v)), some (.mut c.length), none] (c ++ [.lst (iD (stG v 20 t []).2)]) _ _
      rw [e1]
      refine rso_frz (ds := iD (pth v t)) (c := c) 2 (rso_in ?_) rfl (.one rfl (.one rfl (.non (.non .nil))))
      exact rss_ret (rs_ret (re_tup (ra_cons (re_var 2) (ra_cons (re_var 0) ra_nil)) (by show 2 ≤ 100000; decide)))
    · by_cases hi : i < ln v t
      · obtain ⟨k, l, r, q1, q2⟩ := stG_step v i t [] hi
        have oi := stG_ok (n := (v.length : Nat)) v i t [] ho
        rw [q1] at oi
        obtain ⟨hk, _, _⟩ := okT_node oi
        have ek : k = ((k.toNat : Nat) : Int) := (Int.toNat_of_nonneg hk.1).symm
        have hkl : k.toNat < v.length := by omega
        have len := stG_len v i t []
        have at_ : (tx v).cps.toList[k.toNat]? = some (v.getD k.toNat 0) := at_get hkl
        have bit : v.getD k.toNat 0 = 48 ∨ v.getD k.toNat 0 = 49 := by
          have m := hbt (v.getD k.toNat 0) (by rw [List.getD_eq_getElem?_getD, List.getElem?_eq_getElem hkl]; exact List.getElem_mem _)
          have eb : bins = [48, 49] := by decide
          rw [eb] at m
          simpa using m
        have ecs : cs (i + 1) = c ++ [.lst (iD (stG v i t []).2 ++ [.int k])] := by
          show c ++ [.lst (iD (stG v (i + 1) t []).2)] = _
          rw [q2]
          show c ++ [.lst (((stG v i t []).2 ++ [k]).map D.int)] = _
          rw [List.map_append]
          rfl
        have ers : ρs (i + 1) = [some (trD (if v.getD k.toNat 0 = 48 then l else r)), some (.str (tx v)), some (.mut c.length), none] := by
          show [some (trD (stG v (i + 1) t []).1), _, _, _] = _
          rw [q2]
        refine rss_less (ρ1 := [some (trD (if v.getD k.toNat 0 = 48 then l else r)), some (.str (tx v)), some (.mut c.length), some (.int ((i : Nat) : Int))]) ?_ (by rw [ers]; exact .same (.same (.same (.skip .nil))))
        show RSs X Wf _ [some (trD (stG v i t []).1), some (.str (tx v)), some (.mut c.length), some (.int ((i : Nat) : Int))] (cs i) _ _
        rw [q1]
        refine rss_cons (rs_if (kb := true) (rt_val (re_callB (d := .bl true) call_isi G.isi PyProof.Rows.boot_isinstance (ra_cons (re_var 0) (ra_cons (re_ty G.tuple PyProof.Rows.boot_tuple) ra_nil)) (cv_isi (t := "tuple") rfl rfl))) (fun _ => ?_) fun z => nomatch z) rss_nil
        have app := rs_app (X := X) (W := Wf) (p := HD.muts p [a]) (ρ := [some (trD (.node k l r)), some (.str (tx v)), some (.mut c.length), some (.int ((i : Nat) : Int))]) (c := cs i) (c1 := cs i) (e := match waI.getD 0 (.Pass ⟨0, 0, 0, 0⟩) with | .Expr (.Call _ (e :: _) _ _) _ => e | _ => .Name "" ⟨0, 0, 0, 0⟩) (d := .int k) (nw := false) (ds := iD (stG v i t []).2) (x := "_law_found") (pos := match waI.getD 0 (.Pass ⟨0, 0, 0, 0⟩) with | .Expr _ q => q | _ => ⟨0, 0, 0, 0⟩) (cpos := match waI.getD 0 (.Pass ⟨0, 0, 0, 0⟩) with | .Expr (.Call _ _ _ q) _ => q | _ => ⟨0, 0, 0, 0⟩) (apos := match waI.getD 0 (.Pass ⟨0, 0, 0, 0⟩) with | .Expr (.Call (.Attribute _ _ q) _ _ _) _ => q | _ => ⟨0, 0, 0, 0⟩) (xp := match waI.getD 0 (.Pass ⟨0, 0, 0, 0⟩) with | .Expr (.Call (.Attribute (.Name _ q) _ _) _ _ _) _ => q | _ => ⟨0, 0, 0, 0⟩) 2 c.length (re_ix ix_seq (re_var 0) re_int (ov_ixT (j := 0) rfl rfl)) ⟨iD (stG v i t []).2, by show (c ++ [_])[c.length]? = _; simp⟩ (by show (c ++ [_])[c.length]? = _; simp) (by rw [List.length_map]; simp at len; omega) rfl
        have es : (cs i).set c.length (.lst (iD (stG v i t []).2 ++ [.int k])) = cs (i + 1) := by
          rw [ecs]
          exact set_last _ _ _
        rw [es] at app
        refine rss_cons app ?_
        rcases bit with h | h
        · rw [if_pos h]
          exact rss_cons (rs_set (nw := false) 0 scWa.nd (re_ix ix_seq (re_var 0) (re_bin op_add re_int (re_intC G.int (re_ix ix_seq (re_var 1) (re_ix ix_seq (re_var 0) re_int (ov_ixT (j := 0) rfl rfl)) (ov_ixS zt ek at_)) (.inl h)) ov_ii) (ov_ixT (j := 1) (by rw [h]; rfl) rfl))) rss_nil
        · rw [if_neg (by omega)]
          exact rss_cons (rs_set (nw := false) 0 scWa.nd (re_ix ix_seq (re_var 0) (re_bin op_add re_int (re_intC G.int (re_ix ix_seq (re_var 1) (re_ix ix_seq (re_var 0) re_int (ov_ixT (j := 0) rfl rfl)) (ov_ixS zt ek at_)) (.inr h)) ov_ii) (ov_ixT (j := 2) (by rw [h]; rfl) rfl))) rss_nil
      · have q1 := stG_stop v i t [] (by omega)
        have q2 := stG_stop v (i + 1) t [] (by omega)
        have e0 : ρs (i + 1) = [some (trD (.leaf (ev v t))), some (.str (tx v)), some (.mut c.length), none] := by
          show [some (trD (stG v (i + 1) t []).1), _, _, _] = _
          rw [q2]
        have e1 : cs (i + 1) = cs i := by
          show c ++ [.lst (iD (stG v (i + 1) t []).2)] = c ++ [.lst (iD (stG v i t []).2)]
          rw [q1, q2]
        refine rss_less (ρ1 := [some (trD (.leaf (ev v t))), some (.str (tx v)), some (.mut c.length), some (.int ((i : Nat) : Int))]) ?_ (by rw [e0]; exact .same (.same (.same (.skip .nil))))
        rw [e1]
        show RSs X Wf _ [some (trD (stG v i t []).1), some (.str (tx v)), some (.mut c.length), some (.int ((i : Nat) : Int))] (cs i) _ _
        rw [q1]
        exact rss_cons (rs_if (kb := false) (rt_val (re_callB (d := .bl false) call_isi G.isi PyProof.Rows.boot_isinstance (ra_cons (re_var 0) (ra_cons (re_ty G.tuple PyProof.Rows.boot_tuple) ra_nil)) (cv_isi (t := "int") rfl rfl))) (fun z => nomatch z) fun _ => rss_nil) rss_nil
abbrev WaD (P : Program) (w : World) (K : PySem.W.Frag) (mg : Str → Option Value) (base : Heap) := Def0 P w K mg base 1 "_law_walk" ["_law_shape", "_law_word"] waR
end
end K35

namespace K35
open PySem PySem.Spec PyProof.Rows L2 LA
open K36 (ev dep kn nw nw_len)
/-! ### what is a tree, how deep it is, its ends: the law's own -/
def litR (m : Nat) : FSpec := fun ds c o => ∃ d n, ds = [.int n, d] ∧ Deep m d ∧ o = .val (.bl (isT m n d)) true c
def endsR (m : Nat) : FSpec := fun ds c o => ∃ (t : Tr) (l : List Nat), ds = [trD t, .str (tx l)] ∧ nodes t ≤ m ∧ m ≤ 60 ∧ okT (l.length : Nat) t = true ∧ l.length ≤ 6 ∧ (∀ a ∈ l, a = 45 ∨ a = 48 ∨ a = 49) ∧ o = .val (.lst ⟨false, true⟩ (lvD (lvs t l))) false c
theorem nw_same {m : List Nat} {p : Int} {c : Nat} (h : kn m p = c) (hl : p.toNat < m.length) : nw m p c = m := by
  unfold nw
  have e : m[p.toNat]'hl = c := by
    unfold kn at h
    rw [List.getD_eq_getElem?_getD, List.getElem?_eq_getElem hl] at h
    exact h
  rw [← e]
  exact List.set_getElem_self hl
theorem eqV_str (a b : Str) : eqV (V.str a) (V.str b) = decide (a = b) := by
  unfold eqV
  by_cases h : a = b
  · rw [h]
    simp
  · rw [decide_eq_false h]
    simp
    exact h
theorem inV_two (k b : Nat) : inV (V.str (chr1 k)) [V.str (chr1 45), V.str (chr1 b)] = (decide (k = 45) || decide (k = b)) := by
  have e : ∀ a : Nat, eqV (V.str (chr1 k)) (V.str (chr1 a)) = decide (k = a) := fun a => by
    have : eqV (V.str (chr1 k)) (V.str (chr1 a)) = decide (chr1 k = chr1 a) := eqV_str _ _
    rw [this]
    exact decide_eq_decide.mpr chr_eq
  have e' : ∀ a : Nat, eqV (V.str (chr1 a)) (V.str (chr1 k)) = decide (k = a) := fun a => by
    have : eqV (V.str (chr1 a)) (V.str (chr1 k)) = decide (chr1 a = chr1 k) := eqV_str _ _
    rw [this]
    exact decide_eq_decide.mpr (chr_eq.trans eq_comm)
  unfold inV
  simp only [List.any_cons, List.any_nil, Bool.or_false, e, e']
section
variable {P : Program} {w : World} {K : PySem.W.Frag} {mg : Str → Option Value} {base : Heap} {BI BT Cn C : Addr}
theorem scLit : FnScope ["_law_many", "_law_thing"] ["_law_many", "_law_thing"] (defScope (top 50)) := ⟨rfl, rfl, rfl, by decide +kernel, rfl, by decide +kernel, by decide +kernel⟩
theorem ok_lit {f : Addr} {fd : FuncData} (G : Glb mg) (F : Fun K "_law_is_tree" "_law_is_tree" (top 50) f fd) (hm : mg "_law_is_tree" = some (.ref f)) (hb : Binds K fd ["_law_many", "_law_thing"] []) : ∀ m : Nat, FnOk P w K mg base CX0 (m + 1) f fd ["_law_many", "_law_thing"] (spF K (litR m)) := by
  have flat : ∀ (d : D) (n : Int) (t : String) (cdv : Value) (A : Around) (outer : List Env) (s : Shared) (H : Hp) (E : XK) (p : HD) (c : PC), tyD d = some t → isTupD d = false →
      RSs (cxOf CX0 P w K mg base ["_law_many", "_law_thing"] "_law_is_tree" (defScope (top 50)) f cdv A outer s H E).nox Wf p (startR ["_law_many", "_law_thing"] [.int n, d]) c (defBody (top 50)) (.rt (.bl (posD d 2)) true c) := fun d n t cdv A outer s H E p c ht hT => by
    refine rss_ret (rs_if (kb := true) (rt_not (rt_val (re_callB (d := .bl false) call_isi G.isi PyProof.Rows.boot_isinstance (ra_cons (re_var 1) (ra_cons (re_ty G.tuple PyProof.Rows.boot_tuple) ra_nil)) (cv_isi ht (by rw [isi_tup ht, hT]))))) (fun _ => rss_ret (rs_ret ?_)) fun z => nomatch z)
    have e : posD d 2 = (isIntD d && (!isBlD d && posD d 2)) := by cases d <;> rfl
    rw [e]
    refine re_and (re_callB call_isi G.isi PyProof.Rows.boot_isinstance (ra_cons (re_var 1) (ra_cons (re_ty G.int PyProof.Rows.boot_int) ra_nil)) (cv_isi ht (isi_int ht))) fun h1 => ?_
    refine re_and (n1 := true) (re_not (re_callB call_isi G.isi PyProof.Rows.boot_isinstance (ra_cons (re_var 1) (ra_cons (re_ty G.bool PyProof.Rows.boot_bool) ra_nil)) (cv_isi ht (isi_bool ht)))) fun h2 => re_and1 ?_
    cases d with
    | int i =>
      have e2 : posD (.int i) 2 = (decide (0 ≤ i) && decide (i ≤ 1)) := by
        show (decide (0 ≤ i) && decide (i < 2)) = _
        congr 1
        exact decide_eq_decide.mpr (by omega)
      rw [e2]
      exact re_chain op_le op_le re_int (re_var 1) re_int ov_ib ov_ib
    | bl b => cases b <;> cases h2
    | _ => cases h1
  intro m
  induction m with
  | zero =>
    refine fn_val F scLit (fun ds c o h => ?_) (fun ds c o h => ?_) (fun cdv A outer s H E hr p ds c o h => ?_)
    · obtain ⟨d, n, rfl, _⟩ := h
      rfl
    · obtain ⟨d, n, _, _, rfl⟩ := h
      exact ⟨_, _, _, rfl⟩
    · obtain ⟨d, n, rfl, ⟨hd, t, ht⟩, rfl⟩ := h
      exact .inl (flat d n t cdv A outer s H E p c ht hd)
  | succ m ih =>
    have TI : Def0 P w K mg base (m + 1) "_law_is_tree" ["_law_many", "_law_thing"] (litR m) := ⟨⟨f, fd, ih, hm, F.kp, hb⟩⟩
    refine fn_val F scLit (fun ds c o h => ?_) (fun ds c o h => ?_) (fun cdv A outer s H E hr p ds c o h => ?_)
    · obtain ⟨d, n, rfl, _⟩ := h
      rfl
    · obtain ⟨d, n, _, _, rfl⟩ := h
      exact ⟨_, _, _, rfl⟩
    · obtain ⟨d, n, rfl, hd, rfl⟩ := h
      obtain ⟨t, ht'⟩ := deep_ty hd
      refine .inl ?_
      by_cases hT : isTupD d = true
      · cases d with
        | tup xs =>
          have start : RS (cxOf CX0 P w K mg base ["_law_many", "_law_thing"] "_law_is_tree" (defScope (top 50)) f cdv A outer s H E).nox Wf p (startR ["_law_many", "_law_thing"] [.int n, .tup xs]) c ((defBody (top 50)).getD 0 (.Pass ⟨0, 0, 0, 0⟩)) (.nx (startR ["_law_many", "_law_thing"] [.int n, .tup xs]) c) :=
            rs_if (kb := false) (rt_not (rt_val (re_callB (d := .bl true) call_isi G.isi PyProof.Rows.boot_isinstance (ra_cons (re_var 1) (ra_cons (re_ty G.tuple PyProof.Rows.boot_tuple) ra_nil)) (cv_isi ht' (by rw [isi_tup ht', hT]))))) (fun z => nomatch z) fun _ => rss_nil
          refine rss_cons start ?_
          have hd' : ∀ x ∈ xs, Deep m x := hd
          have no : xs.length ≠ 3 → RSs (cxOf CX0 P w K mg base ["_law_many", "_law_thing"] "_law_is_tree" (defScope (top 50)) f cdv A outer s H E).nox Wf p (startR ["_law_many", "_law_thing"] [.int n, .tup xs]) c ((defBody (top 50)).drop 1) (.rt (.bl false) true c) := fun hx =>
            rss_ret (rs_if (kb := true) (RW.rt (rw_or (k1 := true) (k2 := true) (rt_to (rt_cmp op_ne (re_callB call_len G.len PySem.boot_len (ra_cons (re_var 1) ra_nil) cv_lenTup) re_int ov_neI) (by rw [decide_eq_false (by omega)]; rfl)) fun z => nomatch z)) (fun _ => rss_ret (rs_ret re_bl)) fun z => nomatch z)
          match xs, hd', no with
          | [a, b, e], hd', no =>
            have da := hd' a (by simp)
            have db := hd' b (by simp)
            have de := hd' e (by simp)
            obtain ⟨ta, hta⟩ := deep_ty da
            have eT : isT (m + 1) n (.tup [a, b, e]) = (posD a n && (isT m n b && isT m n e)) := rfl
            rw [eT]
            have test : ∀ k, k = posD a n → RT (cxOf CX0 P w K mg base ["_law_many", "_law_thing"] "_law_is_tree" (defScope (top 50)) f cdv A outer s H E).nox Wf p (startR ["_law_many", "_law_thing"] [.int n, .tup [a, b, e]]) c (match (defBody (top 50)).getD 1 (.Pass ⟨0, 0, 0, 0⟩) with | .If e _ _ _ => e | _ => .Name "" ⟨0, 0, 0, 0⟩) (.val (!k) c) := fun k hk => by
              have tb := rt_val (X := (cxOf CX0 P w K mg base ["_law_many", "_law_thing"] "_law_is_tree" (defScope (top 50)) f cdv A outer s H E).nox) (W := Wf) (p := p) (ρ := startR ["_law_many", "_law_thing"] [.int n, .tup [a, b, e]]) (c := c) (k := isBlD a) (e := match (defBody (top 50)).getD 1 (.Pass ⟨0, 0, 0, 0⟩) with | .If (.BoolOp _ (_ :: e :: _) _) _ _ _ => e | _ => .Name "" ⟨0, 0, 0, 0⟩) (re_callB call_isi G.isi PyProof.Rows.boot_isinstance (ra_cons (re_ix ix_seq (re_var 1) re_int (ov_ixT (j := 0) rfl rfl)) (ra_cons (re_ty G.bool PyProof.Rows.boot_bool) ra_nil)) (cv_isi hta (isi_bool hta)))
              have ti := rt_val (X := (cxOf CX0 P w K mg base ["_law_many", "_law_thing"] "_law_is_tree" (defScope (top 50)) f cdv A outer s H E).nox) (W := Wf) (p := p) (ρ := startR ["_law_many", "_law_thing"] [.int n, .tup [a, b, e]]) (c := c) (k := isIntD a) (e := match (defBody (top 50)).getD 1 (.Pass ⟨0, 0, 0, 0⟩) with | .If (.BoolOp _ (_ :: _ :: .UnaryOp _ e _ :: _) _) _ _ _ => e | _ => .Name "" ⟨0, 0, 0, 0⟩) (re_callB call_isi G.isi PyProof.Rows.boot_isinstance (ra_cons (re_ix ix_seq (re_var 1) re_int (ov_ixT (j := 0) rfl rfl)) (ra_cons (re_ty G.int PyProof.Rows.boot_int) ra_nil)) (cv_isi hta (isi_int hta)))
              have first : RT (cxOf CX0 P w K mg base ["_law_many", "_law_thing"] "_law_is_tree" (defScope (top 50)) f cdv A outer s H E).nox Wf p (startR ["_law_many", "_law_thing"] [.int n, .tup [a, b, e]]) c (match (defBody (top 50)).getD 1 (.Pass ⟨0, 0, 0, 0⟩) with | .If (.BoolOp _ (e :: _) _) _ _ _ => e | _ => .Name "" ⟨0, 0, 0, 0⟩) (.val false c) := rt_to (rt_cmp op_ne (re_callB call_len G.len PySem.boot_len (ra_cons (re_var 1) ra_nil) cv_lenTup) re_int ov_neI) rfl
              subst hk
              cases a with
              | int i => exact RW.rt (rw_orS first <| rw_orS tb <| rw_orS (rt_not (k := true) ti) <| rw_or1 (rt_not (rt_chain op_le op_lt re_int (re_ix ix_seq (re_var 1) re_int (ov_ixT (j := 0) rfl rfl)) (re_var 0) ov_ib ov_ib)))
              | bl v => exact RW.rt (rw_orS first <| rw_or (k1 := true) (k2 := true) tb fun z => nomatch z)
              | «mut» _ => cases hta
              | ty _ => cases hta
              | cls _ => cases hta
              | exn _ _ _ => cases hta
              | obj _ _ => cases hta
              | _ => exact RW.rt (rw_orS first <| rw_orS tb <| rw_or (k1 := true) (k2 := true) (rt_not (k := false) ti) fun z => nomatch z)
            cases hp : posD a n with
            | false =>
              rw [Bool.false_and]
              exact rss_ret (rs_if (kb := true) (test false hp.symm) (fun _ => rss_ret (rs_ret re_bl)) fun z => nomatch z)
            | true =>
              rw [Bool.true_and]
              refine rss_cons (rs_if (kb := false) (test true hp.symm) (fun z => nomatch z) fun _ => rss_nil) ?_
              exact rss_ret (rs_ret (re_and (re_c0 TI hr (ra_cons (re_var 0) (ra_cons (re_ix ix_seq (re_var 1) re_int (ov_ixT (j := 1) rfl rfl)) ra_nil)) ⟨b, n, rfl, db, rfl⟩) fun _ => re_and1 (re_c0 TI hr (ra_cons (re_var 0) (ra_cons (re_ix ix_seq (re_var 1) re_int (ov_ixT (j := 2) rfl rfl)) ra_nil)) ⟨e, n, rfl, de, rfl⟩)))
          | [], _, no => exact no (by simp)
          | [_], _, no => exact no (by simp)
          | [_, _], _, no => exact no (by simp)
          | _ :: _ :: _ :: _ :: r, _, no => exact no (by simp only [List.length_cons]; omega)
        | _ => cases hT
      · have hf : isTupD d = false := by simpa using hT
        have e : isT (m + 1) n d = posD d 2 := by
          cases d <;> first | rfl | cases hf
        rw [e]
        exact flat d n t cdv A outer s H E p c ht' hf
theorem scLd : FnScope ["_law_shape"] ["_law_shape"] (defScope (top 51)) := ⟨rfl, rfl, rfl, by decide +kernel, rfl, by decide +kernel, by decide +kernel⟩
theorem ok_ld {f : Addr} {fd : FuncData} (G : Glb mg) (F : Fun K "_law_depth" "_law_depth" (top 51) f fd) (hm : mg "_law_depth" = some (.ref f)) (hb : Binds K fd ["_law_shape"] []) : ∀ m : Nat, FnOk P w K mg base CX0 (m + 1) f fd ["_law_shape"] (spF K (depR m)) := by
  have leafy : ∀ (m : Nat) (i : Int) (cdv : Value) (A : Around) (outer : List Env) (s : Shared) (H : Hp) (E : XK) (p : HD) (c : PC), RSs (cxOf CX0 P w K mg base ["_law_shape"] "_law_depth" (defScope (top 51)) f cdv A outer s H E).nox Wf p (startR ["_law_shape"] [trD (.leaf i)]) c (defBody (top 51)) (.rt (.int ((dep (.leaf i) : Nat) : Int)) true c) := fun m i cdv A outer s H E p c =>
    rss_ret (rs_ret (re_if (k := false) (rt_val (re_callB (d := .bl false) call_isi G.isi PyProof.Rows.boot_isinstance (ra_cons (re_var 0) (ra_cons (re_ty G.tuple PyProof.Rows.boot_tuple) ra_nil)) (cv_isi (t := "int") rfl rfl))) (fun z => nomatch z) fun _ => re_int))
  intro m
  induction m with
  | zero =>
    refine fn_val F scLd (fun ds c o h => ?_) (fun ds c o h => ?_) (fun cdv A outer s H E hr p ds c o h => ?_)
    · obtain ⟨t, rfl, _⟩ := h
      rfl
    · obtain ⟨t, _, _, rfl⟩ := h
      exact ⟨_, _, _, rfl⟩
    · obtain ⟨t, rfl, hn, rfl⟩ := h
      cases t with
      | node p l r =>
        unfold nodes at hn
        omega
      | leaf i => exact .inl (leafy 0 i cdv A outer s H E p c)
  | succ m ih =>
    have TI : Def0 P w K mg base (m + 1) "_law_depth" ["_law_shape"] (depR m) := ⟨⟨f, fd, ih, hm, F.kp, hb⟩⟩
    refine fn_val F scLd (fun ds c o h => ?_) (fun ds c o h => ?_) (fun cdv A outer s H E hr p ds c o h => ?_)
    · obtain ⟨t, rfl, _⟩ := h
      rfl
    · obtain ⟨t, _, _, rfl⟩ := h
      exact ⟨_, _, _, rfl⟩
    · obtain ⟨t, rfl, hn, rfl⟩ := h
      cases t with
      | leaf i => exact .inl (leafy 0 i cdv A outer s H E p c)
      | node k l r =>
        unfold nodes at hn
        have e : (1 : Int) + (if ((dep l : Nat) : Int) < ((dep r : Nat) : Int) then ((dep r : Nat) : Int) else ((dep l : Nat) : Int)) = ((dep (.node k l r) : Nat) : Int) := by
          show _ = ((max (dep l) (dep r) + 1 : Nat) : Int)
          split <;> omega
        exact .inl (rss_ret (rs_ret (re_if (k := true) (rt_val (re_callB (d := .bl true) call_isi G.isi PyProof.Rows.boot_isinstance (ra_cons (re_var 0) (ra_cons (re_ty G.tuple PyProof.Rows.boot_tuple) ra_nil)) (cv_isi (t := "tuple") rfl rfl))) (fun _ => re_to (re_bin op_add re_int (re_callB (call_max2 rfl) G.max PyProof.Rows.boot_max (ra_cons (re_c0 TI hr (ra_cons (re_ix ix_seq (re_var 0) re_int (ov_ixT (j := 1) rfl rfl)) ra_nil) ⟨l, rfl, by omega, rfl⟩) (ra_cons (re_c0 TI hr (ra_cons (re_ix ix_seq (re_var 0) re_int (ov_ixT (j := 2) rfl rfl)) ra_nil) ⟨r, rfl, by omega, rfl⟩) ra_nil)) cv_max2) ov_ii) (congrArg D.int e)) fun z => nomatch z)))
abbrev nEn : List Str := ["_law_shape", "_law_pattern", "_law_found", "_law_bit", "_law_longer"]
theorem scEn : FnScope nEn ["_law_shape", "_law_pattern"] (defScope (top 53)) := ⟨rfl, rfl, rfl, by decide +kernel, rfl, by decide +kernel, by decide +kernel⟩
abbrev enF : Stmt := (defBody (top 53)).getD 2 (.Pass ⟨0, 0, 0, 0⟩)
theorem ok_ends {f : Addr} {fd : FuncData} (G : Glb mg) (F : Fun K "_law_ends" "_law_ends" (top 53) f fd) (hm : mg "_law_ends" = some (.ref f)) (hb : Binds K fd ["_law_shape", "_law_pattern"] []) : ∀ m : Nat, FnOk P w K mg base CX0 (m + 1) f fd ["_law_shape", "_law_pattern"] (spF K (endsR m)) := by
  have leafy : ∀ (i : Int) (l : List Nat) (cdv : Value) (A : Around) (outer : List Env) (s : Shared) (H : Hp) (E : XK) (p : HD) (c : PC), RSs (cxOf CX0 P w K mg base nEn "_law_ends" (defScope (top 53)) f cdv A outer s H E).nox Wf p (startR nEn [trD (.leaf i), .str (tx l)]) c (defBody (top 53)) (.rt (.lst ⟨false, true⟩ (lvD (lvs (.leaf i) l))) false c) := fun i l cdv A outer s H E p c =>
    rss_ret (rs_if (kb := true) (rt_not (rt_val (re_callB (d := .bl false) call_isi G.isi PyProof.Rows.boot_isinstance (ra_cons (re_var 0) (ra_cons (re_ty G.tuple PyProof.Rows.boot_tuple) ra_nil)) (cv_isi (t := "int") rfl rfl)))) (fun _ => rss_ret (rs_ret (re_old (re_dull (g := ⟨true, true⟩) (re_lst (ra_cons (re_tup (ra_cons (re_var 1) (ra_cons (re_var 0) ra_nil)) (by show 2 ≤ 100000; decide)) ra_nil) (by show 1 ≤ 100000; decide)))))) fun z => nomatch z)
  intro m
  induction m with
  | zero =>
    refine fn_val F scEn (fun ds c o h => ?_) (fun ds c o h => ?_) (fun cdv A outer s H E hr p ds c o h => ?_)
    · obtain ⟨t, l, rfl, _⟩ := h
      rfl
    · obtain ⟨t, l, _, _, _, _, _, _, rfl⟩ := h
      exact ⟨_, _, _, rfl⟩
    · obtain ⟨t, l, rfl, hn, _, _, _, _, rfl⟩ := h
      cases t with
      | node p l r =>
        unfold nodes at hn
        omega
      | leaf i => exact .inl (leafy i l cdv A outer s H E p c)
  | succ m ih =>
    have TI : Def0 P w K mg base (m + 1) "_law_ends" ["_law_shape", "_law_pattern"] (endsR m) := ⟨⟨f, fd, ih, hm, F.kp, hb⟩⟩
    refine fn_val F scEn (fun ds c o h => ?_) (fun ds c o h => ?_) (fun cdv A outer s H E hr p ds c o h => ?_)
    · obtain ⟨t, l, rfl, _⟩ := h
      rfl
    · obtain ⟨t, l, _, _, _, _, _, _, rfl⟩ := h
      exact ⟨_, _, _, rfl⟩
    · obtain ⟨t, l, rfl, hn, h60, ho, hl6, hin, rfl⟩ := h
      cases t with
      | leaf i => exact .inl (leafy i l cdv A outer s H E p c)
      | node k a b =>
        obtain ⟨hk, ha, hb'⟩ := okT_node ho
        have hkl : k.toNat < l.length := by omega
        unfold nodes at hn
        have zt : (tx l).length ≤ sizeLine := sz_le (by rw [tx_len]; omega)
        have ek : k = ((k.toNat : Nat) : Int) := (Int.toNat_of_nonneg hk.1).symm
        have ek1 : k + 1 = ((k.toNat + 1 : Nat) : Int) := by omega
        have at_ := kn_at (l := l) (p := k) hkl
        let part : Nat → List (List Nat × Int) := fun i => if kn l k = 45 ∨ kn l k = 48 + i then lvs (if i = 0 then a else b) (nw l k (48 + i)) else []
        let acc : Nat → List (List Nat × Int) := fun i => match i with
          | 0 => []
          | 1 => part 0
          | _ => part 0 ++ part 1
        have fin : acc 2 = lvs (.node k a b) l := by
          show part 0 ++ part 1 = _
          have kin : kn l k = 45 ∨ kn l k = 48 ∨ kn l k = 49 := by
            unfold kn
            rw [List.getD_eq_getElem?_getD, List.getElem?_eq_getElem hkl]
            exact hin _ (List.getElem_mem _)
          unfold lvs
          show (if kn l k = 45 ∨ kn l k = 48 then lvs a (nw l k 48) else []) ++ (if kn l k = 45 ∨ kn l k = 49 then lvs b (nw l k 49) else []) = _
          rcases kin with h | h | h
          · rw [if_pos (.inl h), if_pos (.inl h), if_pos h]
          · rw [if_pos (.inr h), if_neg (by omega), if_neg (by omega), if_pos h, List.append_nil, nw_same h hkl]
          · rw [if_neg (by omega), if_pos (.inr h), if_neg (by omega), if_neg (by omega), List.nil_append, nw_same h hkl]
        refine .inl (rss_cons (rs_if (kb := false) (rt_not (rt_val (re_callB (d := .bl true) call_isi G.isi PyProof.Rows.boot_isinstance (ra_cons (re_var 0) (ra_cons (re_ty G.tuple PyProof.Rows.boot_tuple) ra_nil)) (cv_isi (t := "tuple") rfl rfl)))) (fun z => nomatch z) fun _ => rss_nil) ?_)
        let fr : Nat → Option D → Option D → Rho := fun i bi lo => [some (trD (.node k a b)), some (.str (tx l)), some (.lst ⟨false, true⟩ (lvD (acc i))), bi, lo]
        refine rss_cons (c1 := c) (ρ1 := fr 0 none none) (rs_set (nw := true) 2 scEn.nd (re_dull (g := ⟨true, true⟩) (re_lst ra_nil (by show 0 ≤ 100000; decide)))) ?_
        have loop := rs_for_all (X := (cxOf CX0 P w K mg base nEn "_law_ends" (defScope (top 53)) f cdv A outer s H E).nox) (W := Wf) (p := p) (c := c) (ρ := fr 0 none none) (xs := intsD 2) (vs := [3]) (g := gName 3) (body := fBd enF) (tg := fTg enF) (it := fIt enF) (pos := fPs enF)
          (fun i => fr i none none) (fun i => fr i (some (.int ((i : Nat) : Int))) none) (fun _ => c) PassesOwn.never rfl rfl (ri_range (n := 2) G.range re_int (by decide) (by decide)) (pg_name (i := 3) scEn.nd rfl (Or.inl rfl)) (fun i d h => by
            obtain ⟨rfl, _⟩ := intsD_at h
            exact tg_name (by decide)) (fun i d h => ?_)
        · refine rss_cons loop (rss_ret (rs_ret ?_))
          show RE _ _ _ _ _ _ (.val (.lst ⟨false, true⟩ (lvD (lvs (.node k a b) l))) false c)
          rw [← fin]
          exact re_var 2
        · obtain ⟨rfl, hi⟩ := intsD_at h
          have lp : (part i).length ≤ nodes a + nodes b + 1 := by
            show (if kn l k = 45 ∨ kn l k = 48 + i then lvs (if i = 0 then a else b) (nw l k (48 + i)) else []).length ≤ _
            have q1 := lvs_len a (nw l k (48 + i))
            have q2 := lvs_len b (nw l k (48 + i))
            split
            · split <;> omega
            · exact Nat.zero_le _
          have la : (acc i).length ≤ nodes a + 1 := by
            match i, hi with
            | 0, _ => exact Nat.zero_le _
            | 1, _ =>
              show (if kn l k = 45 ∨ kn l k = 48 then lvs a (nw l k 48) else []).length ≤ _
              have q1 := lvs_len a (nw l k 48)
              split
              · omega
              · exact Nat.zero_le _
          have nxt : acc (i + 1) = acc i ++ part i := by
            match i, hi with
            | 0, _ => exact (List.nil_append _).symm
            | 1, _ => rfl
          have bi : ((i : Nat) : Int) = 0 ∨ ((i : Nat) : Int) = 1 := by omega
          have sb : chr1 (48 + ((i : Nat) : Int).toNat) = chr1 (48 + i) := by rw [Int.toNat_natCast]
          have test : RT (cxOf CX0 P w K mg base nEn "_law_ends" (defScope (top 53)) f cdv A outer s H E).nox Wf p (fr i (some (.int ((i : Nat) : Int))) none) c (match (fBd enF).getD 0 (.Pass ⟨0, 0, 0, 0⟩) with | .If e _ _ _ => e | _ => .Name "" ⟨0, 0, 0, 0⟩) (.val (decide (kn l k = 45) || decide (kn l k = 48 + i)) c) :=
            rt_to (rt_cmp (nw := true) op_in_seq (re_ix ix_seq (re_var 1) (re_ix ix_seq (re_var 0) re_int (ov_ixT (j := 0) rfl rfl)) (ov_ixS zt ek at_)) (re_tup (ra_cons re_str (ra_cons (re_to (re_strB G.str (re_var 3) bi) (congrArg D.str sb)) ra_nil)) (by show 2 ≤ 100000; decide)) (ov_inT (neg := false) (v := .str (chr1 (kn l k))) (xs := [.str (chr1 45), .str (chr1 (48 + i))]) rfl rfl rfl rfl)) (inV_two _ _)
          refine rss_less (ρ1 := fr (i + 1) (some (.int ((i : Nat) : Int))) (if kn l k = 45 ∨ kn l k = 48 + i then some (.str (tx (nw l k (48 + i)))) else none)) ?_ (by
            show Less [some (trD (.node k a b)), some (.str (tx l)), some (.lst ⟨false, true⟩ (lvD (acc (i + 1)))), none, none] _
            exact .same (.same (.same (.skip (.skip .nil)))))
          by_cases hc : kn l k = 45 ∨ kn l k = 48 + i
          · have hb2 : (decide (kn l k = 45) || decide (kn l k = 48 + i)) = true := by
              rcases hc with h | h
              · rw [decide_eq_true h]; rfl
              · rw [decide_eq_true h]; exact Bool.or_true _
            rw [hb2] at test
            rw [if_pos hc]
            have ep : part i = lvs (if i = 0 then a else b) (nw l k (48 + i)) := if_pos hc
            have hl2 : (nw l k (48 + i)).length = l.length := nw_len
            have en : tx (nw l k (48 + i)) = tx (l.take k.toNat) ++ chr1 (48 + i) ++ tx (l.drop (k.toNat + 1)) := by
              rw [show chr1 (48 + i) = tx [48 + i] from rfl, tx_app, tx_app]
              congr 1
              exact (set_cut hkl).symm
            refine rss_cons (rs_if (kb := true) test (fun _ => ?_) fun z => nomatch z) rss_nil
            refine rss_cons (c1 := c) (ρ1 := fr i (some (.int ((i : Nat) : Int))) (some (.str (tx (nw l k (48 + i)))))) (rs_set (nw := true) 4 scEn.nd (re_to (re_bin op_add_str (n2 := true) (re_bin op_add_str (n1 := true) (re_to (re_slS (re_var 1) rp_none (rp_some (W := Wf) (nw := false) (re_to (re_ix ix_seq (re_var 0) re_int (ov_ixT (j := 0) rfl rfl)) (congrArg D.int ek))) zt) (congrArg D.str (cut_lo (by omega)))) (re_to (re_strB G.str (re_var 3) bi) (congrArg D.str sb)) (ov_addS ?_)) (re_to (re_slS (re_var 1) (rp_some (W := Wf) (nw := true) (re_to (re_bin op_add (re_ix ix_seq (re_var 0) re_int (ov_ixT (j := 0) rfl rfl)) re_int ov_ii) (congrArg D.int ek1))) rp_none zt) (congrArg D.str (cut_hi (by omega)))) (ov_addS ?_)) (congrArg D.str en.symm))) ?_
            · rw [tx_len, List.length_take]
              show min _ _ + 1 ≤ _
              exact sz_le (by omega)
            · rw [show chr1 (48 + i) = tx [48 + i] from rfl, tx_app, tx_len, tx_len, List.length_append, List.length_take, List.length_drop]
              show min _ _ + 1 + _ ≤ _
              exact sz_le (by omega)
            have ix : RE (cxOf CX0 P w K mg base nEn "_law_ends" (defScope (top 53)) f cdv A outer s H E).nox Wf p (fr i (some (.int ((i : Nat) : Int))) (some (.str (tx (nw l k (48 + i)))))) c (match (fBd enF).getD 0 (.Pass ⟨0, 0, 0, 0⟩) with | .If _ (_ :: .Assign _ (.BinOp _ _ (.Call _ (e :: _) _ _) _) _ :: _) _ _ => e | _ => .Name "" ⟨0, 0, 0, 0⟩) (.val (trD (if i = 0 then a else b)) false c) := by
              match i, hi with
              | 0, _ => exact re_ix ix_seq (re_var 0) (re_bin op_add re_int (re_var 3) ov_ii) (ov_ixT (j := 1) rfl rfl)
              | 1, _ => exact re_ix ix_seq (re_var 0) (re_bin op_add re_int (re_var 3) ov_ii) (ov_ixT (j := 2) rfl rfl)
            refine rss_cons (rs_set (d := .lst ⟨false, true⟩ (lvD (acc (i + 1)))) (nw := true) 2 scEn.nd (re_to (re_bin (n2 := false) op_cat (re_var 2) (re_c0 TI hr (ra_cons ix (ra_cons (re_var 4) ra_nil)) ⟨if i = 0 then a else b, nw l k (48 + i), rfl, by split <;> omega, by omega, by rw [hl2]; split <;> assumption, by rw [hl2]; exact hl6, nw_in hin (by omega), rfl⟩) (ov_cat rfl rfl ?_)) ?_)) rss_nil
            · rw [lvD_len, lvD_len, ← ep]
              omega
            · rw [nxt, ep, lvD_app]
          · have hb2 : (decide (kn l k = 45) || decide (kn l k = 48 + i)) = false := by
              rw [decide_eq_false (fun z => hc (.inl z)), decide_eq_false (fun z => hc (.inr z))]
              rfl
            rw [hb2] at test
            rw [if_neg hc]
            have ep : part i = [] := if_neg hc
            have e3 : acc (i + 1) = acc i := by rw [nxt, ep, List.append_nil]
            show RSs _ _ _ _ _ _ (.nx [some (trD (.node k a b)), some (.str (tx l)), some (.lst ⟨false, true⟩ (lvD (acc (i + 1)))), some (.int ((i : Nat) : Int)), none] c)
            rw [e3]
            exact rss_cons (rs_if (kb := false) test (fun z => nomatch z) fun _ => rss_nil) rss_nil
end
end K35

namespace K35
open PySem PySem.Spec PyProof.Rows L2 LA
open K36 (ev dep kn nw)
/-! ### bent trees -/
theorem rw_andS {X : Cx} {W : WX} {p : HD} {ρ : Rho} {c c1 c2 : PC} {a b : Expr} {pos : Pos} {rest : List Expr} {k2 : Bool} (ha : RT X W p ρ c a (.val true c1)) (hb : RW X W p ρ c1 (.BoolOp .And (b :: rest) pos) (.val k2 c2)) : RW X W p ρ c (.BoolOp .And (a :: b :: rest) pos) (.val k2 c2) := by
  exact pw_imp (pw_and ha hb) fun σ H Q ⟨s, kk⟩ => ⟨s, fun H1 e1 p1 => ⟨s.mono e1 p1, fun H2 e2 p2 => kk H2 (e1.trans e2) p2⟩⟩
def small : Tr → Prop
  | .leaf i => 0 ≤ i ∧ i < 10
  | .node p l r => (0 ≤ p ∧ p < 10) ∧ small l ∧ small r
theorem small_ok {n : Int} (hn : n ≤ 6) : ∀ {t : Tr}, okT n t = true → small t
  | .leaf i, h => by
    have := okT_leaf h
    exact ⟨this.1, by omega⟩
  | .node p l r, h => by
    obtain ⟨a, b, c⟩ := okT_node h
    exact ⟨⟨a.1, by omega⟩, small_ok hn b, small_ok hn c⟩
theorem tiny3 {w1 w2 w3 k : Nat} {x y z : D} (a : Tiny w1 k x) (b : Tiny w2 k y) (c : Tiny w3 k z) : Tiny (w1 + w2 + w3 + 20) (k + 1) (.tup [x, y, z]) := by
  refine ⟨?_, ?_, ?_, ?_, ?_, ?_, ?_⟩
  · unfold okD okDs okDs okDs okDs
    rw [a.ok, b.ok, c.ok]
    rfl
  · unfold toPy toPys toPys toPys toPys PyData.showable PyData.showableAll PyData.showableAll PyData.showableAll PyData.showableAll
    rw [a.sh, b.sh, c.sh]
    rfl
  · unfold toPy toPys toPys toPys toPys PyData.canLay0 PyData.canLayAll0 PyData.canLayAll0 PyData.canLayAll0 PyData.canLayAll0
    rw [a.lay, b.lay, c.lay]
    rfl
  · unfold toPy toPys toPys toPys toPys PyData.intsShort PyData.intsShortAll PyData.intsShortAll PyData.intsShortAll PyData.intsShortAll
    rw [a.ish, b.ish, c.ish]
    rfl
  · have := a.wt
    have := b.wt
    have := c.wt
    unfold toPy toPys toPys toPys toPys PyData.weight PyData.weightAll PyData.weightAll PyData.weightAll PyData.weightAll
    omega
  · have := a.dp
    have := b.dp
    have := c.dp
    unfold toPy toPys toPys toPys toPys PyData.depth PyData.depthAll PyData.depthAll PyData.depthAll PyData.depthAll
    omega
  · unfold toPy toPys toPys toPys toPys PyData.hasDict PyData.hasDictAll PyData.hasDictAll PyData.hasDictAll PyData.hasDictAll
    rw [a.nd, b.nd, c.nd]
    rfl
theorem tiny_int {p : Int} (h : 0 ≤ p ∧ p < 10) : Tiny 100 0 (.int p) := tiny_small (d := .int p) (show smallI p = true by unfold smallI; rw [decide_eq_true h.1, decide_eq_true h.2]; rfl)
theorem tiny_tr : ∀ t : Tr, small t → Tiny (100 + 400 * nodes t) (nodes t) (trD t)
  | .leaf i, h => (tiny_int h).up (by omega) (by omega)
  | .node p lo hi, ⟨hp, hl, hh⟩ => by
    have b := tiny_tr lo hl
    have c := tiny_tr hi hh
    have r := tiny3 ((tiny_int hp).up (Nat.le_refl _) (Nat.zero_le (max (nodes lo) (nodes hi)))) (b.up (Nat.le_refl _) (Nat.le_max_left ..)) (c.up (Nat.le_refl _) (Nat.le_max_right ..))
    unfold nodes
    exact r.up (by omega) (by omega)
mutual
def szD : D → Nat
  | .tup xs => szDs xs + 1
  | _ => 0
def szDs : List D → Nat
  | [] => 0
  | d :: r => szD d + szDs r
end
mutual
def dpD : D → Nat
  | .tup xs => dpDs xs + 1
  | _ => 0
def dpDs : List D → Nat
  | [] => 0
  | d :: r => max (dpD d) (dpDs r)
end
theorem szD_tr : ∀ t : Tr, szD (trD t) = nodes t
  | .leaf _ => rfl
  | .node p l r => by
    show szD (.int p) + (szD (trD l) + (szD (trD r) + 0)) + 1 = nodes l + nodes r + 1
    rw [szD_tr l, szD_tr r]
    show 0 + (nodes l + (nodes r + 0)) + 1 = _
    omega
theorem dpD_tr : ∀ t : Tr, dpD (trD t) = dep t
  | .leaf _ => rfl
  | .node p l r => by
    show max (dpD (.int p)) (max (dpD (trD l)) (max (dpD (trD r)) 0)) + 1 = max (dep l) (dep r) + 1
    rw [dpD_tr l, dpD_tr r]
    show max 0 (max (dep l) (max (dep r) 0)) + 1 = _
    omega
theorem pos_int' {d : D} {n : Int} (h : posD d n = true) : ∃ i, d = .int i ∧ 0 ≤ i ∧ i < n := by
  cases d with
  | int i =>
    obtain ⟨h1, h2⟩ := Bool.and_eq_true_iff.mp (show (decide (0 ≤ i) && decide (i < n)) = true from h)
    exact ⟨i, rfl, of_decide_eq_true h1, of_decide_eq_true h2⟩
  | _ => cases h
theorem isT_inv {n : Int} : ∀ (m : Nat) (d : D), isT m n d = true → ∃ t, d = trD t ∧ okT n t = true
  | 0, d, h => by
    obtain ⟨i, rfl, h1, h2⟩ := pos_int' (show posD d 2 = true from h)
    refine ⟨.leaf i, rfl, ?_⟩
    show (decide (0 ≤ i) && decide (i < 2)) = true
    rw [decide_eq_true h1, decide_eq_true h2]
    rfl
  | m + 1, .tup xs, h => by
    match xs, h with
    | [a, b, e], h =>
      obtain ⟨h1, h2⟩ := Bool.and_eq_true_iff.mp (show (posD a n && (isT m n b && isT m n e)) = true from h)
      obtain ⟨h2, h3⟩ := Bool.and_eq_true_iff.mp h2
      obtain ⟨i, rfl, i1, i2⟩ := pos_int' h1
      obtain ⟨l, rfl, ol⟩ := isT_inv m b h2
      obtain ⟨r, rfl, or_⟩ := isT_inv m e h3
      refine ⟨.node i l r, rfl, ?_⟩
      show ((decide (0 ≤ i) && decide (i < n)) && (okT n l && okT n r)) = true
      rw [decide_eq_true i1, decide_eq_true i2, ol, or_]
      rfl
    | [], h => cases h
    | [_], h => cases h
    | [_, _], h => cases h
    | _ :: _ :: _ :: _ :: _, h => cases h
  | m + 1, .non, h => by cases h
  | m + 1, .bl _, h => by cases h
  | m + 1, .int i, h => by
    obtain ⟨j, e, h1, h2⟩ := pos_int' (show posD (.int i) 2 = true from h)
    cases e
    refine ⟨.leaf i, rfl, ?_⟩
    show (decide (0 ≤ i) && decide (i < 2)) = true
    rw [decide_eq_true h1, decide_eq_true h2]
    rfl
  | m + 1, .str _, h => by cases h
  | m + 1, .lst _ _, h => by cases h
  | m + 1, .dct _, h => by cases h
  | m + 1, .mut _, h => by cases h
  | m + 1, .ty _, h => by cases h
  | m + 1, .cls _, h => by cases h
  | m + 1, .exn _ _ _, h => by cases h
  | m + 1, .obj _ _, h => by cases h
def oddB (n : Nat) (t : Tr) : Nat → D
  | 0 => .int 2
  | 1 => .int (-1)
  | 2 => .bl true
  | 3 => .non
  | 4 => .str "0"
  | 5 => .lst ⟨true, true⟩ [.int 0, .int 0, .int 1]
  | 6 => .tup [.int 0, .int 1]
  | 7 => .tup [.int ((n : Nat) : Int), .int 0, .int 1]
  | 8 => .tup [.int 0, .int 0, .int 1, .int 1]
  | 9 => .tup [.str "0", .int 0, .int 1]
  | 10 => .tup [.bl true, .int 0, .int 1]
  | 11 => .tup []
  | 12 => .tup [.int 0, .bl false, .int 1]
  | 13 => .tup [.int ((n - 1 : Nat) : Int), .int 1, trD t]
  | _ => trD t
def bnt (n : Nat) : Tr → Pl → D × Pl
  | .leaf i, x => (oddB n (.leaf i) (drawV x 15).toNat, drawC x 15)
  | .node p l r, x => if drawV x 3 > 0 then
      (if drawV (drawC x 3) 2 = 0 then (.tup [.int p, (bnt n l (drawC (drawC x 3) 2)).1, trD r], (bnt n l (drawC (drawC x 3) 2)).2)
      else (.tup [.int p, trD l, (bnt n r (drawC (drawC x 3) 2)).1], (bnt n r (drawC (drawC x 3) 2)).2))
    else (oddB n (.node p l r) (drawV (drawC x 3) 15).toNat, drawC (drawC x 3) 15)
/-- what holds of a bent tree -/
structure BOk (n : Nat) (t : Tr) (d : D) : Prop where
  sz : szD d ≤ nodes t + 1
  dp : dpD d ≤ dep t + 1
  deep : ∀ m, nodes t + 2 ≤ m → Deep m d
  tiny : n ≤ 6 → small t → Tiny (100 + 400 * (nodes t + 2)) (nodes t + 2) d
theorem d15 (x : Pl) : (drawV x 15).toNat < 15 := by
  have := drawV_in (c := x) (show (0 : Int) < 15 by decide)
  omega
theorem deep_sc {d : D} {m : Nat} (h : isTupD d = false) (ht : Ty d) : Deep m d := by
  cases m with
  | zero => exact ⟨h, ht⟩
  | succ m =>
    cases d with
    | tup xs => cases h
    | _ => exact ht
theorem tiny_sc {d : D} (h : smallD d = true) : Tiny 100 0 d := tiny_small h
theorem tiny_m1 : Tiny 100 0 (.int (-1)) := ⟨rfl, by unfold toPy; decide +kernel, by unfold toPy; decide +kernel, by unfold toPy; decide +kernel, by unfold toPy; decide +kernel, by unfold toPy; decide +kernel, by unfold toPy; decide +kernel⟩
theorem oddB_ok (n : Nat) (t : Tr) : ∀ j, j < 15 → BOk n t (oddB n t j) := by
  have two : ∀ {a b : D} {Q : D → Prop}, Q a → Q b → ∀ x ∈ [a, b], Q x := fun ha hb x hx => by
    simp only [List.mem_cons, List.not_mem_nil, or_false] at hx
    rcases hx with rfl | rfl <;> assumption
  have three : ∀ {a b c : D} {Q : D → Prop}, Q a → Q b → Q c → ∀ x ∈ [a, b, c], Q x := fun ha hb hc x hx => by
    simp only [List.mem_cons, List.not_mem_nil, or_false] at hx
    rcases hx with rfl | rfl | rfl <;> assumption
  have four : ∀ {a b c e : D} {Q : D → Prop}, Q a → Q b → Q c → Q e → ∀ x ∈ [a, b, c, e], Q x := fun ha hb hc he x hx => by
    simp only [List.mem_cons, List.not_mem_nil, or_false] at hx
    rcases hx with rfl | rfl | rfl | rfl <;> assumption
  have sc : ∀ (d : D), szD d = 0 → dpD d = 0 → isTupD d = false → Ty d → Tiny 100 0 d → BOk n t d := fun d h1 h2 h3 h4 h5 => ⟨by omega, by omega, fun m _ => deep_sc h3 h4, fun _ _ => h5.up (by omega) (by omega)⟩
  have tp : ∀ (xs : List D), xs.length ≤ 4 → (∀ x ∈ xs, szD x = 0 ∧ dpD x = 0 ∧ isTupD x = false ∧ Ty x ∧ (n ≤ 6 → Tiny 100 0 x)) → BOk n t (.tup xs) := fun xs hl h => by
    have z1 : szDs xs = 0 := by
      clear hl
      induction xs with
      | nil => rfl
      | cons a r ih =>
        show szD a + szDs r = 0
        rw [(h a List.mem_cons_self).1, ih fun x hx => h x (List.mem_cons_of_mem _ hx)]
    have z2 : dpDs xs = 0 := by
      clear hl z1
      induction xs with
      | nil => rfl
      | cons a r ih =>
        show max (dpD a) (dpDs r) = 0
        rw [(h a List.mem_cons_self).2.1, ih fun x hx => h x (List.mem_cons_of_mem _ hx)]
        rfl
    refine ⟨by show szDs xs + 1 ≤ _; omega, by show dpDs xs + 1 ≤ _; omega, fun m hm => ?_, fun hn _ => ?_⟩
    · obtain ⟨k, rfl⟩ : ∃ k, m = k + 1 := ⟨m - 1, by omega⟩
      exact fun x hx => deep_sc (h x hx).2.2.1 (h x hx).2.2.2.1
    · exact (Tiny.tup (n := 4) (fun x hx => (h x hx).2.2.2.2 hn) hl).up (by omega) (by omega)
  have ii : ∀ i : Int, 0 ≤ i → i < 10 → (szD (.int i) = 0 ∧ dpD (.int i) = 0 ∧ isTupD (.int i) = false ∧ Ty (.int i) ∧ (n ≤ 6 → Tiny 100 0 (.int i))) := fun i h0 h1 => ⟨rfl, rfl, rfl, ⟨_, rfl⟩, fun _ => tiny_int ⟨h0, h1⟩⟩
  have i0 := ii 0 (by decide) (by decide)
  have i1 := ii 1 (by decide) (by decide)
  have nn : szD (.int ((n : Nat) : Int)) = 0 ∧ dpD (.int ((n : Nat) : Int)) = 0 ∧ isTupD (.int ((n : Nat) : Int)) = false ∧ Ty (.int ((n : Nat) : Int)) ∧ (n ≤ 6 → Tiny 100 0 (.int ((n : Nat) : Int))) := ⟨rfl, rfl, rfl, ⟨_, rfl⟩, fun h => tiny_int ⟨by omega, by omega⟩⟩
  have ss : ∀ s : Str, smallD (.str s) = true → (szD (.str s) = 0 ∧ dpD (.str s) = 0 ∧ isTupD (.str s) = false ∧ Ty (.str s) ∧ (n ≤ 6 → Tiny 100 0 (.str s))) := fun s h => ⟨rfl, rfl, rfl, ⟨_, rfl⟩, fun _ => tiny_sc h⟩
  have bb : ∀ b : Bool, szD (.bl b) = 0 ∧ dpD (.bl b) = 0 ∧ isTupD (.bl b) = false ∧ Ty (.bl b) ∧ (n ≤ 6 → Tiny 100 0 (.bl b)) := fun b => ⟨rfl, rfl, rfl, ⟨_, rfl⟩, fun _ => tiny_sc rfl⟩
  intro j hj
  match j, hj with
  | 0, _ => exact sc _ rfl rfl rfl ⟨_, rfl⟩ (tiny_int ⟨by decide, by decide⟩)
  | 1, _ => exact sc _ rfl rfl rfl ⟨_, rfl⟩ tiny_m1
  | 2, _ => exact sc _ rfl rfl rfl ⟨_, rfl⟩ (tiny_sc rfl)
  | 3, _ => exact sc _ rfl rfl rfl ⟨_, rfl⟩ (tiny_sc rfl)
  | 4, _ => exact sc _ rfl rfl rfl ⟨_, rfl⟩ (tiny_sc (show smallD (.str "0") = true by decide +kernel))
  | 5, _ => exact ⟨Nat.zero_le _, Nat.zero_le _, fun m _ => deep_sc rfl ⟨_, rfl⟩, fun _ _ => (Tiny.lst (n := 3) (three (tiny_int ⟨by decide, by decide⟩) (tiny_int ⟨by decide, by decide⟩) (tiny_int ⟨by decide, by decide⟩)) (Nat.le_refl 3)).up (by omega) (by omega)⟩
  | 6, _ => exact tp _ (by decide) (two i0 i1)
  | 7, _ => exact tp _ (by show 3 ≤ 4; decide) (three nn i0 i1)
  | 8, _ => exact tp _ (by decide) (four i0 i0 i1 i1)
  | 9, _ => exact tp _ (by decide) (three (ss _ (by decide +kernel)) i0 i1)
  | 10, _ => exact tp _ (by decide) (three (bb true) i0 i1)
  | 11, _ => exact tp _ (by decide) (fun x hx => nomatch hx)
  | 12, _ => exact tp _ (by decide) (three i0 (bb false) i1)
  | 13, _ =>
    refine ⟨?_, ?_, fun m hm => ?_, fun hn hs => ?_⟩
    · show szD (.int _) + (szD (.int 1) + (szD (trD t) + 0)) + 1 ≤ _
      rw [szD_tr]
      show 0 + (0 + (nodes t + 0)) + 1 ≤ _
      omega
    · show max (dpD (.int _)) (max (dpD (.int 1)) (max (dpD (trD t)) 0)) + 1 ≤ _
      rw [dpD_tr]
      show max 0 (max 0 (max (dep t) 0)) + 1 ≤ _
      omega
    · obtain ⟨k, rfl⟩ : ∃ k, m = k + 1 := ⟨m - 1, by omega⟩
      exact three (Q := Deep k) (deep_sc rfl ⟨_, rfl⟩) (deep_sc rfl ⟨_, rfl⟩) (deep_tr k t (by omega))
    · have a := tiny_tr t hs
      exact (tiny3 ((tiny_int (p := ((n - 1 : Nat) : Int)) ⟨by omega, by omega⟩).up (Nat.le_refl _) (Nat.zero_le (nodes t))) ((tiny_int (p := 1) ⟨by decide, by decide⟩).up (Nat.le_refl _) (Nat.zero_le (nodes t))) a).up (by omega) (by omega)
  | 14, _ => exact ⟨by show szD (trD t) ≤ _; rw [szD_tr]; omega, by show dpD (trD t) ≤ _; rw [dpD_tr]; omega, fun m hm => deep_tr m t (by omega), fun _ hs => (tiny_tr t hs).up (by omega) (by omega)⟩
theorem bnt_ok (n : Nat) : ∀ (t : Tr) (x : Pl), BOk n t (bnt n t x).1
  | .leaf i, x => oddB_ok n _ _ (d15 _)
  | .node p l r, x => by
    unfold bnt
    split
    · split
      · have b := bnt_ok n l (drawC (drawC x 3) 2)
        generalize (bnt n l (drawC (drawC x 3) 2)).1 = d at b
        have b1 := b.sz
        have b2 := b.dp
        refine ⟨?_, ?_, fun m hm => ?_, fun hn hs => ?_⟩
        · show szD (.int p) + (szD d + (szD (trD r) + 0)) + 1 ≤ nodes l + nodes r + 1 + 1
          rw [szD_tr]
          show 0 + (szD d + (nodes r + 0)) + 1 ≤ _
          omega
        · show max (dpD (.int p)) (max (dpD d) (max (dpD (trD r)) 0)) + 1 ≤ max (dep l) (dep r) + 1 + 1
          rw [dpD_tr]
          show max 0 (max (dpD d) (max (dep r) 0)) + 1 ≤ _
          omega
        · unfold nodes at hm
          obtain ⟨k, rfl⟩ : ∃ k, m = k + 1 := ⟨m - 1, by omega⟩
          intro y hy
          simp only [List.mem_cons, List.not_mem_nil, or_false] at hy
          rcases hy with rfl | rfl | rfl
          · exact deep_sc rfl ⟨_, rfl⟩
          · exact b.deep k (by omega)
          · exact deep_tr k r (by omega)
        · obtain ⟨hp, hl, hr⟩ := hs
          have a1 := b.tiny hn hl
          have a2 := tiny_tr r hr
          unfold nodes
          exact (tiny3 ((tiny_int hp).up (Nat.le_refl _) (Nat.zero_le (nodes l + nodes r + 2))) (a1.up (Nat.le_refl _) (by omega)) (a2.up (Nat.le_refl _) (by omega))).up (by omega) (by omega)
      · have b := bnt_ok n r (drawC (drawC x 3) 2)
        generalize (bnt n r (drawC (drawC x 3) 2)).1 = d at b
        have b1 := b.sz
        have b2 := b.dp
        refine ⟨?_, ?_, fun m hm => ?_, fun hn hs => ?_⟩
        · show szD (.int p) + (szD (trD l) + (szD d + 0)) + 1 ≤ nodes l + nodes r + 1 + 1
          rw [szD_tr]
          show 0 + (nodes l + (szD d + 0)) + 1 ≤ _
          omega
        · show max (dpD (.int p)) (max (dpD (trD l)) (max (dpD d) 0)) + 1 ≤ max (dep l) (dep r) + 1 + 1
          rw [dpD_tr]
          show max 0 (max (dep l) (max (dpD d) 0)) + 1 ≤ _
          omega
        · unfold nodes at hm
          obtain ⟨k, rfl⟩ : ∃ k, m = k + 1 := ⟨m - 1, by omega⟩
          intro y hy
          simp only [List.mem_cons, List.not_mem_nil, or_false] at hy
          rcases hy with rfl | rfl | rfl
          · exact deep_sc rfl ⟨_, rfl⟩
          · exact deep_tr k l (by omega)
          · exact b.deep k (by omega)
        · obtain ⟨hp, hl, hr⟩ := hs
          have a1 := b.tiny hn hr
          have a2 := tiny_tr l hl
          unfold nodes
          exact (tiny3 ((tiny_int hp).up (Nat.le_refl _) (Nat.zero_le (nodes l + nodes r + 2))) (a2.up (Nat.le_refl _) (by omega)) (a1.up (Nat.le_refl _) (by omega))).up (by omega) (by omega)
    · exact oddB_ok n _ _ (d15 _)
def bntR (m : Nat) : FSpec := fun ds c o => ∃ (i n : Nat) (t : Tr) (x : Pl), ds = [.mut i, trD t, .int ((n : Nat) : Int)] ∧ nodes t ≤ m ∧ n ≤ 6 ∧ c[i]? = some x.c ∧ o = .val (bnt n t x).1 false (c.set i (bnt n t x).2.c)
section
variable {P : Program} {w : World} {K : PySem.W.Frag} {mg : Str → Option Value} {base : Heap}
abbrev nBn : List Str := ["_law_pool_here", "_law_shape", "_law_many", "_law_side", "_law_some"]
theorem scBn : FnScope nBn ["_law_pool_here", "_law_shape", "_law_many"] (defScope (top 52)) := ⟨rfl, rfl, rfl, by decide +kernel, rfl, by decide +kernel, by decide +kernel⟩
abbrev bth (i : Nat) : Stmt := (defBody (top 52)).getD i (.Pass ⟨0, 0, 0, 0⟩)
theorem ok_bn {f : Addr} {fd : FuncData} (G : Glb mg) (T : DrawD P w K mg base) (F : Fun K "_law_bent" "_law_bent" (top 52) f fd) (hm : mg "_law_bent" = some (.ref f)) (hb : Binds K fd ["_law_pool_here", "_law_shape", "_law_many"] []) : ∀ m : Nat, FnOk P w K mg base CX0 (m + 2) f fd ["_law_pool_here", "_law_shape", "_law_many"] (spF K (bntR m)) := by
  /- behind the test: some other value -/
  have rest : ∀ (t : Tr) (n i : Nat) (y : Pl) (c : PC) (cdv : Value) (A : Around) (outer : List Env) (s : Shared) (H : Hp) (E : XK) (p : HD), Room 1 (A.deeper (envOfC "_law_bent" (defScope (top 52)) s.heap.objs.size f cdv)) → n ≤ 6 → c[i]? = some y.c →
      RSs (cxOf CX0 P w K mg base nBn "_law_bent" (defScope (top 52)) f cdv A outer s H E).nox Wf p (startR nBn [.mut i, trD t, .int ((n : Nat) : Int)]) c ((defBody (top 52)).drop 1) (.rt (oddB n t (drawV y 15).toNat) false (c.set i (drawC y 15).c)) := fun t n i y c cdv A outer s H E p hr1 hn hx => by
    let A1 : List D := [oddB n t 0, oddB n t 1, oddB n t 2, oddB n t 3, oddB n t 4, oddB n t 5, oddB n t 6, oddB n t 7, oddB n t 8, oddB n t 9]
    let A2 : List D := A1 ++ [oddB n t 10, oddB n t 11, oddB n t 12]
    let A3 : List D := A2 ++ [oddB n t 13, oddB n t 14]
    have dv := drawV_in (c := y) (show (0 : Int) < 15 by decide)
    have hj := d15 y
    have mx : (if (0 : Int) < ((n : Nat) : Int) - 1 then ((n : Nat) : Int) - 1 else 0) = ((n - 1 : Nat) : Int) := by split <;> omega
    refine rss_cons (c1 := c) (ρ1 := [some (.mut i), some (trD t), some (.int ((n : Nat) : Int)), none, some (.lst ⟨true, true⟩ A1)]) (rs_set (nw := true) 4 scBn.nd (re_lst (ra_cons re_int (ra_cons (re_neg re_int) (ra_cons re_bl (ra_cons re_non (ra_cons re_str (ra_cons (re_lst (ra_cons re_int (ra_cons re_int (ra_cons re_int ra_nil))) (by show 3 ≤ 100000; decide)) (ra_cons (re_tup (ra_cons re_int (ra_cons re_int ra_nil)) (by show 2 ≤ 100000; decide)) (ra_cons (re_tup (ra_cons (re_var 2) (ra_cons re_int (ra_cons re_int ra_nil))) (by show 3 ≤ 100000; decide)) (ra_cons (re_tup (ra_cons re_int (ra_cons re_int (ra_cons re_int (ra_cons re_int ra_nil)))) (by show 4 ≤ 100000; decide)) (ra_cons (re_tup (ra_cons re_str (ra_cons re_int (ra_cons re_int ra_nil))) (by show 3 ≤ 100000; decide)) ra_nil)))))))))) (by show 10 ≤ 100000; decide))) ?_
    refine rss_cons (c1 := c) (ρ1 := [some (.mut i), some (trD t), some (.int ((n : Nat) : Int)), none, some (.lst ⟨false, true⟩ A2)]) (rs_set (nw := true) 4 scBn.nd (re_bin (n2 := true) op_cat (re_var 4) (re_lst (ds := [oddB n t 10, oddB n t 11, oddB n t 12]) (ra_cons (re_tup (ra_cons re_bl (ra_cons re_int (ra_cons re_int ra_nil))) (by show 3 ≤ 100000; decide)) (ra_cons (re_tup ra_nil (by show 0 ≤ 100000; decide)) (ra_cons (re_tup (ra_cons re_int (ra_cons re_bl (ra_cons re_int ra_nil))) (by show 3 ≤ 100000; decide)) ra_nil))) (by show 3 ≤ 100000; decide)) (ov_cat rfl rfl (by show 10 + 3 ≤ 100000; decide)))) ?_
    refine rss_cons (c1 := c) (ρ1 := [some (.mut i), some (trD t), some (.int ((n : Nat) : Int)), none, some (.lst ⟨false, true⟩ A3)]) (rs_set (nw := true) 4 scBn.nd (re_bin (n2 := true) op_cat (re_var 4) (re_lst (ds := [oddB n t 13, oddB n t 14]) (ra_cons (re_tup (ra_cons (re_to (re_callB (call_max2 rfl) G.max PyProof.Rows.boot_max (ra_cons re_int (ra_cons (re_bin op_sub (re_var 2) re_int ov_ii) ra_nil)) cv_max2) (congrArg D.int mx)) (ra_cons re_int (ra_cons (re_var 1) ra_nil))) (by show 3 ≤ 100000; decide)) (ra_cons (re_var 1) ra_nil)) (by show 2 ≤ 100000; decide)) (ov_cat rfl rfl (by show 13 + 2 ≤ 100000; decide)))) ?_
    refine rss_ret (rs_ret (re_ix ix_seq (re_var 4) (re_c0 T hr1 (ra_cons (re_var 0) (ra_cons (re_callB call_len G.len PySem.boot_len (ra_cons (re_var 4) ra_nil) cv_lenL) ra_nil)) ⟨i, 15, y, rfl, hx, by decide, by decide, rfl⟩) (ov_ixL (j := (drawV y 15).toNat) (Int.toNat_of_nonneg dv.1).symm ?_)))
    show A3[(drawV y 15).toNat]? = _
    generalize (drawV y 15).toNat = j at hj
    match j, hj with
    | 0, _ => rfl
    | 1, _ => rfl
    | 2, _ => rfl
    | 3, _ => rfl
    | 4, _ => rfl
    | 5, _ => rfl
    | 6, _ => rfl
    | 7, _ => rfl
    | 8, _ => rfl
    | 9, _ => rfl
    | 10, _ => rfl
    | 11, _ => rfl
    | 12, _ => rfl
    | 13, _ => rfl
    | 14, _ => rfl
  have leafy : ∀ (a : Int) (n i : Nat) (y : Pl) (c : PC) (cdv : Value) (A : Around) (outer : List Env) (s : Shared) (H : Hp) (E : XK) (p : HD), Room 1 (A.deeper (envOfC "_law_bent" (defScope (top 52)) s.heap.objs.size f cdv)) → n ≤ 6 → c[i]? = some y.c →
      RSs (cxOf CX0 P w K mg base nBn "_law_bent" (defScope (top 52)) f cdv A outer s H E).nox Wf p (startR nBn [.mut i, trD (.leaf a), .int ((n : Nat) : Int)]) c (defBody (top 52)) (.rt (bnt n (.leaf a) y).1 false (c.set i (bnt n (.leaf a) y).2.c)) := fun a n i y c cdv A outer s H E p hr1 hn hx =>
    rss_cons (c1 := c) (rs_if (kb := false) (RW.rt (rw_and (k1 := false) (k2 := false) (rt_val (re_callB (d := .bl false) call_isi G.isi PyProof.Rows.boot_isinstance (ra_cons (re_var 1) (ra_cons (re_ty G.tuple PyProof.Rows.boot_tuple) ra_nil)) (cv_isi (t := "int") rfl rfl))) fun z => nomatch z)) (fun z => nomatch z) fun _ => rss_nil) (rest (.leaf a) n i y c cdv A outer s H E p hr1 hn hx)
  intro m
  induction m with
  | zero =>
    refine fn_val F scBn (fun ds c o h => ?_) (fun ds c o h => ?_) (fun cdv A outer s H E hr p ds c o h => ?_)
    · obtain ⟨i, n, t, x, rfl, _⟩ := h
      rfl
    · obtain ⟨i, n, t, x, _, _, _, _, rfl⟩ := h
      exact ⟨_, _, _, rfl⟩
    · obtain ⟨i, n, t, x, rfl, hn, hn6, hx, rfl⟩ := h
      cases t with
      | node p l r =>
        unfold nodes at hn
        omega
      | leaf a => exact .inl (leafy a n i x c cdv A outer s H E p hr hn6 hx)
  | succ m ih =>
    have TI : Def0 P w K mg base (m + 2) "_law_bent" ["_law_pool_here", "_law_shape", "_law_many"] (bntR m) := ⟨⟨f, fd, ih, hm, F.kp, hb⟩⟩
    refine fn_val F scBn (fun ds c o h => ?_) (fun ds c o h => ?_) (fun cdv A outer s H E hr p ds c o h => ?_)
    · obtain ⟨i, n, t, x, rfl, _⟩ := h
      rfl
    · obtain ⟨i, n, t, x, _, _, _, _, rfl⟩ := h
      exact ⟨_, _, _, rfl⟩
    · obtain ⟨i, n, t, x, rfl, hn, hn6, hx, rfl⟩ := h
      have hr1 := hr.mono (show 1 ≤ m + 2 by omega)
      cases t with
      | leaf a => exact .inl (leafy a n i x c cdv A outer s H E p hr1 hn6 hx)
      | node k a b =>
        unfold nodes at hn
        have hx1 : (c.set i (drawC x 3).c)[i]? = some (drawC x 3).c := at_set hx
        have test : ∀ q, q = decide (drawV x 3 > 0) → RT (cxOf CX0 P w K mg base nBn "_law_bent" (defScope (top 52)) f cdv A outer s H E).nox Wf p (startR nBn [.mut i, trD (.node k a b), .int ((n : Nat) : Int)]) c (match bth 0 with | .If e _ _ _ => e | _ => .Name "" ⟨0, 0, 0, 0⟩) (.val q (c.set i (drawC x 3).c)) := fun q hq =>
          RW.rt (rw_andS (rt_val (re_callB (d := .bl true) call_isi G.isi PyProof.Rows.boot_isinstance (ra_cons (re_var 1) (ra_cons (re_ty G.tuple PyProof.Rows.boot_tuple) ra_nil)) (cv_isi (t := "tuple") rfl rfl))) (rw_and1 (rt_to (rt_cmp op_gt (re_c0 T hr1 (ra_cons (re_var 0) (ra_cons re_int ra_nil)) ⟨i, 3, x, rfl, hx, by decide, by decide, rfl⟩) re_int ov_ib) hq.symm)))
        unfold bnt
        by_cases h : drawV x 3 > 0
        · rw [if_pos h]
          have d2 := drawV_in (c := drawC x 3) (show (0 : Int) < 2 by decide)
          have hx2 : ((c.set i (drawC x 3).c).set i (drawC (drawC x 3) 2).c)[i]? = some (drawC (drawC x 3) 2).c := at_set hx1
          refine .inl (rss_ret (rs_if (kb := true) (test true (decide_eq_true h).symm) (fun _ => ?_) fun z => nomatch z))
          refine rss_cons (c1 := (c.set i (drawC x 3).c).set i (drawC (drawC x 3) 2).c) (ρ1 := [some (.mut i), some (trD (.node k a b)), some (.int ((n : Nat) : Int)), some (.int (1 + drawV (drawC x 3) 2)), none]) (rs_set (nw := true) 3 scBn.nd (re_bin op_add re_int (re_c0 T hr1 (ra_cons (re_var 0) (ra_cons re_int ra_nil)) ⟨i, 2, _, rfl, hx1, by decide, by decide, rfl⟩) ov_ii)) ?_
          by_cases h2 : drawV (drawC x 3) 2 = 0
          · rw [if_pos h2, h2]
            have e2 : c.set i (bnt n a (drawC (drawC x 3) 2)).2.c = ((c.set i (drawC x 3).c).set i (drawC (drawC x 3) 2).c).set i (bnt n a (drawC (drawC x 3) 2)).2.c := by rw [List.set_set, List.set_set]
            dsimp only
            rw [e2]
            exact rss_ret (rs_ret (re_bin (d1 := .tup ([.int k] ++ [(bnt n a (drawC (drawC x 3) 2)).1])) (n1 := false) op_catA (re_bin (n2 := true) op_catA (re_to (d' := .tup [.int k]) (re_slT (re_var 1) rp_none (rp_some (W := Wf) (re_var 3))) rfl) (re_tup (ra_cons (re_c0 TI hr (ra_cons (re_var 0) (ra_cons (re_ix ix_seq (re_var 1) (re_var 3) (ov_ixT (j := 1) rfl rfl)) (ra_cons (re_var 2) ra_nil))) ⟨i, n, a, _, rfl, by omega, hn6, hx2, rfl⟩) ra_nil) (by show 1 ≤ 100000; decide)) (ov_catA (by show 1 + 1 ≤ 100000; decide))) (re_to (d' := .tup [trD b]) (re_slT (re_var 1) (rp_some (W := Wf) (nw := true) (re_bin op_add (re_var 3) re_int ov_ii)) rp_none) rfl) (ov_catA (by show 2 + 1 ≤ 100000; decide))))
          · have h3 : drawV (drawC x 3) 2 = 1 := by omega
            rw [if_neg h2, h3]
            have e2 : c.set i (bnt n b (drawC (drawC x 3) 2)).2.c = ((c.set i (drawC x 3).c).set i (drawC (drawC x 3) 2).c).set i (bnt n b (drawC (drawC x 3) 2)).2.c := by rw [List.set_set, List.set_set]
            dsimp only
            rw [e2]
            exact rss_ret (rs_ret (re_bin (d1 := .tup ([.int k, trD a] ++ [(bnt n b (drawC (drawC x 3) 2)).1])) (n1 := false) op_catA (re_bin (n2 := true) op_catA (re_to (d' := .tup [.int k, trD a]) (re_slT (re_var 1) rp_none (rp_some (W := Wf) (re_var 3))) rfl) (re_tup (ra_cons (re_c0 TI hr (ra_cons (re_var 0) (ra_cons (re_ix ix_seq (re_var 1) (re_var 3) (ov_ixT (j := 2) rfl rfl)) (ra_cons (re_var 2) ra_nil))) ⟨i, n, b, _, rfl, by omega, hn6, hx2, rfl⟩) ra_nil) (by show 1 ≤ 100000; decide)) (ov_catA (by show 2 + 1 ≤ 100000; decide))) (re_to (d' := .tup []) (re_slT (re_var 1) (rp_some (W := Wf) (nw := true) (re_bin op_add (re_var 3) re_int ov_ii)) rp_none) rfl) (ov_catA (by show 3 + 0 ≤ 100000; decide))))
        · rw [if_neg h]
          have e2 : c.set i (drawC (drawC x 3) 15).c = (c.set i (drawC x 3).c).set i (drawC (drawC x 3) 15).c := (List.set_set ..).symm
          dsimp only
          rw [e2]
          exact .inl (rss_cons (rs_if (kb := false) (test false (decide_eq_false h).symm) (fun z => nomatch z) fun _ => rss_nil) (rest (.node k a b) n i (drawC x 3) _ cdv A outer s H E p hr1 hn6 hx1))
end
end K35

namespace K35
open PySem PySem.Spec PyProof.Rows L2 LA
open K36 (ev dep kn nw)
/-! ### what is told -/
def two2 (s : Str) (d : D) : D := .lst ⟨true, true⟩ [.str s, d]
def tqX (C Cn BT : Addr) : FSpec := fun ds c o => (∃ d1 d2, ds = [d1, d2] ∧ Ty d1 ∧ posD d1 7 = false ∧ o = .ex Cn [("given", d1)] c) ∨
  (∃ (n : Nat) (d2 : D), ds = [.int ((n : Nat) : Int), d2] ∧ n ≤ 6 ∧ Deep 40 d2 ∧ isT 40 ((n : Nat) : Int) d2 = false ∧ o = .ex BT [("given", d2)] c) ∨ tqR C ds c o
def dpX (BT : Addr) : FSpec := fun ds c o => (∃ d, ds = [d] ∧ Deep 40 d ∧ isT 40 6 d = false ∧ o = .ex BT [("given", d)] c) ∨ depthR ds c o
section
variable {P : Program} {w : World} {K : PySem.W.Frag} {mg : Str → Option Value} {base : Heap} {BT Cn BI C Lk : Addr}
theorem ok_tqX {f : Addr} {fd : FuncData} (mQ : mg "Question" = some (.ref C)) (TN : CntD P w K mg base Cn) (TC : CkD P w K mg base BT) (TI : AllD P w K mg base Cn "inputs" bins) (TE : EndD P w K mg base) (TO : CMeth P w K mg base C "of" 7 ["cls", "many", "yes"] (ofR C Cn BI) 2 [] app2 app2V) (F : Fun K "tree_question" "tree_question" (top 34) f fd) : FnOk P w K mg base (L2.CX P w) 45 f fd ["many", "tree"] (spF K (tqX C Cn BT)) := by
  refine fn_exc F scTq (fun ds c o h => ?_) (fun cdv A outer s H E hr p ds c o h tk => ?_)
  · rcases h with ⟨d1, d2, rfl, _⟩ | ⟨n, d2, rfl, _⟩ | ⟨n, t, rfl, _⟩ <;> rfl
  · rcases h with ⟨d1, d2, rfl, t1, h1, rfl⟩ | ⟨n, d2, rfl, hn, hd, hf, rfl⟩ | ⟨n, t, rfl, hn, ho, hm, rfl⟩
    · exact rss_ex (rs_exprX (re_c1D (es' := [.int 6]) tk TN (hr.mono (by decide)) (ra_cons (re_var 0) ra_nil) (fun q H => sixes) ⟨d1, rfl, t1, by rw [h1, if_neg Bool.false_ne_true]⟩))
    · refine rss_cons (c1 := c) (ρ1 := startR nTq [.int ((n : Nat) : Int), d2]) (rs_expr (re_c1D (es' := [.int 6]) (o := .val .non true c) tk TN (hr.mono (by decide)) (ra_cons (re_var 0) ra_nil) (fun q H => sixes) ⟨_, rfl, ⟨_, rfl⟩, by rw [pos_int hn, if_pos rfl]⟩)) ?_
      exact rss_ex (rs_exprX (re_c1 tk TC hr (ra_cons (re_var 1) (ra_cons (re_var 0) ra_nil)) ⟨d2, ((n : Nat) : Int), rfl, hd, by rw [hf, if_neg Bool.false_ne_true]⟩))
    · have p64 := pow_64 hn
      refine .inl (rss_cons (c1 := c) (ρ1 := startR nTq [.int ((n : Nat) : Int), trD t]) (rs_expr (re_c1D (es' := [.int 6]) (o := .val .non true c) tk TN (hr.mono (by decide)) (ra_cons (re_var 0) ra_nil) (fun q H => sixes) ⟨_, rfl, ⟨_, rfl⟩, by rw [pos_int hn, if_pos rfl]⟩)) ?_)
      refine rss_cons (c1 := c) (ρ1 := startR nTq [.int ((n : Nat) : Int), trD t]) (rs_expr (re_c1 (o := .val .non true c) tk TC hr (ra_cons (re_var 1) (ra_cons (re_var 0) ra_nil)) ⟨_, ((n : Nat) : Int), rfl, deep_tr 40 t hm, by rw [isT_tr 40 t hm, ho, if_pos rfl]⟩)) ?_
      have sel := coll_sel (fun w => decide (ev w t = 1)) (insT n)
      have mem : ∀ w ∈ ysT n t, w ∈ insT n := fun w hw => (List.mem_filter.mp hw).1
      have el : ∀ d ∈ wD (ysT n t), okI n d = true ∧ Fit d := fun d hd => by
        unfold wD at hd
        obtain ⟨w, hw, rfl⟩ := List.mem_map.mp hd
        exact ⟨okI_in hn (mem w hw), str_fit (by rw [insT_at (mem w hw)]; omega)⟩
      have nb : badI n (wD (ysT n t)) = none := by
        unfold badI
        rw [List.find?_eq_none]
        intro d hd
        rw [(el d hd).1]
        decide
      refine rss_ret (rs_ret (re_cm (c1 := c) (c2 := c) (c3 := c) (o := .val (qD C (tqL n t)) true c) (zs := []) (ds := [.int ((n : Nat) : Int), .lst ⟨false, true⟩ (wD (ysT n t))]) (gD := [.cls C, .int ((n : Nat) : Int), .lst ⟨false, true⟩ (wD (ysT n t))]) tk TO (hr.mono (by decide)) (re_cls mQ) (ra_cons (re_var 0) (ra_cons (nw := true) ?_ ra_nil)) rk_nil rfl rfl (fun h1 h2 => DVs.app h1 h2) ⟨_, _, wD (ysT n t), rfl, ⟨_, rfl⟩, .inl ⟨_, rfl⟩, by rw [wD_len]; exact Nat.le_trans (List.length_filter_le _ _) (by rw [insT_len]; omega), fun d hd => (el d hd).2, ?_⟩))
      · show RE _ _ _ _ _ _ (.val (.lst ⟨false, true⟩ (wD ((insT n).filter fun w => decide (ev w t = 1)))) true c)
        rw [← sel]
        refine re_lc (own := [("text", 2)]) (g := gName 2) (xs := wD (insT n)) (fun i => decide (ev ((insT n).getD i []) t = 1)) (fun i => .str (tx ((insT n).getD i []))) (fun _ => c) (fun _ => c) (fun i => [some (.int ((n : Nat) : Int)), some (trD t), some (.str (tx ((insT n).getD i [])))]) (fun _ => false) rfl scTq.nd (ri_lst (re_c1 (o := .val (allV bins n) false c) tk TI (hr.mono (by decide)) (ra_cons (re_var 0) ra_nil) ⟨_, rfl, ⟨_, rfl⟩, by rw [pos_int hn, if_pos rfl]; rfl⟩)) (blkOk_by (N := nTq) (sc := defScope (top 34)) (by decide +kernel)) (fun _ _ _ _ _ => pg_name (i := 2) scTq.nd rfl (Or.inl rfl)) (fun i d h => ?_) (fun i d h q s H C cl fp => ?_) (fun i d h _ q s H C cl fp => re_var 2) (fun _ _ _ _ => rfl) (by rw [insT_wD]; omega)
        · obtain ⟨rfl, _, _⟩ := wD_at h
          exact tg_name (j := 2) (vs := [2]) (by decide)
        · obtain ⟨rfl, _, hmi⟩ := wD_at h
          have hl := insT_at hmi
          exact pts_one (rt_cmp op_eq (re_c0 TE (hr.mono (by decide)) (ra_cons (re_var 1) (ra_cons (re_var 2) ra_nil)) ⟨t, (insT n).getD i [], rfl, by rw [hl]; exact ho, by omega, by omega, rfl⟩) re_int ov_eqI)
      · rw [pos_int hn, if_pos rfl]
        have e : cntN (.int ((n : Nat) : Int)) = n := rfl
        rw [e, nb, cds_wD]
        rfl
theorem ok_dpX {f : Addr} {fd : FuncData} {tk0 : Tok} (hM : mg "MOST" = some (.int 6 tk0)) (TC : CkD P w K mg base BT) (TD : Def0 P w K mg base 41 "_depth" ["tree"] (depR 40)) (F : Fun K "depth" "depth" (top 32) f fd) : FnOk P w K mg base (L2.CX P w) 45 f fd ["tree"] (spF K (dpX BT)) := by
  refine fn_exc F (N := ["tree"]) ⟨rfl, rfl, rfl, by decide +kernel, rfl, by decide +kernel, by decide +kernel⟩ (fun ds c o h => ?_) (fun cdv A outer s H E hr p ds c o h tk => ?_)
  · rcases h with ⟨d, rfl, _⟩ | ⟨t, rfl, _⟩ <;> rfl
  · rcases h with ⟨d, rfl, hd, hf, rfl⟩ | ⟨t, rfl, ho, hn, rfl⟩
    · exact rss_ex (rs_exprX (re_c1 tk TC hr (ra_cons (re_var 0) (ra_cons (re_gint hM) ra_nil)) ⟨d, 6, rfl, hd, by rw [hf, if_neg Bool.false_ne_true]⟩))
    · refine .inl (rss_cons (rs_expr (re_c1 (o := .val .non true c) tk TC hr (ra_cons (re_var 0) (ra_cons (re_gint hM) ra_nil)) ⟨_, 6, rfl, deep_tr 40 t hn, by rw [isT_tr 40 t hn, ho, if_pos rfl]⟩)) ?_)
      exact rss_ret (rs_ret (re_c0 TD (hr.mono (by decide)) (ra_cons (re_var 0) ra_nil) ⟨t, rfl, hn, rfl⟩))
inductive UOut | cnt (d : D) | inp (d : D) | tree (d : D) | ok (r : D) (nw : Bool)
def eoU (Cn BI BT : Addr) (u : UOut) (c : PC) : EO := match u with
  | .cnt d => .ex Cn [("given", d)] c
  | .inp d => .ex BI [("given", d)] c
  | .tree d => .ex BT [("given", d)] c
  | .ok r b => .val r b c
def tdU : UOut → D
  | .cnt d => two2 "count" d
  | .inp d => two2 "input" d
  | .tree d => two2 "tree" d
  | .ok r _ => r
def isN (k : Nat) : Bool := decide (k = 1) || decide (k = 4)
/-- what comes of each of the seven -/
def tdB (C Cn BI BT : Addr) (k : Nat) (a d : D) (u : UOut) (c : PC) : Prop :=
  (k = 0 ∧ itR Cn [a, d] c (eoU Cn BI BT u c)) ∨ (k = 1 ∧ lkR BI BT [d, a] c (eoU Cn BI BT u c)) ∨ (k = 2 ∧ taR BI BT [d, a] c (eoU Cn BI BT u c)) ∨ (k = 3 ∧ dpX BT [d] c (eoU Cn BI BT u c)) ∨ (k = 4 ∧ leR Cn BT [a, d] c (eoU Cn BI BT u c)) ∨
  (k = 5 ∧ ((∃ l, u = .ok (.str (tx l)) false ∧ tqX C Cn BT [a, d] c (.val (qD C l) true c)) ∨ (∃ E fs, eoU Cn BI BT u c = .ex E fs c ∧ tqX C Cn BT [a, d] c (.ex E fs c)))) ∨ (k = 6 ∧ wrR C BT [a, d] c (eoU Cn BI BT u c))
def tdR (C Cn BI BT : Addr) : FSpec := fun ds c o => ∃ (k : Nat) (a d : D) (u : UOut), ds = [.int ((k : Nat) : Int), a, d] ∧ tdB C Cn BI BT k a d u c ∧ (∀ r b, u = .ok r b → isN k = true → b = true) ∧ o = .val (tdU u) (isN k) c
structure ExF (K : PySem.W.Frag) (Cn BI BT : Addr) : Prop where
  e00 : PySem.W.exmOne K (.ref Cn) (.ref Cn) = some true
  e10 : PySem.W.exmOne K (.ref BI) (.ref Cn) = some false
  e11 : PySem.W.exmOne K (.ref BI) (.ref BI) = some true
  e20 : PySem.W.exmOne K (.ref BT) (.ref Cn) = some false
  e21 : PySem.W.exmOne K (.ref BT) (.ref BI) = some false
  e22 : PySem.W.exmOne K (.ref BT) (.ref BT) = some true
structure TlD (P : Program) (w : World) (K : PySem.W.Frag) (mg : Str → Option Value) (base : Heap) (C Cn BI BT : Addr) : Prop where
  it : Def1K P w K mg base 44 "is_tree" ["many", "value"] (itR Cn) 1 ["value"] app2 app2V
  lk : Def1K P w K mg base 46 "looked" ["tree", "text"] (lkR BI BT) 1 ["text"] app2 app2V
  ta : TaD P w K mg base BI BT
  dp : Def1 P w K mg base 45 "depth" ["tree"] (dpX BT)
  le : Def1K P w K mg base 45 "leaves" ["many", "tree"] (leR Cn BT) 1 ["tree"] app2 app2V
  tq : Def1 P w K mg base 45 "tree_question" ["many", "tree"] (tqX C Cn BT)
  wr : Def1 P w K mg base 45 "wrong_input" ["question", "tree"] (wrR C BT)
theorem rss_wk {X : Cx} {W : WX} {p : HD} {ρ : Rho} {c c1 : PC} {sts : List Stmt} {d : D} {b b' : Bool} (h : RSs X W p ρ c sts (.rt d b c1)) (hb : b' = true → b = true) : RSs X W p ρ c sts (.rt d b' c1) :=
  pss_imp h fun De σ H q => ⟨q.1, fun v H1 e1 p1 dv hn => q.2 v H1 e1 p1 dv fun z => hn (hb z)⟩
abbrev nTold : List Str := ["_law_which", "_law_one", "_law_other", "e"]
theorem scTold : FnScope nTold ["_law_which", "_law_one", "_law_other"] (defScope (top 54)) := ⟨rfl, rfl, rfl, by decide +kernel, rfl, by decide +kernel, by decide +kernel⟩
theorem ok_told {f : Addr} {fd : FuncData} (Q : QC K C) (PT : QProp P w K mg base C "table" (tableR C)) (EN : Err1 P w K mg base "BadCount" "given" Cn) (EI : Err1 P w K mg base "BadInput" "given" BI) (ET : Err1 P w K mg base "BadTree" "given" BT) (XF : ExF K Cn BI BT) (mL : mg "LooksError" = some (.ref Lk)) (T : TlD P w K mg base C Cn BI BT)
    (F : Fun K "_law_told" "_law_told" (top 54) f fd) : FnOk P w K mg base CX0 47 f fd ["_law_which", "_law_one", "_law_other"] (spF K (tdR C Cn BI BT)) := by
  obtain ⟨f0, fd0, a1, a2, a3, a4⟩ := T.it.ex
  obtain ⟨f1, fd1, b1, b2, b3, b4⟩ := T.lk.ex
  obtain ⟨f4, fd4, e1, e2, e3, e4⟩ := T.le.ex
  refine fn_val F scTold (fun ds c o h => ?_) (fun ds c o h => ?_) (fun cdv A outer s H E hr p ds c o h => ?_)
  · obtain ⟨k, a, d, u, rfl, _⟩ := h
    rfl
  · obtain ⟨k, a, d, u, _, _, _, rfl⟩ := h
    exact ⟨_, _, _, rfl⟩
  · obtain ⟨k, a, d, u, rfl, hb, hw, rfl⟩ := h
    have h44 := hr.mono (show 44 ≤ 46 by decide)
    have h45 := hr.mono (show 45 ≤ 46 by decide)
    have body : ∀ (W' : WX) (pn : List (Addr × Obj)) (xe : Value → Shared → Prop), Takes ((cxOf CX0 P w K mg base nTold "_law_told" (defScope (top 54)) f cdv A outer s H E).nox.tr pn xe) W' →
        RSs ((cxOf CX0 P w K mg base nTold "_law_told" (defScope (top 54)) f cdv A outer s H E).nox.tr pn xe) W' p (startR nTold [.int ((k : Nat) : Int), a, d]) c (match defBody (top 54) with | .Try b _ _ _ _ :: _ => b | _ => []) (asSt (eoU Cn BI BT u c)) := fun W' pn xe tk => by
      rcases hb with ⟨rfl, hb⟩ | ⟨rfl, hb⟩ | ⟨rfl, hb⟩ | ⟨rfl, hb⟩ | ⟨rfl, hb⟩ | ⟨rfl, hb⟩ | ⟨rfl, hb⟩
      · exact rss_ifO (rt_to (rt_cmp op_eq (re_var 0) re_int ov_eqI) rfl) (rss_retO (re_callX1K (es' := [d]) (gD := [a, d]) tk a1 h44 a2 a3 a4 (ra_cons (re_var 1) ra_nil) (rk_cons (re_var 2) rk_nil) rfl rfl (fun h1 h2 => DVs.app h1 h2) hb))
      · refine rss_cons (c1 := c) (rs_if (kb := false) (rt_to (rt_cmp op_eq (re_var 0) re_int ov_eqI) rfl) (fun z => nomatch z) fun _ => rss_nil) ?_
        exact rss_ifO (rt_to (rt_cmp op_eq (re_var 0) re_int ov_eqI) rfl) (rss_retO (re_callX1K (es' := [a]) (gD := [d, a]) tk b1 hr b2 b3 b4 (ra_cons (re_var 2) ra_nil) (rk_cons (re_var 1) rk_nil) rfl rfl (fun h1 h2 => DVs.app h1 h2) hb))
      · refine rss_cons (c1 := c) (rs_if (kb := false) (rt_to (rt_cmp op_eq (re_var 0) re_int ov_eqI) rfl) (fun z => nomatch z) fun _ => rss_nil) ?_
        refine rss_cons (c1 := c) (rs_if (kb := false) (rt_to (rt_cmp op_eq (re_var 0) re_int ov_eqI) rfl) (fun z => nomatch z) fun _ => rss_nil) ?_
        exact rss_ifO (rt_to (rt_cmp op_eq (re_var 0) re_int ov_eqI) rfl) (rss_retO (re_c1 tk T.ta hr (ra_cons (re_var 2) (ra_cons (re_var 1) ra_nil)) hb))
      · refine rss_cons (c1 := c) (rs_if (kb := false) (rt_to (rt_cmp op_eq (re_var 0) re_int ov_eqI) rfl) (fun z => nomatch z) fun _ => rss_nil) ?_
        refine rss_cons (c1 := c) (rs_if (kb := false) (rt_to (rt_cmp op_eq (re_var 0) re_int ov_eqI) rfl) (fun z => nomatch z) fun _ => rss_nil) ?_
        refine rss_cons (c1 := c) (rs_if (kb := false) (rt_to (rt_cmp op_eq (re_var 0) re_int ov_eqI) rfl) (fun z => nomatch z) fun _ => rss_nil) ?_
        exact rss_ifO (rt_to (rt_cmp op_eq (re_var 0) re_int ov_eqI) rfl) (rss_retO (re_c1 tk T.dp h45 (ra_cons (re_var 2) ra_nil) hb))
      · refine rss_cons (c1 := c) (rs_if (kb := false) (rt_to (rt_cmp op_eq (re_var 0) re_int ov_eqI) rfl) (fun z => nomatch z) fun _ => rss_nil) ?_
        refine rss_cons (c1 := c) (rs_if (kb := false) (rt_to (rt_cmp op_eq (re_var 0) re_int ov_eqI) rfl) (fun z => nomatch z) fun _ => rss_nil) ?_
        refine rss_cons (c1 := c) (rs_if (kb := false) (rt_to (rt_cmp op_eq (re_var 0) re_int ov_eqI) rfl) (fun z => nomatch z) fun _ => rss_nil) ?_
        refine rss_cons (c1 := c) (rs_if (kb := false) (rt_to (rt_cmp op_eq (re_var 0) re_int ov_eqI) rfl) (fun z => nomatch z) fun _ => rss_nil) ?_
        exact rss_ifO (rt_to (rt_cmp op_eq (re_var 0) re_int ov_eqI) rfl) (rss_retO (re_callX1K (es' := [d]) (gD := [a, d]) tk e1 h45 e2 e3 e4 (ra_cons (re_var 1) ra_nil) (rk_cons (re_var 2) rk_nil) rfl rfl (fun h1 h2 => DVs.app h1 h2) hb))
      · refine rss_cons (c1 := c) (rs_if (kb := false) (rt_to (rt_cmp op_eq (re_var 0) re_int ov_eqI) rfl) (fun z => nomatch z) fun _ => rss_nil) ?_
        refine rss_cons (c1 := c) (rs_if (kb := false) (rt_to (rt_cmp op_eq (re_var 0) re_int ov_eqI) rfl) (fun z => nomatch z) fun _ => rss_nil) ?_
        refine rss_cons (c1 := c) (rs_if (kb := false) (rt_to (rt_cmp op_eq (re_var 0) re_int ov_eqI) rfl) (fun z => nomatch z) fun _ => rss_nil) ?_
        refine rss_cons (c1 := c) (rs_if (kb := false) (rt_to (rt_cmp op_eq (re_var 0) re_int ov_eqI) rfl) (fun z => nomatch z) fun _ => rss_nil) ?_
        refine rss_cons (c1 := c) (rs_if (kb := false) (rt_to (rt_cmp op_eq (re_var 0) re_int ov_eqI) rfl) (fun z => nomatch z) fun _ => rss_nil) ?_
        refine rss_retO (re_if (k := true) (rt_to (rt_cmp op_eq (re_var 0) re_int ov_eqI) rfl) (fun _ => ?_) fun z => nomatch z)
        rcases hb with ⟨l, rfl, hb⟩ | ⟨E', fs, he, hb⟩
        · exact re_qprop PT Q (hr.mono (by decide)) (re_c1 (o := .val (qD C l) true c) tk T.tq h45 (ra_cons (re_var 1) (ra_cons (re_var 2) ra_nil)) hb) ⟨l, rfl, rfl⟩
        · rw [he]
          exact re_qpropX PT Q (hr.mono (by decide)) (re_c1 (o := .ex E' fs c) tk T.tq h45 (ra_cons (re_var 1) (ra_cons (re_var 2) ra_nil)) hb)
      · refine rss_cons (c1 := c) (rs_if (kb := false) (rt_to (rt_cmp op_eq (re_var 0) re_int ov_eqI) rfl) (fun z => nomatch z) fun _ => rss_nil) ?_
        refine rss_cons (c1 := c) (rs_if (kb := false) (rt_to (rt_cmp op_eq (re_var 0) re_int ov_eqI) rfl) (fun z => nomatch z) fun _ => rss_nil) ?_
        refine rss_cons (c1 := c) (rs_if (kb := false) (rt_to (rt_cmp op_eq (re_var 0) re_int ov_eqI) rfl) (fun z => nomatch z) fun _ => rss_nil) ?_
        refine rss_cons (c1 := c) (rs_if (kb := false) (rt_to (rt_cmp op_eq (re_var 0) re_int ov_eqI) rfl) (fun z => nomatch z) fun _ => rss_nil) ?_
        refine rss_cons (c1 := c) (rs_if (kb := false) (rt_to (rt_cmp op_eq (re_var 0) re_int ov_eqI) rfl) (fun z => nomatch z) fun _ => rss_nil) ?_
        exact rss_retO (re_if (k := false) (rt_to (rt_cmp op_eq (re_var 0) re_int ov_eqI) rfl) (fun z => nomatch z) fun _ => re_c1 tk T.wr h45 (ra_cons (re_var 1) (ra_cons (re_var 2) ra_nil)) hb)
    cases u with
    | ok r b =>
      refine .inl (rss_ret (rs_try rfl rfl scTold.nd takes0 (fun W' pn xe tk _ => ?_) (cl_no (i := 3) ⟨rfl, by decide, .inl EN.mg⟩ rfl rfl (cl_no (i := 3) ⟨rfl, by decide, .inl EI.mg⟩ rfl rfl (cl_no (i := 3) ⟨rfl, by decide, .inl ET.mg⟩ rfl rfl (cl_no0 ⟨rfl, by decide, .inl mL⟩ .nil))))))
      exact rss_wk (body W' pn xe tk) (hw r b rfl)
    | cnt d' =>
      refine .inl (rss_wk (b := true) (rss_ret ?_) fun _ => rfl)
      exact rs_tryX (i := 3) (C := Cn) (fs := [("given", d')]) (c1 := c) rfl rfl scTold.nd takes0 (fun W' pn xe tk _ => body W' pn xe tk) (cl_yes (i := 3) ⟨rfl, by decide, .inl EN.mg⟩ rfl rfl (fun a dx oe pn z fz => rss_ret (rs_ret (re_lst (ra_cons re_str (ra_cons (re_xf (d := d') EN.xf EN.no z fz rfl (re_var 3) rfl) ra_nil)) (by show 2 ≤ 100000; decide)))) (cl_no (i := 3) ⟨rfl, by decide, .inl EI.mg⟩ rfl rfl (cl_no (i := 3) ⟨rfl, by decide, .inl ET.mg⟩ rfl rfl (cl_no0 ⟨rfl, by decide, .inl mL⟩ .nil)))) (.here XF.e00)
    | inp d' =>
      refine .inl (rss_wk (b := true) (rss_ret ?_) fun _ => rfl)
      exact rs_tryX (i := 3) (C := BI) (fs := [("given", d')]) (c1 := c) rfl rfl scTold.nd takes0 (fun W' pn xe tk _ => body W' pn xe tk) (cl_no (i := 3) ⟨rfl, by decide, .inl EN.mg⟩ rfl rfl (cl_yes (i := 3) ⟨rfl, by decide, .inl EI.mg⟩ rfl rfl (fun a dx oe pn z fz => rss_ret (rs_ret (re_lst (ra_cons re_str (ra_cons (re_xf (d := d') EI.xf EI.no z fz rfl (re_var 3) rfl) ra_nil)) (by show 2 ≤ 100000; decide)))) (cl_no (i := 3) ⟨rfl, by decide, .inl ET.mg⟩ rfl rfl (cl_no0 ⟨rfl, by decide, .inl mL⟩ .nil)))) (.there XF.e10 (.here XF.e11))
    | tree d' =>
      refine .inl (rss_wk (b := true) (rss_ret ?_) fun _ => rfl)
      exact rs_tryX (i := 3) (C := BT) (fs := [("given", d')]) (c1 := c) rfl rfl scTold.nd takes0 (fun W' pn xe tk _ => body W' pn xe tk) (cl_no (i := 3) ⟨rfl, by decide, .inl EN.mg⟩ rfl rfl (cl_no (i := 3) ⟨rfl, by decide, .inl EI.mg⟩ rfl rfl (cl_yes (i := 3) ⟨rfl, by decide, .inl ET.mg⟩ rfl rfl (fun a dx oe pn z fz => rss_ret (rs_ret (re_lst (ra_cons re_str (ra_cons (re_xf (d := d') ET.xf ET.no z fz rfl (re_var 3) rfl) ra_nil)) (by show 2 ≤ 100000; decide)))) (cl_no0 ⟨rfl, by decide, .inl mL⟩ .nil)))) (.there XF.e20 (.there XF.e21 (.here XF.e22)))
abbrev ToldD (P : Program) (w : World) (K : PySem.W.Frag) (mg : Str → Option Value) (base : Heap) (C Cn BI BT : Addr) := Def0 P w K mg base 47 "_law_told" ["_law_which", "_law_one", "_law_other"] (tdR C Cn BI BT)
end
end K35

namespace K35
open PySem PySem.Spec PyProof.Rows L2 LA
open K36 (ev dep kn nw)
/-! ### the law's strings and tables -/
section
variable {P : Program} {w : World} {K : PySem.W.Frag} {mg : Str → Option Value} {base : Heap}
abbrev nStrs : List Str := ["_law_many", "_law_signs", "_law_found", "_law_k", "_law_longer", "_law_word", "_law_sign"]
theorem scStrs : FnScope nStrs ["_law_many", "_law_signs"] (defScope (top 46)) := ⟨rfl, rfl, rfl, by decide +kernel, rfl, by decide +kernel, by decide +kernel⟩
theorem ok_strs {f : Addr} {fd : FuncData} (G : Glb mg) (F : Fun K "_law_strings" "_law_strings" (top 46) f fd) : FnOk P w K mg base CX0 1 f fd ["_law_many", "_law_signs"] (spF K strsR) := by
  refine fn_val F scStrs (fun ds c o h => ?_) (fun ds c o h => ?_) (fun cdv A outer s H E hr p ds c o h => ?_)
  · obtain ⟨a, n, rfl, _⟩ := h
    rfl
  · obtain ⟨a, n, _, _, _, _, rfl⟩ := h
    exact ⟨_, _, _, rfl⟩
  · obtain ⟨a, n, rfl, h6, h3, hne, rfl⟩ := h
    refine .inl ?_
    refine rss_cons (c1 := c) (ρ1 := [some (.int (n : Nat)), some (.str (tx a)), some (.lst ⟨false, true⟩ (wD (strsV a 0))), none, none, none, none]) (rs_set (nw := true) 2 scStrs.nd (re_dull (g := ⟨true, true⟩) (re_lst (ra_cons re_str ra_nil) (by show 1 ≤ 100000; decide)))) ?_
    have hn : (intsD ((n : Nat) : Int).toNat).length = n := by rw [intsD_len, Int.toNat_natCast]
    refine rss_cons (c1 := c) (ρ1 := [some (.int (n : Nat)), some (.str (tx a)), some (.lst ⟨false, true⟩ (wD (strsV a n))), none, none, none, none]) ?_ (rss_ret (rs_ret (re_var 2)))
    have main := rs_for_all (X := (cxOf CX0 P w K mg base nStrs "_law_strings" (defScope (top 46)) f cdv A outer s H E).nox) (W := Wf) (p := p) (c := c) (ρ := [some (.int (n : Nat)), some (.str (tx a)), some (.lst ⟨false, true⟩ (wD (strsV a 0))), none, none, none, none]) (xs := intsD ((n : Nat) : Int).toNat) (vs := [3]) (g := gName 3)
      (tg := match (defBody (top 46)) with | [_, .For t _ _ _ _, _] => t | _ => .Constant .none 0 ⟨0, 0, 0, 0⟩) (it := match (defBody (top 46)) with | [_, .For _ t _ _ _, _] => t | _ => .Constant .none 0 ⟨0, 0, 0, 0⟩) (body := match (defBody (top 46)) with | [_, .For _ _ b _ _, _] => b | _ => []) (pos := match (defBody (top 46)) with | [_, .For _ _ _ _ q, _] => q | _ => ⟨0, 0, 0, 0⟩)
      (fun j => [some (.int (n : Nat)), some (.str (tx a)), some (.lst ⟨false, true⟩ (wD (strsV a j))), none, none, none, none]) (fun j => [some (.int (n : Nat)), some (.str (tx a)), some (.lst ⟨false, true⟩ (wD (strsV a j))), some (.int (j : Nat)), none, none, none]) (fun _ => c) PassesOwn.never rfl rfl
      (ri_range G.range (re_var 0) (by omega) (by omega)) (pg_name (i := 3) scStrs.nd rfl (Or.inl rfl)) (fun i d h => by
        obtain ⟨rfl, _⟩ := intsD_at h
        exact tg_name (by decide)) (fun j d h => ?_)
    · rw [hn] at main
      exact main
    · obtain ⟨_, hj⟩ := intsD_at h
      rw [Int.toNat_natCast] at hj
      have wl := strs_all a j
      have wz := strs_len h3 (show j ≤ 6 by omega)
      rw [strs_next]
      generalize strsV a j = ws at *
      refine rss_less (ρ1 := [some (.int (n : Nat)), some (.str (tx a)), some (.lst ⟨false, true⟩ (wD (step ws a))), some (.int (j : Nat)), some (.lst ⟨false, true⟩ (wD (step ws a))), none, none]) ?_ (by repeat (first | exact Less.nil | apply Less.same | apply Less.skip))
      refine rss_cons (c1 := c) (ρ1 := [some (.int (n : Nat)), some (.str (tx a)), some (.lst ⟨false, true⟩ (wD ws)), some (.int (j : Nat)), some (.lst ⟨false, true⟩ (wD (step (ws.take 0) a))), none, none]) (rs_set (nw := true) 4 scStrs.nd (re_dull (g := ⟨true, true⟩) (re_lst ra_nil (by show 0 ≤ 100000; decide)))) ?_
      refine rss_cons (c1 := c) (ρ1 := [some (.int (n : Nat)), some (.str (tx a)), some (.lst ⟨false, true⟩ (wD ws)), some (.int (j : Nat)), some (.lst ⟨false, true⟩ (wD (step ws a))), none, none]) ?_ (rss_cons (rs_set 2 scStrs.nd (re_var 4)) rss_nil)
      have inner := rs_for_all (X := (cxOf CX0 P w K mg base nStrs "_law_strings" (defScope (top 46)) f cdv A outer s H E).nox) (W := Wf) (p := p) (c := c) (ρ := [some (.int (n : Nat)), some (.str (tx a)), some (.lst ⟨false, true⟩ (wD ws)), some (.int (j : Nat)), some (.lst ⟨false, true⟩ (wD (step (ws.take 0) a))), none, none]) (xs := wD ws) (vs := [5]) (g := gName 5)
        (tg := match (defBody (top 46)) with | [_, .For _ _ [_, .For t _ _ _ _, _] _ _, _] => t | _ => .Constant .none 0 ⟨0, 0, 0, 0⟩) (it := match (defBody (top 46)) with | [_, .For _ _ [_, .For _ t _ _ _, _] _ _, _] => t | _ => .Constant .none 0 ⟨0, 0, 0, 0⟩) (body := match (defBody (top 46)) with | [_, .For _ _ [_, .For _ _ b _ _, _] _ _, _] => b | _ => []) (pos := match (defBody (top 46)) with | [_, .For _ _ [_, .For _ _ _ _ q, _] _ _, _] => q | _ => ⟨0, 0, 0, 0⟩)
        (fun i => [some (.int (n : Nat)), some (.str (tx a)), some (.lst ⟨false, true⟩ (wD ws)), some (.int (j : Nat)), some (.lst ⟨false, true⟩ (wD (step (ws.take i) a))), none, none]) (fun i => [some (.int (n : Nat)), some (.str (tx a)), some (.lst ⟨false, true⟩ (wD ws)), some (.int (j : Nat)), some (.lst ⟨false, true⟩ (wD (step (ws.take i) a))), some (.str (tx (ws.getD i []))), none]) (fun _ => c) PassesOwn.never rfl rfl
        (ri_lst (re_var 2)) (pg_name (i := 5) scStrs.nd rfl (Or.inr rfl)) (fun i d h => by
          obtain ⟨rfl, _⟩ := wD_at h
          exact tg_name (by decide)) (fun i d h => ?_)
      · rw [wD_len, List.take_length] at inner
        exact inner
      · obtain ⟨_, hi, hm⟩ := wD_at h
        have e : wD (step (ws.take (i + 1)) a) = wD (step (ws.take i) a) ++ wD (a.map fun x => ws.getD i [] ++ [x]) := by
          rw [List.take_add_one, show ws[i]?.toList = [ws.getD i []] by rw [List.getD_eq_getElem?_getD, List.getElem?_eq_getElem hi]; rfl]
          unfold step wD
          rw [List.flatMap_append, List.map_append, List.flatMap_cons, List.flatMap_nil, List.append_nil]
        have key : (List.range (chars (tx a)).length).map (fun m => D.str (tx (ws.getD i []) ++ chr1 (a.getD m 0))) = wD (a.map fun x => ws.getD i [] ++ [x]) := by
          rw [signs_len, range_get a fun x => D.str (tx (ws.getD i []) ++ chr1 x)]
          unfold wD
          rw [List.map_map]
          refine List.map_congr_left fun x _ => ?_
          show D.str (tx _ ++ tx [x]) = D.str (tx (_ ++ [x]))
          rw [tx_app]
        refine rss_less (ρ1 := [some (.int (n : Nat)), some (.str (tx a)), some (.lst ⟨false, true⟩ (wD ws)), some (.int (j : Nat)), some (.lst ⟨false, true⟩ (wD (step (ws.take (i + 1)) a))), some (.str (tx (ws.getD i []))), none]) (rss_cons (rs_set (nw := true) 4 scStrs.nd ?_) rss_nil) (by repeat (first | exact Less.nil | apply Less.same | apply Less.skip))
        rw [e, ← key]
        refine re_bin (n2 := true) op_cat (re_var 4) (re_lcA (own := [("_law_sign", 6)]) (g := gName 6) _ (fun _ => c) (fun m => [some (.int (n : Nat)), some (.str (tx a)), some (.lst ⟨false, true⟩ (wD ws)), some (.int (j : Nat)), some (.lst ⟨false, true⟩ (wD (step (ws.take i) a))), some (.str (tx (ws.getD i []))), some (.str (chr1 (a.getD m 0)))]) (fun _ => true) rfl scStrs.nd (ri_str (re_var 1)) (blkOk_by (N := nStrs) (sc := defScope (top 46)) (by decide +kernel)) (fun _ _ _ _ _ => pg_name (i := 6) scStrs.nd rfl (Or.inl rfl)) (fun m d h => ?_) (fun m d h q s H C cl fp => ?_) (by rw [signs_len]; omega)) (ov_cat rfl rfl ?_)
        · obtain ⟨rfl, _⟩ := signs_at h
          exact tg_name (by decide)
        · exact re_bin op_add_str (re_var 5) (re_var 6) (ov_addS (sz_le (by rw [tx_len, wl _ hm]; show _ + 1 ≤ _; omega)))
        · rw [wD_len, step_len, List.length_take, List.length_map, List.length_range, signs_len]
          have : min i ws.length * a.length ≤ 729 * 3 := Nat.mul_le_mul (by omega) h3
          omega
abbrev StrsD (P : Program) (w : World) (K : PySem.W.Frag) (mg : Str → Option Value) (base : Heap) := Def0 P w K mg base 1 "_law_strings" ["_law_many", "_law_signs"] strsR
abbrev nTab : List Str := ["_law_pool_here", "_law_many", "_law_way", "_law_texts", "_law_rows", "_law_k", "_law_word", "_law_spots", "_law_other", "_law_bits", "_law_bit", "_law_share", "_law_row"]
theorem scTabl : FnScope nTab ["_law_pool_here", "_law_many"] (defScope (top 47)) := ⟨rfl, rfl, rfl, by decide +kernel, rfl, by decide +kernel, by decide +kernel⟩
def frT (n : Nat) (a b rows k t sp ot bs bt sh rw : Option D) : Rho := [some (.mut 0), some (.int (n : Nat)), a, b, rows, k, t, sp, ot, bs, bt, sh, rw]
theorem ok_tabl {f : Addr} {fd : FuncData} (G : Glb mg) (T : DrawD P w K mg base) (TS : StrsD P w K mg base) (F : Fun K "_law_table" "_law_table" (top 47) f fd) : FnOk P w K mg base CX0 2 f fd ["_law_pool_here", "_law_many"] (spF K tabFR) := by
  refine fn_val F scTabl (fun ds c o h => ?_) (fun ds c o h => ?_) (fun cdv A outer s H E hr p ds c o h => ?_)
  · obtain ⟨x, n, _, rfl, _⟩ := h
    rfl
  · obtain ⟨x, n, _, _, _, rfl⟩ := h
    exact ⟨_, _, _, rfl⟩
  · obtain ⟨x, n, rfl, rfl, hn, rfl⟩ := h
    have h6 := drawV_in (c := x) (show (0 : Int) < 6 by decide)
    have ew : drawV x 6 = ((wayI x : Nat) : Int) := (Int.toNat_of_nonneg h6.1).symm
    have lw : wayI x < 6 := by omega
    have tl := insT_len n
    have tz : (insT n).length ≤ 64 := by
      rw [tl]
      calc 2 ^ n ≤ 2 ^ 6 := Nat.pow_le_pow_right (by decide) hn
        _ = 64 := by decide
    have ta : ∀ t ∈ insT n, t.length = n := strs_all bins n
    refine .inl (rss_cons (c1 := [(drawC x 6).c]) (ρ1 := frT n (some (.int (drawV x 6))) none none none none none none none none none none) (rs_set (nw := false) 2 scTabl.nd (re_draw 0 (x := x) (k := 0) T (hr.mono (by decide)) rfl (by decide) (by decide))) ?_)
    rw [ew]
    refine rss_cons (c1 := [(drawC x 6).c]) (ρ1 := frT n (some (.int (wayI x : Nat))) (some (.lst ⟨false, true⟩ (wD (insT n)))) none none none none none none none none none) (rs_set (nw := false) 3 scTabl.nd (re_c0 TS (hr.mono (by decide)) (ra_cons (re_var 1) (ra_cons re_str ra_nil)) ⟨bins, n, rfl, hn, by decide, by decide, rfl⟩)) ?_
    by_cases w4 : wayI x = 4
    · have eL : tabL x n = rowC (drawC x 6) n := by unfold tabL; rw [if_pos w4]
      have eP : tabP x n = itC (drawC x 6) 2 (n + 1) := by unfold tabP; rw [if_pos w4]
      rw [eL, eP]
      generalize drawC x 6 = y
      have hz : (intsD ((n : Nat) + 1 : Int).toNat).length = n + 1 := by rw [intsD_len]; omega
      refine rss_ret (rs_if (kb := true) (rt_cmp op_eq (re_var 2) re_int (ov_eqIt (by rw [w4]; rfl))) (fun _ => ?_) fun z => nomatch z)
      refine rss_cons (c1 := [(itC y 2 (n + 1)).c]) (ρ1 := frT n (some (.int (wayI x : Nat))) (some (.lst ⟨false, true⟩ (wD (insT n)))) (some (.lst ⟨false, true⟩ (coll (fun _ => true) (fun i => .int (drawV (itC y 2 i) 2)) (n + 1)))) none none none none none none none none) ?_ ?_
      · refine rs_to2 (rs_set (nw := true) 4 scTabl.nd (re_lc (own := [("_law_k", 5)]) (g := gName 5) (fun _ => true) (fun i => D.int (drawV (itC y 2 i) 2)) (fun i => [(itC y 2 i).c]) (fun i => [(itC y 2 i).c]) (fun i => frT n (some (.int (wayI x : Nat))) (some (.lst ⟨false, true⟩ (wD (insT n)))) none (some (.int (i : Nat))) none none none none none none none) (fun _ => false) rfl scTabl.nd (ri_range G.range (re_bin op_add (re_var 1) re_int ov_ii) (by omega) (by omega)) (blkOk_by (N := nTab) (sc := defScope (top 47)) (by decide +kernel)) (fun _ _ _ _ _ => pg_name (i := 5) scTabl.nd rfl (Or.inl rfl)) (fun i d h => ?_) (fun i d h q s H C cl fp => pts_all) (fun i d h _ q s H C cl fp => ?_) (fun _ _ _ z => nomatch z) (by rw [hz]; omega)) rfl (Or.inr rfl)) (by rw [hz]; rfl) (by rw [hz])
        · obtain ⟨rfl, _⟩ := intsD_at h
          exact tg_name (by decide)
        · exact re_draw 0 (x := itC y 2 i) (k := 0) T (hr.mono (by decide)) rfl (by decide) (by decide)
      · refine rss_ret (rs_ret (re_joinC (l := rowC y n) (n1 := true) (n2 := true) (g := ⟨false, true⟩) (c1 := [(itC y 2 (n + 1)).c]) re_str ?_ (by unfold rowC; rw [List.length_map]; omega)))
        unfold rowC
        rw [← wD_map]
        refine re_lcA (own := [("_law_word", 6)]) (g := gName 6) _ (fun _ => [(itC y 2 (n + 1)).c]) (fun j => frT n (some (.int (wayI x : Nat))) (some (.lst ⟨false, true⟩ (wD (insT n)))) (some (.lst ⟨false, true⟩ (coll (fun _ => true) (fun i => .int (drawV (itC y 2 i) 2)) (n + 1)))) none (some (.str (tx ((insT n).getD j [])))) none none none none none none) (fun _ => true) rfl scTabl.nd (ri_lst (re_var 3)) (blkOk_by (N := nTab) (sc := defScope (top 47)) (by decide +kernel)) (fun _ _ _ _ _ => pg_name (i := 6) scTabl.nd rfl (Or.inl rfl)) (fun i d h => ?_) (fun i d h q s H C cl fp => ?_) (by rw [wD_len]; omega)
        · obtain ⟨rfl, _⟩ := wD_at h
          exact tg_name (by decide)
        · obtain ⟨_, hi, hm⟩ := wD_at h
          have hl := ta _ hm
          have hc : ((insT n).getD i []).count 49 ≤ n := by
            have := List.count_le_length (a := 49) (l := (insT n).getD i [])
            omega
          have hd := drawV_in (c := itC y 2 (((insT n).getD i []).count 49)) (show (0 : Int) < 2 by decide)
          refine re_strB G.str (re_ix ix_seq (re_var 4) (re_count (n := 49) (re_var 6) (re_to re_str (by rfl))) (ov_ixL (j := ((insT n).getD i []).count 49) (count_nat _ _) ?_)) (by omega)
          rw [coll_all, List.getElem?_map, List.getElem?_range (by omega)]
          rfl
    · refine rss_cons (c1 := [(drawC x 6).c]) (rs_if (kb := false) (rt_cmp op_eq (re_var 2) re_int (ov_eqIf (by omega))) (fun z => nomatch z) fun _ => rss_nil) ?_
      by_cases w5 : wayI x = 5 ∧ 0 < n
      · have eL : tabL x n = mixC (drawC x 6) n := by unfold tabL; rw [if_neg w4, if_pos w5]
        have eP : tabP x n = drawC (itC (drawC x 6) (n : Nat) 3) 2 := by unfold tabP; rw [if_neg w4, if_pos w5]
        rw [eL, eP, mix_eq]
        generalize drawC x 6 = y
        have n0 : (0 : Int) < (n : Nat) := by omega
        have hs := fun i => drawV_in (c := itC y (n : Nat) i) n0
        have es : ∀ i, drawV (itC y (n : Nat) i) (n : Nat) = ((spotC y n i : Nat) : Int) := fun i => (Int.toNat_of_nonneg (hs i).1).symm
        have ls : ∀ i, spotC y n i < n := fun i => by
          have := (hs i).2
          rw [es] at this
          omega
        refine rss_ret (rs_if (kb := true) (RW.rt (rw_and (k1 := true) (k2 := true) (rt_cmp op_eq (re_var 2) re_int (ov_eqIt (by rw [w5.1]; rfl))) fun _ => rw_and1 (rt_cmp (nw := true) op_gt (re_var 1) re_int ?_))) (fun _ => ?_) fun z => nomatch z)
        · have q := ov_ib (K := K) (p := p) (c := [y.c]) (f := fun i j => decide (j < i)) (i := (n : Nat)) (j := 0)
          rw [decide_eq_true n0] at q
          exact q
        · have h3 : (intsD (3 : Int).toNat).length = 3 := rfl
          refine rss_cons (c1 := [(itC y (n : Nat) 3).c]) (ρ1 := frT n (some (.int (wayI x : Nat))) (some (.lst ⟨false, true⟩ (wD (insT n)))) none none none (some (.lst ⟨false, true⟩ (coll (fun _ => true) (fun i => .int (drawV (itC y (n : Nat) i) (n : Nat))) 3))) none none none none none) ?_ ?_
          · exact rs_set (nw := true) 7 scTabl.nd (re_lc (own := [("_law_k", 5)]) (g := gName 5) (fun _ => true) (fun i => D.int (drawV (itC y (n : Nat) i) (n : Nat))) (fun i => [(itC y (n : Nat) i).c]) (fun i => [(itC y (n : Nat) i).c]) (fun i => frT n (some (.int (wayI x : Nat))) (some (.lst ⟨false, true⟩ (wD (insT n)))) none (some (.int (i : Nat))) none none none none none none none) (fun _ => false) rfl scTabl.nd (ri_range G.range re_int (by decide) (by decide)) (blkOk_by (N := nTab) (sc := defScope (top 47)) (by decide +kernel)) (fun _ _ _ _ _ => pg_name (i := 5) scTabl.nd rfl (Or.inl rfl)) (fun i d h => by
              obtain ⟨rfl, _⟩ := intsD_at h
              exact tg_name (by decide)) (fun i d h q s H C cl fp => pts_all) (fun i d h _ q s H C cl fp => re_drawE 0 (x := itC y (n : Nat) i) (k := 0) T (hr.mono (by decide)) rfl (re_var 1) n0 (by omega)) (fun _ _ _ z => nomatch z) (by decide)) rfl (Or.inr rfl)
          · refine rss_cons (c1 := [(drawC (itC y (n : Nat) 3) 2).c]) (ρ1 := frT n (some (.int (wayI x : Nat))) (some (.lst ⟨false, true⟩ (wD (insT n)))) none none none (some (.lst ⟨false, true⟩ (coll (fun _ => true) (fun i => .int (drawV (itC y (n : Nat) i) (n : Nat))) 3))) (some (.int (drawV (itC y (n : Nat) 3) 2))) none none none none) (rs_set (nw := false) 8 scTabl.nd (re_draw 0 (x := itC y (n : Nat) 3) (k := 0) T (hr.mono (by decide)) rfl (by decide) (by decide)) rfl (Or.inr rfl)) ?_
            have spot : ∀ i, i < 3 → (coll (fun _ => true) (fun i => D.int (drawV (itC y (n : Nat) i) (n : Nat))) 3)[i]? = some (.int (drawV (itC y (n : Nat) i) (n : Nat))) := fun i hi => by
              rw [coll_all, List.getElem?_map, List.getElem?_range hi]
              rfl
            refine rss_cons (c1 := [(drawC (itC y (n : Nat) 3) 2).c]) (ρ1 := frT n (some (.int (wayI x : Nat))) (some (.lst ⟨false, true⟩ (wD (insT n)))) none none none (some (.lst ⟨false, true⟩ (coll (fun _ => true) (fun i => .int (drawV (itC y (n : Nat) i) (n : Nat))) 3))) (some (.int (drawV (itC y (n : Nat) 3) 2))) (some (.lst ⟨false, true⟩ ((insT n).map fun t => D.str (chr1 (btC y n t))))) none none none) ?_ ?_
            · refine rs_to2 (rs_lc (own := [("_law_word", 6)]) (g := gName 6) 9 (fun _ => true) (fun j => D.str (chr1 (btC y n ((insT n).getD j [])))) (fun _ => [(drawC (itC y (n : Nat) 3) 2).c]) (fun _ => [(drawC (itC y (n : Nat) 3) 2).c]) (fun j => frT n (some (.int (wayI x : Nat))) (some (.lst ⟨false, true⟩ (wD (insT n)))) none none (some (.str (tx ((insT n).getD j [])))) (some (.lst ⟨false, true⟩ (coll (fun _ => true) (fun i => .int (drawV (itC y (n : Nat) i) (n : Nat))) 3))) (some (.int (drawV (itC y (n : Nat) 3) 2))) none none none none) (fun _ => false) rfl scTabl.nd (ri_lst (re_var 3)) (blkOk_by (N := nTab) (sc := defScope (top 47)) (by decide +kernel)) (fun _ _ _ _ _ => pg_name (i := 6) scTabl.nd rfl (Or.inl rfl)) (fun i d h => ?_) (fun i d h q s H C cl fp => pts_all) (fun i d h _ q s H C cl fp => ?_) (fun _ _ _ z => nomatch z) (by rw [wD_len]; omega)) ?_ rfl
              · obtain ⟨rfl, _⟩ := wD_at h
                exact tg_name (by decide)
              · obtain ⟨_, hi, hm⟩ := wD_at h
                have hl := ta _ hm
                have z : (tx ((insT n).getD i [])).length ≤ sizeLine := sz_le (by rw [tx_len]; omega)
                have qq := ov_eqS (K := K) (p := q) (c := [(drawC (itC y (n : Nat) 3) 2).c]) (x := .str (chr1 (((insT n).getD i []).getD (spotC y n 0) 0))) (y := .str (Str.ofString "1")) (v := .str (chr1 (((insT n).getD i []).getD (spotC y n 0) 0))) (u := .str (Str.ofString "1")) rfl rfl rfl
                rw [show decide (V.str (chr1 (((insT n).getD i []).getD (spotC y n 0) 0)) = V.str (Str.ofString "1")) = decide (((insT n).getD i []).getD (spotC y n 0) 0 = 49) by simp [chr_one]] at qq
                refine re_if (k := decide (((insT n).getD i []).getD (spotC y n 0) 0 = 49)) (rt_cmp op_eq (re_ix ix_seq (re_var 6) (re_ix ix_seq (re_var 7) re_int (ov_ixL (j := 0) rfl (spot 0 (by decide)))) (ov_ixS z (es 0) (at_tx (by rw [hl]; exact ls 0)))) re_str qq) (fun hk => ?_) (fun hk => ?_)
                · have hk := of_decide_eq_true hk
                  refine re_to (re_old (re_ix ix_seq (re_var 6) (re_ix ix_seq (re_var 7) re_int (ov_ixL (j := 1) rfl (spot 1 (by decide)))) (ov_ixS z (es 1) (at_tx (by rw [hl]; exact ls 1))))) ?_
                  unfold btC
                  rw [if_pos hk]
                  rfl
                · have hk := of_decide_eq_false hk
                  refine re_to (re_old (re_ix ix_seq (re_var 6) (re_ix ix_seq (re_var 7) re_int (ov_ixL (j := 2) rfl (spot 2 (by decide)))) (ov_ixS z (es 2) (at_tx (by rw [hl]; exact ls 2))))) ?_
                  unfold btC
                  rw [if_neg hk]
                  rfl
              · have e : coll (fun _ => true) (fun j => D.str (chr1 (btC y n ((insT n).getD j [])))) (wD (insT n)).length = (insT n).map fun t => D.str (chr1 (btC y n t)) := by
                  rw [coll_all, wD_map (insT n) (btC y n), List.map_map]
                  rfl
                rw [e]
                rfl
            · have hb : ∀ t ∈ insT n, btC y n t = 48 ∨ btC y n t = 49 := fun t ht => by
                have hl := ta t ht
                have g : ∀ i, t.getD (spotC y n i) 0 = 48 ∨ t.getD (spotC y n i) 0 = 49 := fun i => by
                  have lt : spotC y n i < t.length := by rw [hl]; exact ls i
                  refine bins_B (insT_mem ht _ ?_)
                  rw [List.getD_eq_getElem?_getD, List.getElem?_eq_getElem lt]
                  exact List.getElem_mem _
                unfold btC
                split
                · exact g 1
                · exact g 2
              have lz : ((insT n).map fun t => D.str (chr1 (btC y n t))).length = (insT n).length := List.length_map ..
              refine rss_ret (rs_ret (re_joinC (l := (insT n).map fun t => 48 + ((((btC y n t : Nat) : Int) - 48 + drawV (itC y (n : Nat) 3) 2) % 2).toNat) (n1 := true) (n2 := true) (g := ⟨false, true⟩) (c1 := [(drawC (itC y (n : Nat) 3) 2).c]) re_str ?_ (by rw [List.length_map]; omega)))
              rw [← wD_map, wD_len, ← lz]
              refine re_lcA (own := [("_law_bit", 10)]) (g := gName 10) _ (fun _ => [(drawC (itC y (n : Nat) 3) 2).c]) (fun j => frT n (some (.int (wayI x : Nat))) (some (.lst ⟨false, true⟩ (wD (insT n)))) none none none (some (.lst ⟨false, true⟩ (coll (fun _ => true) (fun i => .int (drawV (itC y (n : Nat) i) (n : Nat))) 3))) (some (.int (drawV (itC y (n : Nat) 3) 2))) (some (.lst ⟨false, true⟩ ((insT n).map fun t => D.str (chr1 (btC y n t))))) (some (.str (chr1 (btC y n ((insT n).getD j []))))) none none) (fun _ => true) rfl scTabl.nd (ri_lst (re_var 9)) (blkOk_by (N := nTab) (sc := defScope (top 47)) (by decide +kernel)) (fun _ _ _ _ _ => pg_name (i := 10) scTabl.nd rfl (Or.inl rfl)) (fun i d h => ?_) (fun i d h q s H C cl fp => ?_) (by rw [lz]; omega)
              · rw [List.getElem?_map] at h
                by_cases hi : i < (insT n).length
                · rw [List.getElem?_eq_getElem hi] at h
                  have e : d = .str (chr1 (btC y n ((insT n).getD i []))) := by
                    rw [List.getD_eq_getElem?_getD, List.getElem?_eq_getElem hi]
                    exact (Option.some.inj h).symm
                  rw [e]
                  exact tg_name (by decide)
                · rw [List.getElem?_eq_none (by omega)] at h
                  cases h
              · have hi : i < (insT n).length := by
                  have := (List.getElem?_eq_some_iff.mp h).1
                  rw [lz] at this
                  exact this
                have hm : (insT n).getD i [] ∈ insT n := by
                  rw [List.getD_eq_getElem?_getD, List.getElem?_eq_getElem hi]
                  exact List.getElem_mem _
                exact re_strB G.str (re_bin op_mod (re_bin op_add (re_intB G.int (re_var 10) (hb _ hm)) (re_var 8) ov_ii) re_int (ov_cii (by show (0 : Int) < 2; decide))) (by show _ % 2 = 0 ∨ _ % 2 = 1; omega)
      · have eL : tabL x n = rareC (wayI x) (drawC x 6) n := by unfold tabL; rw [if_neg w4, if_neg w5]
        have eP : tabP x n = itC (drawC x 6) (shareI (wayI x)) (insT n).length := by unfold tabP; rw [if_neg w4, if_neg w5]
        rw [eL, eP]
        generalize drawC x 6 = y
        generalize wayI x = v at *
        have sh := share_in v
        refine rss_cons (c1 := [y.c]) (rs_if (kb := false) (rt_to (RW.rt (rw_and (k1 := decide ((v : Int) = 5)) (k2 := decide ((0 : Int) < (n : Nat))) (rt_cmp op_eq (re_var 2) re_int ov_eqI) fun _ => rw_and1 (rt_cmp (nw := true) op_gt (re_var 1) re_int (ov_ib (f := fun i j => decide (j < i)))))) ?_) (fun z => nomatch z) fun _ => rss_nil) ?_
        · rw [Bool.eq_false_iff]
          intro z
          rw [Bool.and_eq_true_iff, decide_eq_true_eq, decide_eq_true_eq] at z
          exact w5 ⟨by omega, by omega⟩
        · refine rss_cons (c1 := [y.c]) (ρ1 := frT n (some (.int (v : Nat))) (some (.lst ⟨false, true⟩ (wD (insT n)))) none none none none none none none (some (.int (shareI v))) none) (rs_set (nw := false) 11 scTabl.nd (re_ix ix_seq (re_lst (ra_cons re_int (ra_cons re_int (ra_cons re_int (ra_cons re_int (ra_cons re_int (ra_cons re_int ra_nil)))))) (by show 6 ≤ 100000; decide)) (re_var 2) (ov_ixL (j := v) rfl (share_at lw)))) ?_
          refine rss_cons (c1 := [(itC y (shareI v) (insT n).length).c]) (ρ1 := frT n (some (.int (v : Nat))) (some (.lst ⟨false, true⟩ (wD (insT n)))) (some (.lst ⟨false, true⟩ (coll (fun _ => true) (fun i => .int (if decide (drawV (itC y (shareI v) i) (shareI v) = 0) then 1 else 0)) (insT n).length))) none none none none none none (some (.int (shareI v))) none) ?_ ?_
          · refine rs_to2 (rs_set (nw := true) 4 scTabl.nd (re_lc (own := [("_law_word", 6)]) (g := gName 6) (fun _ => true) (fun i => D.int (if decide (drawV (itC y (shareI v) i) (shareI v) = 0) then 1 else 0)) (fun i => [(itC y (shareI v) i).c]) (fun i => [(itC y (shareI v) i).c]) (fun i => frT n (some (.int (v : Nat))) (some (.lst ⟨false, true⟩ (wD (insT n)))) none none (some (.str (tx ((insT n).getD i [])))) none none none none (some (.int (shareI v))) none) (fun _ => true) rfl scTabl.nd (ri_lst (re_var 3)) (blkOk_by (N := nTab) (sc := defScope (top 47)) (by decide +kernel)) (fun _ _ _ _ _ => pg_name (i := 6) scTabl.nd rfl (Or.inl rfl)) (fun i d h => by
              obtain ⟨rfl, _⟩ := wD_at h
              exact tg_name (by decide)) (fun i d h q s H C cl fp => pts_all) (fun i d h _ q s H C cl fp => re_callT call_int1 G.int PyProof.Rows.boot_int (ra_cons (re_cmp op_eq (re_drawE 0 (x := itC y (shareI v) i) (k := 0) T (hr.mono (by decide)) rfl (re_var 11) sh.1 sh.2) re_int ov_eqI) ra_nil) cv_intK) (fun _ _ _ z => nomatch z) (by rw [wD_len]; omega)) rfl (by first | exact Or.inl rfl | exact Or.inr rfl)) (by rw [wD_len]; rfl) (by rw [wD_len])
          · have lc : (coll (fun _ => true) (fun i => D.int (if decide (drawV (itC y (shareI v) i) (shareI v) = 0) then 1 else 0)) (insT n).length).length = (insT n).length := by rw [coll_all, List.length_map, List.length_range]
            have key : (rareC v y n).map (fun m => D.str (chr1 m)) = (List.range (coll (fun _ => true) (fun i => D.int (if decide (drawV (itC y (shareI v) i) (shareI v) = 0) then 1 else 0)) (insT n).length).length).map fun j => D.str (chr1 (48 + (if v = 2 then 1 - (if decide (drawV (itC y (shareI v) j) (shareI v) = 0) then 1 else 0 : Int) else if decide (drawV (itC y (shareI v) j) (shareI v) = 0) then 1 else 0).toNat)) := by
              rw [lc]
              unfold rareC
              rw [List.map_map]
              refine List.map_congr_left fun j _ => ?_
              show D.str (chr1 _) = D.str (chr1 _)
              congr 2
              by_cases v2 : v = 2
              · by_cases hd : drawV (itC y (shareI v) j) (shareI v) = 0
                · subst v2
                  simp [hd]
                · subst v2
                  simp [hd]
              · by_cases hd : drawV (itC y (shareI v) j) (shareI v) = 0
                · simp [v2, hd]
                · simp [v2, hd]
            refine rss_ret (rs_ret (re_joinC (l := rareC v y n) (n1 := true) (n2 := true) (g := ⟨false, true⟩) (c1 := [(itC y (shareI v) (insT n).length).c]) re_str ?_ (by unfold rareC; rw [List.length_map, List.length_range]; omega)))
            rw [key]
            refine re_lcA (own := [("_law_row", 12)]) (g := gName 12) _ (fun _ => [(itC y (shareI v) (insT n).length).c]) (fun j => frT n (some (.int (v : Nat))) (some (.lst ⟨false, true⟩ (wD (insT n)))) (some (.lst ⟨false, true⟩ (coll (fun _ => true) (fun i => .int (if decide (drawV (itC y (shareI v) i) (shareI v) = 0) then 1 else 0)) (insT n).length))) none none none none none none (some (.int (shareI v))) (some (.int (if decide (drawV (itC y (shareI v) j) (shareI v) = 0) then 1 else 0)))) (fun _ => true) rfl scTabl.nd (ri_lst (re_var 4)) (blkOk_by (N := nTab) (sc := defScope (top 47)) (by decide +kernel)) (fun _ _ _ _ _ => pg_name (i := 12) scTabl.nd rfl (Or.inl rfl)) (fun i d h => ?_) (fun i d h q s H C cl fp => ?_) (by rw [lc]; omega)
            · rw [coll_all, List.getElem?_map] at h
              by_cases hi : i < (insT n).length
              · rw [List.getElem?_range hi] at h
                rw [← Option.some.inj h]
                exact tg_name (by decide)
              · rw [List.getElem?_eq_none (by rw [List.length_range]; omega)] at h
                cases h
            · refine re_strB (nw := false) G.str (re_if (k := decide ((v : Int) = 2)) (rt_cmp op_eq (re_var 2) re_int ov_eqI) (fun hk => ?_) (fun hk => ?_)) (by
                split <;> split <;> omega)
              · have : v = 2 := by
                  have := of_decide_eq_true hk
                  omega
                rw [if_pos this]
                exact re_old (re_bin op_sub re_int (re_var 12) ov_ii)
              · have : ¬ v = 2 := fun z => of_decide_eq_false hk (by rw [z]; rfl)
                rw [if_neg this]
                exact re_var 12
abbrev TablD (P : Program) (w : World) (K : PySem.W.Frag) (mg : Str → Option Value) (base : Heap) := Def0 P w K mg base 2 "_law_table" ["_law_pool_here", "_law_many"] tabFR
end
end K35

namespace K35
open PySem PySem.Spec PyProof.Rows L2 LA
open K36 (ev dep kn nw)
/-! ### what is due -/
theorem ev_in {n : Int} (w : List Nat) : ∀ t : Tr, okT n t = true → 0 ≤ ev w t ∧ ev w t < 2
  | .leaf i, h => okT_leaf h
  | .node p l r, h => by
    obtain ⟨_, a, b⟩ := okT_node h
    show 0 ≤ (if w.getD p.toNat 0 = 48 then ev w l else ev w r) ∧ (if w.getD p.toNat 0 = 48 then ev w l else ev w r) < 2
    split
    · exact ev_in w l a
    · exact ev_in w r b
theorem tqL_is {m : Int} (n : Nat) {t : Tr} (h : okT m t = true) : tqL n t = (insT n).map fun w => 48 + (ev w t).toNat := by
  unfold tqL ofL
  rw [List.map_map]
  refine List.map_congr_left fun w hw => ?_
  have e := ev_in w t h
  show bit (decide (w ∈ ysT n t)) = _
  unfold ysT
  by_cases h1 : ev w t = 1
  · have mem : w ∈ (insT n).filter (fun w => decide (ev w t = 1)) := List.mem_filter.mpr ⟨hw, decide_eq_true h1⟩
    rw [decide_eq_true mem, h1]
    rfl
  · have mem : ¬ w ∈ (insT n).filter (fun w => decide (ev w t = 1)) := fun z => h1 (of_decide_eq_true (List.mem_filter.mp z).2)
    rw [decide_eq_false mem, show ev w t = 0 by omega]
    rfl
/-- what comes of which, of one and of a thing, where a question stands by -/
inductive Res (C : Addr) (n : Nat) (l : List Nat) (d : D) : Nat → D → UOut → Prop
  | cnt {k : Nat} {a : D} : (k = 0 ∨ k = 4 ∨ k = 5) → Ty a → posD a 7 = false → Res C n l d k a (.cnt a)
  | is {m : Nat} : m ≤ 6 → Res C n l d 0 (.int ((m : Nat) : Int)) (.ok (.bl (isT 40 ((m : Nat) : Int) d)) true)
  | inp {k : Nat} {a : D} : (k = 1 ∨ k = 2) → Fit a → (∀ z, a = .str (tx z) → ∀ m ∈ z, m < 0x110000) → isW bins a = false → Res C n l d k a (.inp a)
  | bad1 {k : Nat} {w : List Nat} : (k = 1 ∨ k = 2) → isW bins (.str (tx w)) = true → w.length ≤ 6 → (∀ m ∈ w, m ∈ bins) → isT 40 ((w.length : Nat) : Int) d = false → Res C n l d k (.str (tx w)) (.tree d)
  | look {w : List Nat} {t : Tr} : isW bins (.str (tx w)) = true → w.length ≤ 6 → (∀ m ∈ w, m ∈ bins) → d = trD t → okT ((w.length : Nat) : Int) t = true → Res C n l d 1 (.str (tx w)) (.ok (.lst ⟨false, true⟩ (iD (pth w t))) true)
  | ans {w : List Nat} {t : Tr} : isW bins (.str (tx w)) = true → w.length ≤ 6 → (∀ m ∈ w, m ∈ bins) → d = trD t → okT ((w.length : Nat) : Int) t = true → Res C n l d 2 (.str (tx w)) (.ok (.int (ev w t)) false)
  | bad3 {a : D} : isT 40 6 d = false → Res C n l d 3 a (.tree d)
  | dpt {a : D} {t : Tr} : d = trD t → okT 6 t = true → Res C n l d 3 a (.ok (.int ((dep t : Nat) : Int)) true)
  | bad4 {k m : Nat} : (k = 4 ∨ k = 5) → m ≤ 6 → isT 40 ((m : Nat) : Int) d = false → Res C n l d k (.int ((m : Nat) : Int)) (.tree d)
  | lvs {m : Nat} {t : Tr} : m ≤ 6 → d = trD t → okT ((m : Nat) : Int) t = true → Res C n l d 4 (.int ((m : Nat) : Int)) (.ok (.lst ⟨false, true⟩ (lvD (lvs t (dashL m)))) true)
  | tab {m : Nat} {t : Tr} : m ≤ 6 → d = trD t → okT ((m : Nat) : Int) t = true → Res C n l d 5 (.int ((m : Nat) : Int)) (.ok (.str (tx (tqL m t))) false)
  | bad6 : isT 40 ((n : Nat) : Int) d = false → Res C n l d 6 (qD C l) (.tree d)
  | wrg {t : Tr} : d = trD t → okT ((n : Nat) : Int) t = true → Res C n l d 6 (qD C l) (.ok (fstD (wrL n l t)) false)
/-- what is asked of the thing and of the question -/
structure Thg (n : Nat) (l : List Nat) (d : D) : Prop where
  deep : Deep 40 d
  sz : szD d ≤ 40
  dp : dpD d ≤ 20
  n6 : n ≤ 6
  ll : l.length = 2 ^ n
  tb : Tab l
theorem Thg.nodes {n : Nat} {l : List Nat} {t : Tr} (h : Thg n l (trD t)) : nodes t ≤ 40 := by
  have := h.sz
  rwa [szD_tr] at this
theorem Thg.dep {n : Nat} {l : List Nat} {t : Tr} (h : Thg n l (trD t)) : dep t ≤ 20 := by
  have := h.dp
  rwa [dpD_tr] at this
def dueR (C : Addr) : FSpec := fun ds c o => ∃ (n : Nat) (l : List Nat) (k : Nat) (a d : D) (u : UOut), ds = [.int ((k : Nat) : Int), a, d, qD C l] ∧ Thg n l d ∧ Res C n l d k a u ∧ o = .val (tdU u) false c
theorem res_td {C Cn BI BT : Addr} {n : Nat} {l : List Nat} {d : D} {k : Nat} {a : D} {u : UOut} {c : PC} (h : Thg n l d) (r : Res C n l d k a u) : tdB C Cn BI BT k a d u c ∧ (∀ x b, u = .ok x b → isN k = true → b = true) := by
  cases r with
  | cnt hk ta hp =>
    refine ⟨?_, fun _ _ e => nomatch e⟩
    rcases hk with rfl | rfl | rfl
    · exact .inl ⟨rfl, .inl ⟨a, d, rfl, ta, hp, rfl⟩⟩
    · exact .inr (.inr (.inr (.inr (.inl ⟨rfl, .inl ⟨a, d, rfl, ta, hp, rfl⟩⟩))))
    · exact .inr (.inr (.inr (.inr (.inr (.inl ⟨rfl, .inr ⟨Cn, _, rfl, .inl ⟨a, d, rfl, ta, hp, rfl⟩⟩⟩)))))
  | is hm => exact ⟨.inl ⟨rfl, .inr ⟨_, d, rfl, hm, h.deep, rfl⟩⟩, fun _ _ e z => nomatch z⟩
  | inp hk fa _ hw =>
    refine ⟨?_, fun _ _ e => nomatch e⟩
    rcases hk with rfl | rfl
    · exact .inr (.inl ⟨rfl, .inl ⟨d, a, rfl, fa, hw, rfl⟩⟩)
    · exact .inr (.inr (.inl ⟨rfl, .inl ⟨d, a, rfl, fa, hw, rfl⟩⟩))
  | bad1 hk hw hl _ ht =>
    refine ⟨?_, fun _ _ e => nomatch e⟩
    rcases hk with rfl | rfl
    · exact .inr (.inl ⟨rfl, .inr (.inl ⟨d, _, rfl, str_fit (by omega), hw, hl, h.deep, ht, rfl⟩)⟩)
    · exact .inr (.inr (.inl ⟨rfl, .inr (.inl ⟨d, _, rfl, str_fit (by omega), hw, hl, h.deep, ht, rfl⟩)⟩))
  | look hw hl _ hd ho =>
    subst hd
    exact ⟨.inr (.inl ⟨rfl, .inr (.inr ⟨_, _, rfl, str_fit (by omega), hw, hl, ho, h.nodes, rfl⟩)⟩), fun _ _ e _ => by cases e; rfl⟩
  | ans hw hl _ hd ho =>
    subst hd
    exact ⟨.inr (.inr (.inl ⟨rfl, .inr (.inr ⟨_, _, rfl, str_fit (by omega), hw, hl, ho, h.nodes, rfl⟩)⟩)), fun _ _ e z => nomatch z⟩
  | bad3 ht => exact ⟨.inr (.inr (.inr (.inl ⟨rfl, .inl ⟨d, rfl, h.deep, ht, rfl⟩⟩))), fun _ _ e => nomatch e⟩
  | dpt hd ho =>
    subst hd
    exact ⟨.inr (.inr (.inr (.inl ⟨rfl, .inr ⟨_, rfl, ho, h.nodes, rfl⟩⟩))), fun _ _ e z => nomatch z⟩
  | bad4 hk hm ht =>
    refine ⟨?_, fun _ _ e => nomatch e⟩
    rcases hk with rfl | rfl
    · exact .inr (.inr (.inr (.inr (.inl ⟨rfl, .inr (.inl ⟨_, d, rfl, hm, h.deep, ht, rfl⟩)⟩))))
    · exact .inr (.inr (.inr (.inr (.inr (.inl ⟨rfl, .inr ⟨BT, _, rfl, .inr (.inl ⟨_, d, rfl, hm, h.deep, ht, rfl⟩)⟩⟩)))))
  | lvs hm hd ho =>
    subst hd
    exact ⟨.inr (.inr (.inr (.inr (.inl ⟨rfl, .inr (.inr ⟨_, _, rfl, hm, ho, h.nodes, rfl⟩)⟩)))), fun _ _ e _ => by cases e; rfl⟩
  | tab hm hd ho =>
    subst hd
    exact ⟨.inr (.inr (.inr (.inr (.inr (.inl ⟨rfl, .inl ⟨_, rfl, .inr (.inr ⟨_, _, rfl, hm, ho, h.nodes, rfl⟩)⟩⟩))))), fun _ _ e z => nomatch z⟩
  | bad6 ht => exact ⟨.inr (.inr (.inr (.inr (.inr (.inr ⟨rfl, n, l, h.n6, h.ll, h.tb, .inl ⟨d, rfl, h.deep, ht, rfl⟩⟩))))), fun _ _ e => nomatch e⟩
  | wrg hd ho =>
    subst hd
    exact ⟨.inr (.inr (.inr (.inr (.inr (.inr ⟨rfl, n, l, h.n6, h.ll, h.tb, .inr ⟨_, rfl, ho, h.nodes, rfl⟩⟩))))), fun _ _ e z => nomatch z⟩
section
variable {P : Program} {w : World} {K : PySem.W.Frag} {mg : Str → Option Value} {base : Heap} {BT Cn BI C Lk : Addr}
abbrev nDu : List Str := ["_law_which", "_law_one", "_law_other", "_law_question", "_law_many", "_law_answers", "_law_texts", "_law_wrong", "_law_sign", "_law_word", "_law_answer", "_law_k"]
theorem scDu : FnScope nDu ["_law_which", "_law_one", "_law_other", "_law_question"] (defScope (top 55)) := ⟨rfl, rfl, rfl, by decide +kernel, rfl, by decide +kernel, by decide +kernel⟩
abbrev cxDu (P : Program) (w : World) (K : PySem.W.Frag) (mg : Str → Option Value) (base : Heap) (f : Addr) (cdv : Value) (A : Around) (outer : List Env) (s : Shared) (H : Hp) (E : XK) : Cx := (cxOf CX0 P w K mg base nDu "_law_due" (defScope (top 55)) f cdv A outer s H E).nox
abbrev uth (i : Nat) : Stmt := (defBody (top 55)).getD i (.Pass ⟨0, 0, 0, 0⟩)
variable {f : Addr} {cdv : Value} {A : Around} {outer : List Env} {s : Shared} {H : Hp} {E : XK} {p : HD} {c : PC}
/-- is a number in a row of three -/
def in3 (k : Nat) : Bool := decide (k = 0) || (decide (k = 4) || decide (k = 5))
theorem in3_rt {ρ : Rho} {k : Nat} (hk : k < 7) (h0 : ρ[0]? = some (some (.int ((k : Nat) : Int)))) : RT (cxDu P w K mg base f cdv A outer s H E) Wf p ρ c (match uth 0 with | .If (.BoolOp _ (e :: _) _) _ _ _ => e | _ => .Name "" ⟨0, 0, 0, 0⟩) (.val (in3 k) c) := by
  refine rt_to (rt_cmp op_in_seq (re_var 0 rfl h0) (re_tup (ds := [.int 0, .int 4, .int 5]) (ra_cons re_int (ra_cons re_int (ra_cons re_int ra_nil))) (by show 3 ≤ 100000; decide)) (ov_inT (neg := false) (v := .int ((k : Nat) : Int)) (xs := [.int 0, .int 4, .int 5]) rfl rfl rfl rfl)) ?_
  match k, hk with
  | 0, _ => rfl
  | 1, _ => rfl
  | 2, _ => rfl
  | 3, _ => rfl
  | 4, _ => rfl
  | 5, _ => rfl
  | 6, _ => rfl
theorem in2_rt {ρ : Rho} {k : Nat} (hk : k < 7) (h0 : ρ[0]? = some (some (.int ((k : Nat) : Int)))) : RT (cxDu P w K mg base f cdv A outer s H E) Wf p ρ c (match uth 2 with | .If e _ _ _ => e | _ => .Name "" ⟨0, 0, 0, 0⟩) (.val (decide (k = 1) || decide (k = 2)) c) := by
  refine rt_to (rt_cmp op_in_seq (re_var 0 rfl h0) (re_tup (ds := [.int 1, .int 2]) (ra_cons re_int (ra_cons re_int ra_nil)) (by show 2 ≤ 100000; decide)) (ov_inT (neg := false) (v := .int ((k : Nat) : Int)) (xs := [.int 1, .int 2]) rfl rfl rfl rfl)) ?_
  match k, hk with
  | 0, _ => rfl
  | 1, _ => rfl
  | 2, _ => rfl
  | 3, _ => rfl
  | 4, _ => rfl
  | 5, _ => rfl
  | 6, _ => rfl
/-- the test of a count -/
theorem cnt_rt {k : Nat} {a d q : D} (G : Glb mg) (hk : k < 7) (h3 : in3 k = true → Ty a) : RT (cxDu P w K mg base f cdv A outer s H E) Wf p (startR nDu [.int ((k : Nat) : Int), a, d, q]) c (match uth 0 with | .If e _ _ _ => e | _ => .Name "" ⟨0, 0, 0, 0⟩) (.val (in3 k && !posD a 7) c) := by
  cases h : in3 k with
  | false =>
    have t := in3_rt (P := P) (w := w) (K := K) (mg := mg) (base := base) (f := f) (cdv := cdv) (A := A) (outer := outer) (s := s) (H := H) (E := E) (p := p) (c := c) (ρ := startR nDu [.int ((k : Nat) : Int), a, d, q]) hk rfl
    rw [h] at t
    exact RW.rt (rw_and (k1 := false) (k2 := false) t fun z => nomatch z)
  | true =>
    have t := in3_rt (P := P) (w := w) (K := K) (mg := mg) (base := base) (f := f) (cdv := cdv) (A := A) (outer := outer) (s := s) (H := H) (E := E) (p := p) (c := c) (ρ := startR nDu [.int ((k : Nat) : Int), a, d, q]) hk rfl
    rw [h] at t
    obtain ⟨ta, hta⟩ := h3 h
    rw [Bool.true_and]
    have tb := rt_val (X := cxDu P w K mg base f cdv A outer s H E) (W := Wf) (p := p) (ρ := startR nDu [.int ((k : Nat) : Int), a, d, q]) (c := c) (k := isBlD a) (e := match uth 0 with | .If (.BoolOp _ (_ :: .BoolOp _ (e :: _) _ :: _) _) _ _ _ => e | _ => .Name "" ⟨0, 0, 0, 0⟩) (re_callB call_isi G.isi PyProof.Rows.boot_isinstance (ra_cons (re_var 1) (ra_cons (re_ty G.bool PyProof.Rows.boot_bool) ra_nil)) (cv_isi hta (isi_bool hta)))
    have ti := rt_val (X := cxDu P w K mg base f cdv A outer s H E) (W := Wf) (p := p) (ρ := startR nDu [.int ((k : Nat) : Int), a, d, q]) (c := c) (k := isIntD a) (e := match uth 0 with | .If (.BoolOp _ (_ :: .BoolOp _ (_ :: .UnaryOp _ e _ :: _) _ :: _) _) _ _ _ => e | _ => .Name "" ⟨0, 0, 0, 0⟩) (re_callB call_isi G.isi PyProof.Rows.boot_isinstance (ra_cons (re_var 1) (ra_cons (re_ty G.int PyProof.Rows.boot_int) ra_nil)) (cv_isi hta (isi_int hta)))
    refine RW.rt (rw_andS t (rw_and1 (RW.rt ?_)))
    cases a with
    | int i =>
      have e2 : (decide (0 ≤ i) && decide (i ≤ 6)) = posD (.int i) 7 := by
        show _ = (decide (0 ≤ i) && decide (i < 7))
        congr 1
        exact decide_eq_decide.mpr (by omega)
      exact rw_orS tb <| rw_orS (rt_not (k := true) ti) <| rw_or1 (rt_to (rt_not (rt_chain op_le op_le re_int (re_var 1) re_int ov_ib ov_ib)) (by rw [e2]))
    | bl v => exact rw_or (k1 := true) (k2 := true) tb fun z => nomatch z
    | «mut» _ => cases hta
    | ty _ => cases hta
    | cls _ => cases hta
    | exn _ _ _ => cases hta
    | obj _ _ => cases hta
    | _ => exact rw_orS tb <| rw_or (k1 := true) (k2 := true) (rt_not (k := false) ti) fun z => nomatch z
end
end K35

namespace K35
open PySem PySem.Spec PyProof.Rows L2 LA
open K36 (ev dep kn nw)
/-! ### what is due: the def -/
structure DuF (P : Program) (w : World) (K : PySem.W.Frag) (mg : Str → Option Value) (base : Heap) (C : Addr) : Prop where
  q : QC K C
  pt : QProp P w K mg base C "table" (tableR C)
  pm : QProp P w K mg base C "many" (manyR C)
  txs : StrsD P w K mg base
  walk : WaD P w K mg base
  lit : Def0 P w K mg base 41 "_law_is_tree" ["_law_many", "_law_thing"] (litR 40)
  ld : Def0 P w K mg base 41 "_law_depth" ["_law_shape"] (depR 40)
  ends : Def0 P w K mg base 41 "_law_ends" ["_law_shape", "_law_pattern"] (endsR 40)
theorem bins_ne : bins ≠ [] := by decide
section
variable {P : Program} {w : World} {K : PySem.W.Frag} {mg : Str → Option Value} {base : Heap} {BT Cn BI C Lk : Addr}
variable {f : Addr} {cdv : Value} {A : Around} {outer : List Env} {s : Shared} {H : Hp} {E : XK} {p : HD} {c : PC}
abbrev du2 : List Stmt := match uth 2 with | .If _ b _ _ => b | _ => []
abbrev d0 (k : Nat) (a d : D) (C : Addr) (l : List Nat) : Rho := startR nDu [.int ((k : Nat) : Int), a, d, qD C l]
/-- behind the checks of a text -/
theorem txt_ok {k : Nat} {v : List Nat} {n : Nat} {l : List Nat} {d : D} {u : UOut} (G : Glb mg) (D : DuF P w K mg base C) (h : Thg n l d) (hr : Room 41 (cxDu P w K mg base f cdv A outer s H E).A) (hk : k = 1 ∨ k = 2) (hl : v.length ≤ 6) (hb : ∀ m ∈ v, m ∈ bins)
    (hu : (isT 40 ((v.length : Nat) : Int) d = false ∧ u = .tree d) ∨ ∃ t, d = trD t ∧ okT ((v.length : Nat) : Int) t = true ∧ ((k = 1 ∧ u = .ok (.lst ⟨false, true⟩ (iD (pth v t))) true) ∨ (k = 2 ∧ u = .ok (.int (ev v t)) false))) :
    RSs (cxDu P w K mg base f cdv A outer s H E) Wf p (d0 k (.str (tx v)) d C l) c du2 (.rt (tdU u) false c) := by
  have lowv : ∀ m ∈ v, m < 0x110000 := bin_low hb
  have od : (odds bins v).isEmpty = true := by
    rw [odds_nil]
    exact List.all_eq_true.mpr fun m hm => decide_eq_true (hb m hm)
  have oe : odds bins v = [] := List.isEmpty_iff.mp od
  have hr2 := hr.mono (show 1 ≤ 41 by decide)
  have ne : RT (cxDu P w K mg base f cdv A outer s H E) Wf p (d0 k (.str (tx v)) d C l) c (match du2.getD 0 (.Pass ⟨0, 0, 0, 0⟩) with | .If (.BoolOp _ (_ :: _ :: e :: _) _) _ _ _ => e | _ => .Name "" ⟨0, 0, 0, 0⟩) (.val false c) := by
    have q := ov_neNil (K := K) (p := p) (c := c) (g := ⟨false, true⟩) (g2 := ⟨true, true⟩) (odds_ok (a := bins) lowv)
    rw [od] at q
    refine rt_cmp (op_neD hr.units) (n1 := true) (d1 := .lst ⟨false, true⟩ (odds bins v)) (c1 := c) ?_ (re_lst ra_nil (by show 0 ≤ 100000; decide)) q
    unfold odds
    rw [← signs_len v]
    refine re_lc (own := [("_law_sign", 8)]) (g := gName 8) _ _ (fun _ => c) (fun _ => c) (fun i => [some (.int ((k : Nat) : Int)), some (.str (tx v)), some d, some (qD C l), none, none, none, none, some (.str (chr1 (v.getD i 0))), none, none, none]) (fun _ => false) rfl scDu.nd (ri_str (re_var 1)) (blkOk_by (N := nDu) (sc := defScope (top 55)) (by decide +kernel)) (fun _ _ _ _ _ => pg_name (i := 8) scDu.nd rfl (Or.inl rfl)) (fun i d h => ?_) (fun i d h q s H C cl fp => ?_) (fun i d h hb q s H C cl fp => ?_) (fun i d h hb => rfl) (by rw [signs_len]; omega)
    · obtain ⟨rfl, _⟩ := signs_at h
      exact tg_name (by decide)
    · exact pts_one (rt_cmp op_notIn_sign (re_var 8) re_str ov_niC)
    · exact re_var 8
  refine rss_cons (c1 := c) (rs_if (kb := false) (RW.rt (rw_orS (rt_not (k := true) (rt_val (re_callB call_isi G.isi PyProof.Rows.boot_isinstance (ra_cons (re_var 1) (ra_cons (re_ty G.str PyProof.Rows.boot_str) ra_nil)) (cv_isi (t := "str") rfl rfl)))) <| rw_orS (rt_to (rt_cmp op_gt (re_callB call_len G.len PySem.boot_len (ra_cons (re_var 1) ra_nil) (cv_lenT (l := v) (by omega))) re_int (ov_ib (f := fun i j => decide (i > j)) (j := 6))) (decide_eq_false (by omega))) <| rw_or1 ne)) (fun z => nomatch z) fun _ => rss_nil) ?_
  have lt : ∀ b, isT 40 ((v.length : Nat) : Int) d = b → RT (cxDu P w K mg base f cdv A outer s H E) Wf p (d0 k (.str (tx v)) d C l) c (match du2.getD 1 (.Pass ⟨0, 0, 0, 0⟩) with | .Return (some (.IfExp e _ _ _)) _ => e | _ => .Name "" ⟨0, 0, 0, 0⟩) (.val b c) := fun b hb =>
    rt_val (re_c0 D.lit hr (ra_cons (re_callB call_len G.len PySem.boot_len (ra_cons (re_var 1) ra_nil) (cv_lenT (l := v) (by omega))) (ra_cons (re_var 2) ra_nil)) ⟨d, _, rfl, h.deep, by rw [hb]⟩)
  rcases hu with ⟨ht, rfl⟩ | ⟨t, rfl, ho, hu⟩
  · exact rss_ret (rs_ret (re_if (k := false) (lt false ht) (fun z => nomatch z) fun _ => re_old (re_lst (ra_cons re_str (ra_cons (re_var 2) ra_nil)) (by show 2 ≤ 100000; decide))))
  · have ht : isT 40 ((v.length : Nat) : Int) (trD t) = true := by rw [isT_tr 40 t h.nodes, ho]
    have wk : RE (cxDu P w K mg base f cdv A outer s H E) Wf p (d0 k (.str (tx v)) (trD t) C l) c (match du2.getD 1 (.Pass ⟨0, 0, 0, 0⟩) with | .Return (some (.IfExp _ (.Subscript e _ _) _ _)) _ => e | _ => .Name "" ⟨0, 0, 0, 0⟩) (.val (.tup [.lst ⟨false, true⟩ (iD (pth v t)), .int (ev v t)]) true c) :=
      re_c0 D.walk hr2 (ra_cons (re_var 2) (ra_cons (re_var 1) ra_nil)) ⟨t, v, rfl, ho, h.dep, hl, hb, rfl⟩
    rcases hu with ⟨rfl, rfl⟩ | ⟨rfl, rfl⟩
    · exact rss_ret (rs_ret (re_if (k := true) (lt true ht) (fun _ => re_ix ix_seq wk (re_bin op_sub (re_var 0) re_int ov_ii) (ov_ixT (j := 0) rfl rfl)) fun z => nomatch z))
    · exact rss_ret (rs_ret (re_if (k := true) (lt true ht) (fun _ => re_ix ix_seq wk (re_bin op_sub (re_var 0) re_int ov_ii) (ov_ixT (j := 1) rfl rfl)) fun z => nomatch z))
/-- what is no input -/
theorem no_txt {k : Nat} {a d q : D} (G : Glb mg) (hr : Room 41 (cxDu P w K mg base f cdv A outer s H E).A) (fa : Fit a) (lo : ∀ z, a = .str (tx z) → ∀ m ∈ z, m < 0x110000) (hw : isW bins a = false) :
    RSs (cxDu P w K mg base f cdv A outer s H E) Wf p (startR nDu [.int ((k : Nat) : Int), a, d, q]) c du2 (.rt (two2 "input" a) false c) := by
  obtain ⟨ta, hta⟩ := fa.ty
  have ret : RSs (cxDu P w K mg base f cdv A outer s H E) Wf p (startR nDu [.int ((k : Nat) : Int), a, d, q]) c (match du2.getD 0 (.Pass ⟨0, 0, 0, 0⟩) with | .If _ b _ _ => b | _ => []) (.rt (two2 "input" a) false c) := rss_ret (rs_ret (re_old (re_lst (ra_cons re_str (ra_cons (re_var 1) ra_nil)) (by show 2 ≤ 100000; decide))))
  by_cases hs : isStrD a = true
  · cases a with
    | str z =>
      obtain ⟨l, rfl⟩ := str_tx z
      have hl := fa.len l rfl
      have lowv := lo l rfl
      have t1 : RT (cxDu P w K mg base f cdv A outer s H E) Wf p (startR nDu [.int ((k : Nat) : Int), .str (tx l), d, q]) c (match du2.getD 0 (.Pass ⟨0, 0, 0, 0⟩) with | .If (.BoolOp _ (e :: _) _) _ _ _ => e | _ => .Name "" ⟨0, 0, 0, 0⟩) (.val false c) := rt_not (k := true) (rt_val (re_callB call_isi G.isi PyProof.Rows.boot_isinstance (ra_cons (re_var 1) (ra_cons (re_ty G.str PyProof.Rows.boot_str) ra_nil)) (cv_isi (t := "str") rfl rfl)))
      have t2 : ∀ b, decide ((l.length : Int) > 6) = b → RT (cxDu P w K mg base f cdv A outer s H E) Wf p (startR nDu [.int ((k : Nat) : Int), .str (tx l), d, q]) c (match du2.getD 0 (.Pass ⟨0, 0, 0, 0⟩) with | .If (.BoolOp _ (_ :: e :: _) _) _ _ _ => e | _ => .Name "" ⟨0, 0, 0, 0⟩) (.val b c) := fun b hb => rt_to (rt_cmp op_gt (re_callB call_len_str G.len PySem.boot_len (ra_cons (re_var 1) ra_nil) (cv_lenT' hl)) re_int (ov_ib (f := fun i j => decide (i > j)) (j := 6))) hb
      by_cases h6 : l.length ≤ 6
      · have od : (odds bins l).isEmpty = false := by
          unfold isW at hw
          rw [cds_tx] at hw
          rw [odds_nil]
          have e : isStrD (.str (tx l)) = true := rfl
          rw [e, Bool.true_and, decide_eq_true h6, Bool.true_and] at hw
          exact hw
        have ne : RT (cxDu P w K mg base f cdv A outer s H E) Wf p (startR nDu [.int ((k : Nat) : Int), .str (tx l), d, q]) c (match du2.getD 0 (.Pass ⟨0, 0, 0, 0⟩) with | .If (.BoolOp _ (_ :: _ :: e :: _) _) _ _ _ => e | _ => .Name "" ⟨0, 0, 0, 0⟩) (.val true c) := by
          have z := ov_neNil (K := K) (p := p) (c := c) (g := ⟨false, true⟩) (g2 := ⟨true, true⟩) (odds_ok (a := bins) lowv)
          rw [od] at z
          refine rt_cmp (op_neD hr.units) (n1 := true) (d1 := .lst ⟨false, true⟩ (odds bins l)) (c1 := c) ?_ (re_lst ra_nil (by show 0 ≤ 100000; decide)) z
          unfold odds
          rw [← signs_len l]
          refine re_lc (own := [("_law_sign", 8)]) (g := gName 8) _ _ (fun _ => c) (fun _ => c) (fun i => [some (.int ((k : Nat) : Int)), some (.str (tx l)), some d, some q, none, none, none, none, some (.str (chr1 (l.getD i 0))), none, none, none]) (fun _ => false) rfl scDu.nd (ri_str (re_var 1)) (blkOk_by (N := nDu) (sc := defScope (top 55)) (by decide +kernel)) (fun _ _ _ _ _ => pg_name (i := 8) scDu.nd rfl (Or.inl rfl)) (fun i d h => ?_) (fun i d h q s H C cl fp => ?_) (fun i d h hb q s H C cl fp => ?_) (fun i d h hb => rfl) (by rw [signs_len]; omega)
          · obtain ⟨rfl, _⟩ := signs_at h
            exact tg_name (by decide)
          · exact pts_one (rt_cmp op_notIn_sign (re_var 8) re_str ov_niC)
          · exact re_var 8
        exact rss_ret (rs_if (kb := true) (RW.rt (rw_orS t1 <| rw_orS (t2 false (decide_eq_false (by omega))) <| rw_or1 ne)) (fun _ => ret) fun z => nomatch z)
      · exact rss_ret (rs_if (kb := true) (RW.rt (rw_orS t1 <| rw_or (k1 := true) (k2 := true) (t2 true (decide_eq_true (by omega))) fun z => nomatch z)) (fun _ => ret) fun z => nomatch z)
    | _ => cases hs
  · have hf : isStrD a = false := by simpa using hs
    exact rss_ret (rs_if (kb := true) (RW.rt (rw_or (k1 := true) (k2 := true) (rt_not (k := false) (rt_val (re_callB (d := .bl false) call_isi G.isi PyProof.Rows.boot_isinstance (ra_cons (re_var 1) (ra_cons (re_ty G.str PyProof.Rows.boot_str) ra_nil)) (cv_isi hta (by rw [isi_str hta, hf]))))) fun z => nomatch z)) (fun _ => ret) fun z => nomatch z)
end
end K35

namespace K35
open PySem PySem.Spec PyProof.Rows L2 LA
open K36 (ev dep kn nw)
/-! ### what is due: behind the count of the bits -/
def awD (m : Nat) (t : Tr) : List D := (List.range (wD (insT m)).length).map fun i => D.int (ev ((insT m).getD i []) t)
theorem awD_len (m : Nat) (t : Tr) : (awD m t).length = 2 ^ m := by
  unfold awD
  rw [List.length_map, List.length_range, insT_wD]
theorem awD_at {m i : Nat} {t : Tr} (h : i < 2 ^ m) : (awD m t)[i]? = some (.int (ev ((insT m).getD i []) t)) := by
  unfold awD
  rw [List.getElem?_map, List.getElem?_range (by rw [insT_wD]; exact h)]
  rfl
theorem insT_get {m i : Nat} (h : i < 2 ^ m) : (insT m).getD i [] ∈ insT m := by
  rw [List.getD_eq_getElem?_getD, List.getElem?_eq_getElem (by rw [insT_len]; exact h)]
  exact List.getElem_mem _
/-- the four ends -/
def Tail (n : Nat) (l : List Nat) (d : D) (k m : Nat) (u : UOut) : Prop := (isT 40 ((m : Nat) : Int) d = false ∧ u = .tree d) ∨
  ∃ t, d = trD t ∧ okT ((m : Nat) : Int) t = true ∧ ((k = 3 ∧ u = .ok (.int ((dep t : Nat) : Int)) true) ∨ (k = 4 ∧ u = .ok (.lst ⟨false, true⟩ (lvD (lvs t (dashL m)))) true) ∨ (k = 5 ∧ u = .ok (.str (tx (tqL m t))) false) ∨ (k = 6 ∧ m = n ∧ u = .ok (fstD (wrL n l t)) false))
section
variable {P : Program} {w : World} {K : PySem.W.Frag} {mg : Str → Option Value} {base : Heap} {BT Cn BI C Lk : Addr}
variable {f : Addr} {cdv : Value} {A : Around} {outer : List Env} {s : Shared} {H : Hp} {E : XK} {p : HD} {c : PC}
abbrev dfr (k : Nat) (a d : D) (C : Addr) (l : List Nat) (m an ts wr : Option D) : Rho := [some (.int ((k : Nat) : Int)), some a, some d, some (qD C l), m, an, ts, wr, none, none, none, none]
theorem tail_ok {k m n : Nat} {l : List Nat} {a d : D} {u : UOut} (G : Glb mg) (DF : DuF P w K mg base C) (h : Thg n l d) (hr : Room 41 (cxDu P w K mg base f cdv A outer s H E).A) (hm : m ≤ 6) (hk : 3 ≤ k ∧ k ≤ 6) (hu : Tail n l d k m u) :
    RSs (cxDu P w K mg base f cdv A outer s H E) Wf p (dfr k a d C l (some (.int ((m : Nat) : Int))) none none none) c ((defBody (top 55)).drop 4) (.rt (tdU u) false c) := by
  have hr1 := hr.mono (show 1 ≤ 41 by decide)
  have hr2 := hr.mono (show 2 ≤ 41 by decide)
  have lt : ∀ b, isT 40 ((m : Nat) : Int) d = b → RT (cxDu P w K mg base f cdv A outer s H E) Wf p (dfr k a d C l (some (.int ((m : Nat) : Int))) none none none) c (match uth 4 with | .If e _ _ _ => e | _ => .Name "" ⟨0, 0, 0, 0⟩) (.val (!b) c) := fun b hb =>
    rt_not (rt_val (re_c0 DF.lit hr (ra_cons (re_var 4) (ra_cons (re_var 2) ra_nil)) ⟨d, _, rfl, h.deep, by rw [hb]⟩))
  rcases hu with ⟨ht, rfl⟩ | ⟨t, rfl, ho, hu⟩
  · exact rss_ret (rs_if (kb := true) (lt false ht) (fun _ => rss_ret (rs_ret (re_old (re_lst (ra_cons re_str (ra_cons (re_var 2) ra_nil)) (by show 2 ≤ 100000; decide))))) fun z => nomatch z)
  · have ht : isT 40 ((m : Nat) : Int) (trD t) = true := by rw [isT_tr 40 t h.nodes, ho]
    have p64 := pow_64 hm
    refine rss_cons (c1 := c) (rs_if (kb := false) (lt true ht) (fun z => nomatch z) fun _ => rss_nil) ?_
    have answers : RS (cxDu P w K mg base f cdv A outer s H E) Wf p (dfr k a (trD t) C l (some (.int ((m : Nat) : Int))) none none none) c (uth 7) (.nx (dfr k a (trD t) C l (some (.int ((m : Nat) : Int))) (some (.lst ⟨false, true⟩ (awD m t))) none none) c) := by
      refine rs_set (nw := true) 5 scDu.nd ?_
      refine re_lcA (own := [("_law_word", 9)]) (g := gName 9) (xs := wD (insT m)) (fun i => .int (ev ((insT m).getD i []) t)) (fun _ => c) (fun i => [some (.int ((k : Nat) : Int)), some a, some (trD t), some (qD C l), some (.int ((m : Nat) : Int)), none, none, none, none, some (.str (tx ((insT m).getD i []))), none, none]) (fun _ => false) rfl scDu.nd (ri_lst (re_c0 DF.txs hr1 (ra_cons (re_var 4) (ra_cons re_str ra_nil)) ⟨bins, m, rfl, hm, by decide, by decide, rfl⟩)) (blkOk_by (N := nDu) (sc := defScope (top 55)) (by decide +kernel)) (fun _ _ _ _ _ => pg_name (i := 9) scDu.nd rfl (Or.inl rfl)) (fun i d h => ?_) (fun i d h' q s H C' cl fp => ?_) (by rw [insT_wD]; omega)
      · obtain ⟨rfl, _, _⟩ := wD_at h
        exact tg_name (by decide)
      · obtain ⟨rfl, _, hmi⟩ := wD_at h'
        have hl2 := insT_at hmi
        exact re_ix ix_seq (re_c0 DF.walk hr1 (ra_cons (re_var 2) (ra_cons (re_var 9) ra_nil)) ⟨t, (insT m).getD i [], rfl, by rw [hl2]; exact ho, h.dep, by omega, insT_mem hmi, rfl⟩) re_int (ov_ixT (j := 1) rfl rfl)
    rcases hu with ⟨rfl, rfl⟩ | ⟨rfl, rfl⟩ | ⟨rfl, rfl⟩ | ⟨rfl, rfl, rfl⟩
    · exact rss_ret (rs_if (kb := true) (rt_to (rt_cmp op_eq (re_var 0) re_int ov_eqI) rfl) (fun _ => rss_ret (rs_ret (re_old (re_c0 DF.ld hr (ra_cons (re_var 2) ra_nil) ⟨t, rfl, h.nodes, rfl⟩)))) fun z => nomatch z)
    · refine rss_cons (c1 := c) (rs_if (kb := false) (rt_to (rt_cmp op_eq (re_var 0) re_int ov_eqI) rfl) (fun z => nomatch z) fun _ => rss_nil) ?_
      have e1 : Txt.mul (chr1 45) ((m : Nat) : Int) = tx (dashL m) := mul_tx [45] m
      exact rss_ret (rs_if (kb := true) (rt_to (rt_cmp op_eq (re_var 0) re_int ov_eqI) rfl) (fun _ => rss_ret (rs_ret (re_c0 DF.ends hr (ra_cons (re_var 2) (ra_cons (nw := true) (re_to (re_bin op_mulS re_str (re_var 4) (ov_mulS (mulOk_small rfl (by omega)))) (congrArg D.str e1)) ra_nil)) ⟨t, dashL m, rfl, h.nodes, by decide, by rw [dashL_len]; exact ho, by rw [dashL_len]; exact hm, dash_mem, rfl⟩))) fun z => nomatch z)
    · refine rss_cons (c1 := c) (rs_if (kb := false) (rt_to (rt_cmp op_eq (re_var 0) re_int ov_eqI) rfl) (fun z => nomatch z) fun _ => rss_nil) ?_
      refine rss_cons (c1 := c) (rs_if (kb := false) (rt_to (rt_cmp op_eq (re_var 0) re_int ov_eqI) rfl) (fun z => nomatch z) fun _ => rss_nil) ?_
      refine rss_cons answers ?_
      refine rss_ret (rs_if (kb := true) (rt_to (rt_cmp op_eq (re_var 0) re_int ov_eqI) rfl) (fun _ => rss_ret (rs_ret (re_old (nw := true) ?_))) fun z => nomatch z)
      have lz := awD_len m t
      refine re_joinC (l := tqL m t) (n1 := true) (n2 := true) (g := ⟨false, true⟩) re_str ?_ (by rw [tqL_is m ho, List.length_map, insT_len]; omega)
      have ez : (tqL m t).map (fun n => D.str (chr1 n)) = (List.range (awD m t).length).map fun i => D.str (chr1 (48 + (ev ((insT m).getD i []) t).toNat)) := by
        rw [lz, tqL_is m ho, ← wD_map (insT m) fun w => 48 + (ev w t).toNat, insT_wD]
      rw [ez]
      refine re_lcA (own := [("_law_answer", 10)]) (g := gName 10) (xs := awD m t) _ (fun _ => c) (fun i => [some (.int ((5 : Nat) : Int)), some a, some (trD t), some (qD C l), some (.int ((m : Nat) : Int)), some (.lst ⟨false, true⟩ (awD m t)), none, none, none, none, some (.int (ev ((insT m).getD i []) t)), none]) (fun _ => true) rfl scDu.nd (ri_lst (re_var 5)) (blkOk_by (N := nDu) (sc := defScope (top 55)) (by decide +kernel)) (fun _ _ _ _ _ => pg_name (i := 10) scDu.nd rfl (Or.inl rfl)) (fun i d h => ?_) (fun i d h' q s H C' cl fp => ?_) (by rw [lz]; omega)
      · have hi : i < 2 ^ m := by
          have := (List.getElem?_eq_some_iff.mp h).1
          omega
        rw [awD_at hi] at h
        rw [← Option.some.inj h]
        exact tg_name (by decide)
      · have hi : i < 2 ^ m := by
          have := (List.getElem?_eq_some_iff.mp h').1
          omega
        have b2 := ev_in ((insT m).getD i []) t (by rw [← insT_at (insT_get hi)] at ho; exact ho)
        exact re_strB G.str (re_var 10) (by omega)
    · refine rss_cons (c1 := c) (rs_if (kb := false) (rt_to (rt_cmp op_eq (re_var 0) re_int ov_eqI) rfl) (fun z => nomatch z) fun _ => rss_nil) ?_
      refine rss_cons (c1 := c) (rs_if (kb := false) (rt_to (rt_cmp op_eq (re_var 0) re_int ov_eqI) rfl) (fun z => nomatch z) fun _ => rss_nil) ?_
      refine rss_cons answers ?_
      refine rss_cons (c1 := c) (rs_if (kb := false) (rt_to (rt_cmp op_eq (re_var 0) re_int ov_eqI) rfl) (fun z => nomatch z) fun _ => rss_nil) ?_
      refine rss_cons (c1 := c) (ρ1 := dfr 6 a (trD t) C l (some (.int ((m : Nat) : Int))) (some (.lst ⟨false, true⟩ (awD m t))) (some (.lst ⟨false, true⟩ (wD (insT m)))) none) (rs_set (nw := false) 6 scDu.nd (re_c0 DF.txs hr1 (ra_cons (re_var 4) (ra_cons re_str ra_nil)) ⟨bins, m, rfl, hm, by decide, by decide, rfl⟩)) ?_
      have sel := coll_sel (fun w => !decide (ev w t = ansV l w)) (insT m)
      rw [insT_wD] at sel
      refine rss_cons (c1 := c) (ρ1 := dfr 6 a (trD t) C l (some (.int ((m : Nat) : Int))) (some (.lst ⟨false, true⟩ (awD m t))) (some (.lst ⟨false, true⟩ (wD (insT m)))) (some (.lst ⟨false, true⟩ (wD (wrL m l t))))) ?_ ?_
      · have li : (intsD (2 ^ m)).length = 2 ^ m := by unfold intsD; rw [List.length_map, List.length_range]
        show RS _ _ _ _ _ _ (.nx (dfr 6 a (trD t) C l (some (.int ((m : Nat) : Int))) (some (.lst ⟨false, true⟩ (awD m t))) (some (.lst ⟨false, true⟩ (wD (insT m)))) (some (.lst ⟨false, true⟩ (wD ((insT m).filter fun w => !decide (ev w t = ansV l w)))))) c)
        rw [← sel, ← li]
        refine rs_lc (own := [("_law_k", 11)]) (g := gName 11) (xs := intsD (2 ^ m)) 7 (fun i => !decide (ev ((insT m).getD i []) t = ansV l ((insT m).getD i []))) (fun i => .str (tx ((insT m).getD i []))) (fun _ => c) (fun _ => c) (fun i => [some (.int ((6 : Nat) : Int)), some a, some (trD t), some (qD C l), some (.int ((m : Nat) : Int)), some (.lst ⟨false, true⟩ (awD m t)), some (.lst ⟨false, true⟩ (wD (insT m))), none, none, none, none, some (.int ((i : Nat) : Int))]) (fun _ => false) rfl scDu.nd (ri_rangeN G.range (re_to (re_callB call_len G.len PySem.boot_len (ra_cons (re_var 6) ra_nil) cv_lenL) (by rw [insT_wD])) (by omega)) (blkOk_by (N := nDu) (sc := defScope (top 55)) (by decide +kernel)) (fun _ _ _ _ _ => pg_name (i := 11) scDu.nd rfl (Or.inl rfl)) (fun i d h => ?_) (fun i d h' q s H C' cl fp => ?_) (fun i d h' _ q s H C cl fp => ?_) (fun _ _ _ _ => rfl) (by rw [li]; omega)
        · obtain ⟨rfl, _⟩ := intsD_at h
          exact tg_name (by decide)
        · obtain ⟨rfl, hi⟩ := intsD_at h'
          have hmi := insT_get hi
          have b2 := ev_in ((insT m).getD i []) t (by rw [← insT_at hmi] at ho; exact ho)
          have hil : i < l.length := by rw [h.ll]; exact hi
          have zt : (tx l).length ≤ sizeLine := sz_le (by rw [tx_len, h.ll]; omega)
          have lb : l.getD i 0 = 48 ∨ l.getD i 0 = 49 := bins_B (h.tb.2 _ (by rw [List.getD_eq_getElem?_getD, List.getElem?_eq_getElem hil]; exact List.getElem_mem _))
          have er : (!decide (chr1 (48 + (ev ((insT m).getD i []) t).toNat) = chr1 (l.getD i 0))) = !decide (ev ((insT m).getD i []) t = ansV l ((insT m).getD i [])) := by
            congr 1
            refine decide_eq_decide.mpr (chr_eq.trans ?_)
            rw [ans_at hi]
            rcases lb with e | e
            · rw [e, if_neg (by decide)]
              omega
            · rw [e, if_pos rfl]
              omega
          exact pts_one (rt_to (rt_cmp op_ne (re_strB G.str (re_ix ix_seq (re_var 5) (re_var 11) (ov_ixL (j := i) rfl (awD_at hi))) (by omega)) (re_ix ix_seq (re_qprop DF.pt DF.q hr2 (re_var 3) ⟨l, rfl, rfl⟩) (re_var 11) (ov_ixS zt rfl (at_tx hil))) ov_neT) er)
        · obtain ⟨rfl, hi⟩ := intsD_at h'
          exact re_ix ix_seq (re_var 6) (re_var 11) (ov_ixL (j := i) rfl (by
            unfold wD
            rw [List.getElem?_map, List.getD_eq_getElem?_getD, List.getElem?_eq_getElem (by rw [insT_len]; exact hi)]
            rfl))
      · have fl : (wD (wrL m l t)).all flatOk = true := wD_flat fun v hv => insT_mem (List.mem_filter.mp hv).1
        have q := ov_neNil (K := K) (p := p) (c := c) (g := ⟨false, true⟩) (g2 := ⟨true, true⟩) fl
        have test : RT (cxDu P w K mg base f cdv A outer s H E) Wf p (dfr 6 a (trD t) C l (some (.int ((m : Nat) : Int))) (some (.lst ⟨false, true⟩ (awD m t))) (some (.lst ⟨false, true⟩ (wD (insT m)))) (some (.lst ⟨false, true⟩ (wD (wrL m l t))))) c (match uth 11 with | .Return (some (.IfExp e _ _ _)) _ => e | _ => .Name "" ⟨0, 0, 0, 0⟩) (.val (!(wD (wrL m l t)).isEmpty) c) := rt_cmp (op_neD hr.units) (re_var 7) (re_lst ra_nil (by show 0 ≤ 100000; decide)) q
        cases hw : wrL m l t with
        | nil =>
          rw [hw] at test
          exact rss_ret (rs_ret (re_if (k := false) test (fun z => nomatch z) fun _ => re_old re_non))
        | cons v r =>
          rw [hw] at test
          exact rss_ret (rs_ret (re_if (k := true) test (fun _ => re_ix ix_seq (re_var 7) re_int (ov_ixL (j := 0) rfl rfl)) fun z => nomatch z))
end
end K35

namespace K35
open PySem PySem.Spec PyProof.Rows L2 LA
open K36 (ev dep kn nw)
/-! ### what is due: whole -/
section
variable {P : Program} {w : World} {K : PySem.W.Frag} {mg : Str → Option Value} {base : Heap} {BT Cn BI C Lk : Addr}
theorem ok_due {f : Addr} {fd : FuncData} (G : Glb mg) (DF : DuF P w K mg base C) (F : Fun K "_law_due" "_law_due" (top 55) f fd) : FnOk P w K mg base CX0 42 f fd ["_law_which", "_law_one", "_law_other", "_law_question"] (spF K (dueR C)) := by
  refine fn_val F scDu (fun ds c o h => ?_) (fun ds c o h => ?_) (fun cdv A outer s H E hr p ds c o h => ?_)
  · obtain ⟨n, l, k, a, d, u, rfl, _⟩ := h
    rfl
  · obtain ⟨n, l, k, a, d, u, _, _, _, rfl⟩ := h
    exact ⟨_, _, _, rfl⟩
  · obtain ⟨n, l, k, a, d, u, rfl, h, r, rfl⟩ := h
    refine .inl ?_
    have hr2 := hr.mono (show 2 ≤ 41 by decide)
    have skip : ∀ (h7 : k < 7), (in3 k = true → Ty a) → (in3 k && !posD a 7) = false → RSs (cxDu P w K mg base f cdv A outer s H E) Wf p (startR nDu [.int ((k : Nat) : Int), a, d, qD C l]) c ((defBody (top 55)).drop 1) (.rt (tdU u) false c) →
        RSs (cxDu P w K mg base f cdv A outer s H E) Wf p (startR nDu [.int ((k : Nat) : Int), a, d, qD C l]) c (defBody (top 55)) (.rt (tdU u) false c) := fun h7 h3 hb rest => by
      have t := cnt_rt (P := P) (w := w) (K := K) (base := base) (f := f) (cdv := cdv) (A := A) (outer := outer) (s := s) (H := H) (E := E) (p := p) (c := c) (k := k) (a := a) (d := d) (q := qD C l) G h7 h3
      rw [hb] at t
      exact rss_cons (c1 := c) (rs_if (kb := false) t (fun z => nomatch z) fun _ => rss_nil) rest
    have ne0 : ∀ (k0 : ¬ k = 0), RSs (cxDu P w K mg base f cdv A outer s H E) Wf p (startR nDu [.int ((k : Nat) : Int), a, d, qD C l]) c ((defBody (top 55)).drop 2) (.rt (tdU u) false c) → RSs (cxDu P w K mg base f cdv A outer s H E) Wf p (startR nDu [.int ((k : Nat) : Int), a, d, qD C l]) c ((defBody (top 55)).drop 1) (.rt (tdU u) false c) := fun k0 rest =>
      rss_cons (c1 := c) (rs_if (kb := false) (rt_to (rt_cmp op_eq (re_var 0) re_int ov_eqI) (decide_eq_false (by omega))) (fun z => nomatch z) fun _ => rss_nil) rest
    have ne12 : ∀ (h7 : k < 7) (k3 : 3 ≤ k), RSs (cxDu P w K mg base f cdv A outer s H E) Wf p (startR nDu [.int ((k : Nat) : Int), a, d, qD C l]) c ((defBody (top 55)).drop 3) (.rt (tdU u) false c) → RSs (cxDu P w K mg base f cdv A outer s H E) Wf p (startR nDu [.int ((k : Nat) : Int), a, d, qD C l]) c ((defBody (top 55)).drop 1) (.rt (tdU u) false c) := fun h7 k3 rest =>
      ne0 (by omega) (rss_cons (c1 := c) (rs_if (kb := false) (rt_to (in2_rt h7 rfl) (by rw [decide_eq_false (by omega), decide_eq_false (by omega)]; rfl)) (fun z => nomatch z) fun _ => rss_nil) rest)
    have is12 : ∀ (h12 : k = 1 ∨ k = 2), RSs (cxDu P w K mg base f cdv A outer s H E) Wf p (startR nDu [.int ((k : Nat) : Int), a, d, qD C l]) c du2 (.rt (tdU u) false c) → RSs (cxDu P w K mg base f cdv A outer s H E) Wf p (startR nDu [.int ((k : Nat) : Int), a, d, qD C l]) c ((defBody (top 55)).drop 1) (.rt (tdU u) false c) := fun h12 rest =>
      ne0 (by omega) (rss_ret (rs_if (kb := true) (rt_to (in2_rt (by omega) rfl) (by rcases h12 with rfl | rfl <;> rfl)) (fun _ => rest) fun z => nomatch z))
    have n3 : ∀ {k : Nat}, (k = 1 ∨ k = 2 ∨ k = 3 ∨ k = 6) → in3 k = false := fun h => by rcases h with rfl | rfl | rfl | rfl <;> rfl
    have m3 : ∀ (a : D), k = 3 → RE (cxDu P w K mg base f cdv A outer s H E) Wf p (startR nDu [.int ((k : Nat) : Int), a, d, qD C l]) c (match uth 3 with | .Assign _ e _ => e | _ => .Name "" ⟨0, 0, 0, 0⟩) (.val (.int ((6 : Nat) : Int)) false c) := fun a hk => by
      subst hk
      exact re_if (k := true) (rt_to (rt_cmp op_eq (re_var 0) re_int ov_eqI) rfl) (fun _ => re_old re_int) fun z => nomatch z
    have m6 : k = 6 → RE (cxDu P w K mg base f cdv A outer s H E) Wf p (startR nDu [.int ((k : Nat) : Int), a, d, qD C l]) c (match uth 3 with | .Assign _ e _ => e | _ => .Name "" ⟨0, 0, 0, 0⟩) (.val (.int ((n : Nat) : Int)) false c) := fun hk => by
      subst hk
      refine re_if (k := false) (rt_to (rt_cmp op_eq (re_var 0) re_int ov_eqI) rfl) (fun z => nomatch z) fun _ => re_if (k := true) (rt_to (rt_cmp op_eq (re_var 0) re_int ov_eqI) rfl) (fun _ => ?_) fun z => nomatch z
      have e : (manyOf l : Int) = ((n : Nat) : Int) := by rw [many_pow h.n6 h.ll]
      exact re_to (re_qprop DF.pm DF.q hr2 (re_var 3) ⟨l, rfl, rfl⟩) (congrArg D.int e)
    have m45 : ∀ {m : Nat}, a = .int ((m : Nat) : Int) → k = 4 ∨ k = 5 → RE (cxDu P w K mg base f cdv A outer s H E) Wf p (startR nDu [.int ((k : Nat) : Int), a, d, qD C l]) c (match uth 3 with | .Assign _ e _ => e | _ => .Name "" ⟨0, 0, 0, 0⟩) (.val (.int ((m : Nat) : Int)) false c) := fun ha hk => by
      subst ha
      rcases hk with rfl | rfl
      · exact re_if (k := false) (rt_to (rt_cmp op_eq (re_var 0) re_int ov_eqI) rfl) (fun z => nomatch z) fun _ => re_if (k := false) (rt_to (rt_cmp op_eq (re_var 0) re_int ov_eqI) rfl) (fun z => nomatch z) fun _ => re_var 1
      · exact re_if (k := false) (rt_to (rt_cmp op_eq (re_var 0) re_int ov_eqI) rfl) (fun z => nomatch z) fun _ => re_if (k := false) (rt_to (rt_cmp op_eq (re_var 0) re_int ov_eqI) rfl) (fun z => nomatch z) fun _ => re_var 1
    have tail : ∀ {m : Nat}, m ≤ 6 → 3 ≤ k ∧ k ≤ 6 → RE (cxDu P w K mg base f cdv A outer s H E) Wf p (startR nDu [.int ((k : Nat) : Int), a, d, qD C l]) c (match uth 3 with | .Assign _ e _ => e | _ => .Name "" ⟨0, 0, 0, 0⟩) (.val (.int ((m : Nat) : Int)) false c) → Tail n l d k m u →
        RSs (cxDu P w K mg base f cdv A outer s H E) Wf p (startR nDu [.int ((k : Nat) : Int), a, d, qD C l]) c ((defBody (top 55)).drop 3) (.rt (tdU u) false c) := fun {m} hm hk he ht =>
      rss_cons (c1 := c) (ρ1 := dfr k a d C l (some (.int ((m : Nat) : Int))) none none none) (rs_set (nw := false) 4 scDu.nd he) (tail_ok G DF h hr hm hk ht)
    have pm : ∀ {m : Nat}, m ≤ 6 → posD (.int ((m : Nat) : Int)) 7 = true := fun hm => pos_int hm
    cases r with
    | cnt hk ta hp =>
      have h7 : k < 7 := by omega
      have t := cnt_rt (P := P) (w := w) (K := K) (base := base) (f := f) (cdv := cdv) (A := A) (outer := outer) (s := s) (H := H) (E := E) (p := p) (c := c) (k := k) (a := a) (d := d) (q := qD C l) G h7 fun _ => ta
      have e3 : in3 k = true := by rcases hk with rfl | rfl | rfl <;> rfl
      rw [hp, e3] at t
      exact rss_ret (rs_if (kb := true) t (fun _ => rss_ret (rs_ret (re_old (re_lst (ra_cons re_str (ra_cons (re_var 1) ra_nil)) (by show 2 ≤ 100000; decide))))) fun z => nomatch z)
    | is hm =>
      refine skip (by decide) (fun _ => ⟨_, rfl⟩) (by rw [pm hm]; rfl) ?_
      exact rss_ret (rs_if (kb := true) (rt_to (rt_cmp op_eq (re_var 0) re_int ov_eqI) rfl) (fun _ => rss_ret (rs_ret (re_old (re_c0 DF.lit hr (ra_cons (re_var 1) (ra_cons (re_var 2) ra_nil)) ⟨d, _, rfl, h.deep, rfl⟩)))) fun z => nomatch z)
    | inp hk fa lo hw =>
      exact skip (by omega) (fun z => absurd z (by rw [n3 (by omega)]; exact Bool.false_ne_true)) (by rw [n3 (by omega)]; rfl) (is12 hk (no_txt G hr fa lo hw))
    | bad1 hk hw hl hb ht =>
      exact skip (by omega) (fun z => absurd z (by rw [n3 (by omega)]; exact Bool.false_ne_true)) (by rw [n3 (by omega)]; rfl) (is12 hk (txt_ok G DF h hr hk hl hb (.inl ⟨ht, rfl⟩)))
    | look hw hl hb hd ho =>
      exact skip (by decide) (fun z => nomatch z) rfl (is12 (.inl rfl) (txt_ok G DF h hr (.inl rfl) hl hb (.inr ⟨_, hd, ho, .inl ⟨rfl, rfl⟩⟩)))
    | ans hw hl hb hd ho =>
      exact skip (by decide) (fun z => nomatch z) rfl (is12 (.inr rfl) (txt_ok G DF h hr (.inr rfl) hl hb (.inr ⟨_, hd, ho, .inr ⟨rfl, rfl⟩⟩)))
    | bad3 ht => exact skip (by decide) (fun z => nomatch z) rfl (ne12 (by decide) (by decide) (tail (m := 6) (by decide) (by decide) (m3 _ rfl) (.inl ⟨ht, rfl⟩)))
    | dpt hd ho => exact skip (by decide) (fun z => nomatch z) rfl (ne12 (by decide) (by decide) (tail (m := 6) (by decide) (by decide) (m3 _ rfl) (.inr ⟨_, hd, ho, .inl ⟨rfl, rfl⟩⟩)))
    | bad4 hk hm ht => exact skip (by omega) (fun _ => ⟨_, rfl⟩) (by rw [pm hm]; exact Bool.and_false _) (ne12 (by omega) (by omega) (tail hm (by omega) (m45 rfl hk) (.inl ⟨ht, rfl⟩)))
    | lvs hm hd ho => exact skip (by decide) (fun _ => ⟨_, rfl⟩) (by rw [pm hm]; rfl) (ne12 (by decide) (by decide) (tail hm (by decide) (m45 rfl (.inl rfl)) (.inr ⟨_, hd, ho, .inr (.inl ⟨rfl, rfl⟩)⟩)))
    | tab hm hd ho => exact skip (by decide) (fun _ => ⟨_, rfl⟩) (by rw [pm hm]; rfl) (ne12 (by decide) (by decide) (tail hm (by decide) (m45 rfl (.inr rfl)) (.inr ⟨_, hd, ho, .inr (.inr (.inl ⟨rfl, rfl⟩))⟩)))
    | bad6 ht => exact skip (by decide) (fun z => nomatch z) rfl (ne12 (by decide) (by decide) (tail h.n6 (by decide) (m6 rfl) (.inl ⟨ht, rfl⟩)))
    | wrg hd ho => exact skip (by decide) (fun z => nomatch z) rfl (ne12 (by decide) (by decide) (tail h.n6 (by decide) (m6 rfl) (.inr ⟨_, hd, ho, .inr (.inr (.inr ⟨rfl, rfl, rfl⟩))⟩)))
abbrev DueD (P : Program) (w : World) (K : PySem.W.Frag) (mg : Str → Option Value) (base : Heap) (C : Addr) := Def0 P w K mg base 42 "_law_due" ["_law_which", "_law_one", "_law_other", "_law_question"] (dueR C)
/-! ### there is always one -/
theorem pos_natK {a : D} (h : posD a 7 = true) : ∃ m : Nat, a = .int ((m : Nat) : Int) ∧ m ≤ 6 := by
  obtain ⟨i, rfl, h0, h1⟩ := pos_int' h
  exact ⟨i.toNat, by rw [Int.toNat_of_nonneg h0], by omega⟩
/-- what a row asks of its one -/
structure OneOk (k : Nat) (a : D) (q : D) : Prop where
  k7 : k < 7
  ty : in3 k = true → Ty a
  fit : k = 1 ∨ k = 2 → Fit a
  low : k = 1 ∨ k = 2 → ∀ z, a = .str (tx z) → ∀ m ∈ z, m < 0x110000
  six : k = 6 → a = q
theorem res_ex {C : Addr} {n k : Nat} {l : List Nat} {d a : D} (h : Thg n l d) (o : OneOk k a (qD C l)) : ∃ u, Res C n l d k a u := by
  by_cases h3 : in3 k = true
  · have hk : k = 0 ∨ k = 4 ∨ k = 5 := by
      obtain ⟨h7, _⟩ := o
      match k, h7 with
      | 0, _ => exact .inl rfl
      | 4, _ => exact .inr (.inl rfl)
      | 5, _ => exact .inr (.inr rfl)
      | 1, _ => cases h3
      | 2, _ => cases h3
      | 3, _ => cases h3
      | 6, _ => cases h3
    by_cases hp : posD a 7 = true
    · obtain ⟨m, rfl, hm⟩ := pos_natK hp
      rcases hk with rfl | hk
      · exact ⟨_, .is hm⟩
      · by_cases ht : isT 40 ((m : Nat) : Int) d = true
        · obtain ⟨t, rfl, ho⟩ := isT_inv _ _ ht
          rcases hk with rfl | rfl
          · exact ⟨_, .lvs hm rfl ho⟩
          · exact ⟨_, .tab hm rfl ho⟩
        · exact ⟨_, .bad4 hk hm (by simpa using ht)⟩
    · exact ⟨_, .cnt hk (o.ty h3) (by simpa using hp)⟩
  · have hk : k = 1 ∨ k = 2 ∨ k = 3 ∨ k = 6 := by
      obtain ⟨h7, _⟩ := o
      match k, h7 with
      | 0, _ => exact absurd rfl h3
      | 4, _ => exact absurd rfl h3
      | 5, _ => exact absurd rfl h3
      | 1, _ => exact .inl rfl
      | 2, _ => exact .inr (.inl rfl)
      | 3, _ => exact .inr (.inr (.inl rfl))
      | 6, _ => exact .inr (.inr (.inr rfl))
    have way : k = 1 ∨ k = 2 → ∃ u, Res C n l d k a u := fun hk => by
      by_cases hw : isW bins a = true
      · obtain ⟨v, rfl, hl, hb⟩ := isW_str hw
        by_cases ht : isT 40 ((v.length : Nat) : Int) d = true
        · obtain ⟨t, rfl, ho⟩ := isT_inv _ _ ht
          rcases hk with rfl | rfl
          · exact ⟨_, .look hw hl hb rfl ho⟩
          · exact ⟨_, .ans hw hl hb rfl ho⟩
        · exact ⟨_, .bad1 hk hw hl hb (by simpa using ht)⟩
      · exact ⟨_, .inp hk (o.fit hk) (o.low hk) (by simpa using hw)⟩
    rcases hk with rfl | rfl | rfl | rfl
    · exact way (.inl rfl)
    · exact way (.inr rfl)
    · by_cases ht : isT 40 6 d = true
      · obtain ⟨t, rfl, ho⟩ := isT_inv _ _ ht
        exact ⟨_, .dpt rfl ho⟩
      · exact ⟨_, .bad3 (by simpa using ht)⟩
    · have e := o.six rfl
      subst e
      by_cases ht : isT 40 ((n : Nat) : Int) d = true
      · obtain ⟨t, rfl, ho⟩ := isT_inv _ _ ht
        exact ⟨_, .wrg rfl ho⟩
      · exact ⟨_, .bad6 (by simpa using ht)⟩
end
end K35

namespace K35
open PySem PySem.Spec PyProof.Rows L2 LA
open K36 (ev dep kn nw nw_len)
/-! ### all that is told can be shown -/
theorem pth_in {n : Int} (w : List Nat) : ∀ t : Tr, okT n t = true → ∀ i ∈ pth w t, 0 ≤ i ∧ i < n
  | .leaf _, _ => fun i hi => nomatch hi
  | .node p l r, h => fun i hi => by
    obtain ⟨a, b, c⟩ := okT_node h
    unfold pth at hi
    rcases List.mem_cons.mp hi with rfl | hi
    · exact a
    · split at hi
      · exact pth_in w l b i hi
      · exact pth_in w r c i hi
theorem lvs_in {n : Int} : ∀ (t : Tr) (m : List Nat), okT n t = true → (∀ a ∈ m, a = 45 ∨ a = 48 ∨ a = 49) → ∀ x ∈ lvs t m, x.1.length = m.length ∧ (∀ a ∈ x.1, a = 45 ∨ a = 48 ∨ a = 49) ∧ 0 ≤ x.2 ∧ x.2 < 2
  | .leaf i, m, h, hm => fun x hx => by
    have e := List.mem_singleton.mp hx
    subst e
    exact ⟨rfl, hm, okT_leaf h⟩
  | .node p l r, m, h, hm => fun x hx => by
    obtain ⟨a, b, c⟩ := okT_node h
    unfold lvs at hx
    split at hx
    · rcases List.mem_append.mp hx with hx | hx
      · have q := lvs_in l _ b (nw_in (p := p) hm (.inl rfl)) x hx
        rw [nw_len] at q
        exact q
      · have q := lvs_in r _ c (nw_in (p := p) hm (.inr rfl)) x hx
        rw [nw_len] at q
        exact q
    · split at hx
      · exact lvs_in l m b hm x hx
      · exact lvs_in r m c hm x hx
theorem low_three {l : List Nat} (h : ∀ a ∈ l, a = 45 ∨ a = 48 ∨ a = 49) : ∀ a ∈ l, a < 0x110000 := fun a ha => by
  have := h a ha
  omega
theorem sh_tiny {w k : Nat} {d : D} (h : Tiny w k d) (hw : w ≤ 100000) (hk : k ≤ 50) : Shows d := h.shows (by omega) (by omega)
theorem sh_int {i : Int} (h : 0 ≤ i ∧ i < 10) : Shows (.int i) := (tiny_int h).shows (by decide) (by decide)
theorem sh_text {l : List Nat} (hl : l.length ≤ 100) (h : ∀ n ∈ l, n < 0x110000) : Shows (.str (tx l)) := shows_small (small_text hl h)
theorem res_sh {C : Addr} {n k : Nat} {l : List Nat} {d a : D} {u : UOut} (h : Thg n l d) (hd : dpD d ≤ 9) (td : Tiny 15000 40 d) (ha : k = 3 ∨ k = 6 ∨ Tiny 100 0 a) (r : Res C n l d k a u) : Shows (tdU u) := by
  have tree : Shows (two2 "tree" d) := td.one (by decide +kernel) (by decide) (by decide) (by decide)
  have dp9 : ∀ {t : Tr}, d = trD t → dep t ≤ 9 := fun e => by
    rw [e, dpD_tr] at hd
    exact hd
  cases r with
  | cnt hk _ _ =>
    have ta : Tiny 100 0 a := by rcases ha with rfl | rfl | q; · omega
                                 · omega
                                 · exact q
    exact ta.one (by decide +kernel) (by decide) (by decide) (by decide)
  | is _ => exact shows_small rfl
  | inp hk _ _ _ =>
    have ta : Tiny 100 0 a := by rcases ha with rfl | rfl | q; · omega
                                 · omega
                                 · exact q
    exact ta.one (by decide +kernel) (by decide) (by decide) (by decide)
  | bad1 _ _ _ _ _ => exact tree
  | look hw hl hb e ho =>
    have q := fun z => pth_in z _ ho
    refine (Tiny.lst (w := 100) (k := 0) (n := 9) (fun x hx => ?_) ?_).shows (by decide) (by decide)
    · obtain ⟨i, hi, rfl⟩ := List.mem_map.mp hx
      have := q _ i hi
      exact tiny_int (by omega)
    · show (List.map _ _).length ≤ 9
      rw [List.length_map, pth_len]
      exact Nat.le_trans (ln_dep _ _) (dp9 e)
  | ans hw hl hb e ho =>
    have q := fun z => ev_in z _ ho
    exact sh_int ⟨(q _).1, Int.lt_trans (q _).2 (by decide)⟩
  | bad3 _ => exact tree
  | dpt e ho =>
    have := dp9 e
    exact sh_int (by omega)
  | bad4 _ _ _ => exact tree
  | lvs hm e ho =>
    subst e
    rename_i m t
    have q := lvs_in t (dashL m) ho dash_mem
    have ln := Nat.le_trans (lvs_len t (dashL m)) (Nat.succ_le_succ h.nodes)
    refine (Tiny.lst (w := 212) (k := 1) (n := 41) (fun x hx => ?_) (by rw [lvD_len]; exact ln)).shows (by decide) (by decide)
    obtain ⟨y, hy, rfl⟩ := List.mem_map.mp hx
    obtain ⟨q1, q2, q3⟩ := q y hy
    rw [dashL_len] at q1
    refine Tiny.tup (w := 100) (k := 0) (n := 2) (fun z hz => ?_) (Nat.le_refl 2)
    simp only [List.mem_cons, List.not_mem_nil, or_false] at hz
    rcases hz with rfl | rfl
    · exact tiny_small (small_text (by omega) (low_three q2))
    · exact tiny_int (by omega)
  | tab hm e ho =>
    have p64 := pow_64 hm
    refine sh_text ?_ fun m hm => ?_
    · rw [tqL_is _ ho, List.length_map, insT_len]
      omega
    · rw [tqL_is _ ho] at hm
      obtain ⟨v, hv, rfl⟩ := List.mem_map.mp hm
      have := ev_in v _ ho
      omega
  | bad6 _ => exact tree
  | wrg e ho =>
    rename_i t
    have q : ∀ v ∈ wrL n l t, v ∈ insT n := fun v hv => (List.mem_filter.mp hv).1
    show Shows (fstD (wrL n l t))
    cases hw : wrL n l t with
    | nil => exact shows_small rfl
    | cons v r =>
      rw [hw] at q
      have hv := q v List.mem_cons_self
      have n6 := h.n6
      exact sh_text (by rw [insT_at hv]; omega) (bin_low (insT_mem hv))
end K35

namespace K35
open PySem PySem.Spec PyProof.Rows L2 LA
open K36 (ev dep kn nw)
/-! ### the values of a cell -/
theorem trN_dep (n : Nat) : ∀ (r : Nat) (x : Pl), dep (trN n r x).1 ≤ r
  | 0, x => Nat.le_refl _
  | r + 1, x => by
    unfold trN
    split
    · exact Nat.zero_le _
    · split
      · exact Nat.zero_le _
      · have a := trN_dep n r (drawC (drawC x 5) ((n : Nat) : Int))
        have b := trN_dep n r (trN n r (drawC (drawC x 5) ((n : Nat) : Int))).2
        show max _ _ + 1 ≤ r + 1
        omega
/-- one turn -/
abbrev wA (s : Tr × Pl) : Pl := drawC s.2 3
abbrev wB (n : Nat) (s : Tr × Pl) : Pl := drawC (wA s) ((n : Nat) : Int)
abbrev wC (n : Nat) (s : Tr × Pl) : Pl := drawC (wB n s) ((n : Nat) : Int)
def wp (n : Nat) (s : Tr × Pl) : Tr × Pl := if 0 < n then
    (if drawV s.2 3 = 0 then (.node (drawV (wA s) ((n : Nat) : Int)) s.1 (.node (drawV (wB n s) ((n : Nat) : Int)) (.leaf 1) (.leaf (drawV (wC n s) 2))), drawC (wC n s) 2) else (s.1, wA s))
  else s
def wpS (n : Nat) (s : Tr × Pl) : Nat → Tr × Pl
  | 0 => s
  | i + 1 => wp n (wpS n s i)
structure WOk (n a b : Nat) (t : Tr) : Prop where
  ok : okT ((n : Nat) : Int) t = true
  nd : nodes t ≤ a
  dp : dep t ≤ b
theorem okT_mk {n p : Int} {l r : Tr} (hp : 0 ≤ p ∧ p < n) (hl : okT n l = true) (hr : okT n r = true) : okT n (.node p l r) = true := by
  show ((decide (0 ≤ p) && decide (p < n)) && (okT n l && okT n r)) = true
  rw [decide_eq_true hp.1, decide_eq_true hp.2, hl, hr]
  rfl
theorem wp_ok {n a b : Nat} {s : Tr × Pl} (h : WOk n a (b + 1) s.1) : WOk n (a + 2) (b + 2) (wp n s).1 := by
  unfold wp
  split
  · rename_i hn
    have h1 := drawV_in (c := wA s) (show (0 : Int) < ((n : Nat) : Int) by omega)
    have h2 := drawV_in (c := wB n s) (show (0 : Int) < ((n : Nat) : Int) by omega)
    split
    · have d := h.dp
      refine ⟨okT_mk h1 h.ok (okT_mk h2 rfl (leaf_ok _ _)), ?_, ?_⟩
      · have := h.nd
        show nodes s.1 + (0 + 0 + 1) + 1 ≤ _
        omega
      · show max (dep s.1) (max 0 0 + 1) + 1 ≤ _
        omega
    · exact ⟨h.ok, Nat.le_add_right_of_le h.nd, Nat.le_succ_of_le h.dp⟩
  · exact ⟨h.ok, Nat.le_add_right_of_le h.nd, Nat.le_succ_of_le h.dp⟩
def manyN (x : Pl) : Nat := (drawV x 7).toNat
theorem manyN_le (x : Pl) : manyN x ≤ 6 ∧ drawV x 7 = ((manyN x : Nat) : Int) := by
  have := drawV_in (c := x) (show (0 : Int) < 7 by decide)
  unfold manyN
  omega
def roomN (x : Pl) : Nat := (drawV x 6).toNat
theorem roomN_le (x : Pl) : roomN x ≤ 5 ∧ drawV x 6 = ((roomN x : Nat) : Int) := by
  have := drawV_in (c := x) (show (0 : Int) < 6 by decide)
  unfold roomN
  omega
/-- bits, table, tree, and the way of the pool -/
abbrev cM (x : Pl) : Nat := manyN x
abbrev cL (x : Pl) : List Nat := tabL (drawC x 7) (cM x)
abbrev cY (x : Pl) : Pl := tabP (drawC x 7) (cM x)
abbrev cR (x : Pl) : Nat := roomN (cY x)
abbrev cT0 (x : Pl) : Tr × Pl := trN (cM x) (cR x) (drawC (cY x) 6)
abbrev cT (x : Pl) (i : Nat) : Tr × Pl := wpS (cM x) (cT0 x) i
theorem cT0_ok (x : Pl) : WOk (cM x) 31 5 (cT0 x).1 := by
  have a := trN_ok (cM x) (cR x) (drawC (cY x) 6)
  have b := trN_dep (cM x) (cR x) (drawC (cY x) 6)
  have c : cR x ≤ 5 := (roomN_le (cY x)).1
  have b : dep (cT0 x).1 ≤ cR x := b
  have a : okT ((cM x : Nat) : Int) (cT0 x).1 = true ∧ nodes (cT0 x).1 + 1 ≤ 2 ^ cR x := a
  refine ⟨a.1, ?_, by omega⟩
  have p : 2 ^ cR x ≤ 2 ^ 5 := Nat.pow_le_pow_right (by decide) c
  have e : (2 : Nat) ^ 5 = 32 := by decide
  have := a.2
  omega
theorem cT2_ok (x : Pl) : WOk (cM x) 35 7 (cT x 2).1 := wp_ok (a := 33) (b := 5) (wp_ok (a := 31) (b := 4) (cT0_ok x))
mutual
theorem ok_low {b : Bool} {n : Nat} : ∀ d : D, okD b d = true → lowD n d = true
  | .lst g xs, h => ok_lows xs (Bool.and_eq_true_iff.mp (show ((g.s || !b) && okDs b xs) = true from h)).2
  | .tup xs, h => ok_lows xs h
  | .dct kvs, h => ok_lowk kvs h
  | .mut _, h => by cases h
  | .ty _, h => by cases h
  | .cls _, h => by cases h
  | .exn _ _ _, h => by cases h
  | .obj _ _, h => by cases h
  | .non, _ => rfl
  | .bl _, _ => rfl
  | .int _, _ => rfl
  | .str _, _ => rfl
theorem ok_lows {b : Bool} {n : Nat} : ∀ xs : List D, okDs b xs = true → lowDs n xs = true
  | [], _ => rfl
  | d :: r, h => by
    obtain ⟨h1, h2⟩ := Bool.and_eq_true_iff.mp (show (okD b d && okDs b r) = true from h)
    show (lowD n d && lowDs n r) = true
    rw [ok_low d h1, ok_lows r h2]
    rfl
theorem ok_lowk {b : Bool} {n : Nat} : ∀ xs : List (Key × D), okDk b xs = true → lowDk n xs = true
  | [], _ => rfl
  | (k, d) :: r, h => by
    obtain ⟨h1, h2⟩ := Bool.and_eq_true_iff.mp (show (okD b d && okDk b r) = true from h)
    show (lowD n d && lowDk n r) = true
    rw [ok_low d h1, ok_lowk r h2]
    rfl
end
/-- what is asked of a thing -/
structure TOk (n : Nat) (l : List Nat) (d : D) : Prop where
  th : Thg n l d
  dp : dpD d ≤ 9
  tn : Tiny 15000 40 d
  low : ∀ m, lowD m d = true
theorem t_ok {n : Nat} {l : List Nat} {t : Tr} {d : D} (w : WOk n 35 7 t) (h6 : n ≤ 6) (tb : Tab l) (hl : l.length = 2 ^ n) (b : BOk n t d) : TOk n l d := by
  have sz := b.sz
  have dp := b.dp
  have nd := w.nd
  have dt := w.dp
  have tn := (b.tiny h6 (small_ok (by omega) w.ok)).up (w' := 15000) (k' := 40) (by omega) (by omega)
  exact ⟨⟨b.deep 40 (by omega), by omega, by omega, h6, hl, tb⟩, by omega, tn, fun m => ok_low d tn.ok⟩
theorem t_self {n : Nat} {t : Tr} : BOk n t (trD t) := oddB_ok n t 14 (by decide)
/-! ### the rows -/
def ovV : Nat → D
  | 0 => .int 7
  | 1 => .int (-1)
  | 2 => .bl true
  | 3 => .non
  | 4 => .str (tx [49])
  | _ => .int 1
def badV (n : Nat) : Nat → D
  | 0 => .non
  | 1 => .str (tx (List.replicate (n + 1) 48))
  | 2 => .str (tx [45])
  | 3 => .int 1
  | _ => .str (tx [])
theorem non_fit : Fit .non := ⟨⟨_, rfl⟩, fun l e => nomatch e⟩
theorem int_fit {i : Int} : Fit (.int i) := ⟨⟨_, rfl⟩, fun l e => nomatch e⟩
theorem rep_low (n : Nat) : ∀ m ∈ List.replicate n 48, m < 0x110000 := fun m h => by
  rw [List.eq_of_mem_replicate h]
  decide
theorem ovV_ok (j : Nat) : Ty (ovV j) ∧ Tiny 100 0 (ovV j) := by
  match j with
  | 0 => exact ⟨⟨_, rfl⟩, tiny_int (by decide)⟩
  | 1 => exact ⟨⟨_, rfl⟩, tiny_m1⟩
  | 2 => exact ⟨⟨_, rfl⟩, tiny_small rfl⟩
  | 3 => exact ⟨⟨_, rfl⟩, tiny_small rfl⟩
  | 4 => exact ⟨⟨_, rfl⟩, tiny_small (small_text (by decide) (by decide))⟩
  | j + 5 => exact ⟨⟨_, rfl⟩, tiny_int (by decide)⟩
structure SOk (a : D) : Prop where
  fit : Fit a
  low : ∀ z, a = .str (tx z) → ∀ m ∈ z, m < 0x110000
  tn : Tiny 100 0 a
theorem s_text {v : List Nat} (hl : v.length ≤ 100) (h : ∀ m ∈ v, m < 0x110000) : SOk (.str (tx v)) := ⟨str_fit (by omega), fun z e => by
  have := tx_inj (D.str.inj e)
  rw [← this]
  exact h, tiny_small (small_text hl h)⟩
theorem badV_ok {n : Nat} (hn : n ≤ 6) (j : Nat) : SOk (badV n j) := by
  match j with
  | 0 => exact ⟨non_fit, (fun z e => nomatch e), tiny_small rfl⟩
  | 1 => exact s_text (by rw [List.length_replicate]; omega) (rep_low _)
  | 2 => exact s_text (by decide) (by decide)
  | 3 => exact ⟨int_fit, (fun z e => nomatch e), tiny_int (by decide)⟩
  | j + 4 => exact s_text (by decide) (fun m h => nomatch h)
def rowD (r : Nat × D) : D := .tup [.int ((r.1 : Nat) : Int), r.2]
def rws (n : Nat) (o1 s0 s1 q : D) : List (Nat × D) := [(0, .int ((n : Nat) : Int)), (0, o1), (1, s0), (1, s1), (2, s0), (2, s1), (3, .int 0), (4, .int ((n : Nat) : Int)), (4, o1), (5, .int ((n : Nat) : Int)), (5, o1), (6, q)]
structure ROk (q : D) (r : Nat × D) : Prop where
  one : OneOk r.1 r.2 q
  tn : r.1 = 3 ∨ r.1 = 6 ∨ Tiny 100 0 r.2
  low : lowD 1 r.2 = true
theorem rws_ok {n : Nat} {o1 s0 s1 q : D} (hn : n ≤ 6) (o : Ty o1 ∧ Tiny 100 0 o1) (a : SOk s0) (b : SOk s1) (hq : lowD 1 q = true) : ∀ r ∈ rws n o1 s0 s1 q, ROk q r := by
  have cnt : ∀ {k : Nat} {v : D}, (k = 0 ∨ k = 4 ∨ k = 5) → Ty v → Tiny 100 0 v → ROk q (k, v) := fun {k v} hk tv tn => ⟨⟨by omega, fun _ => tv, fun z => by omega, fun z => by omega, fun z => by omega⟩, .inr (.inr tn), ok_low v tn.ok⟩
  have tn : Tiny 100 0 (.int ((n : Nat) : Int)) := tiny_int (by omega)
  have txt : ∀ {k : Nat} {v : D}, (k = 1 ∨ k = 2) → SOk v → ROk q (k, v) := fun {k v} hk s => ⟨⟨by omega, (fun z => by rcases hk with rfl | rfl <;> cases z), fun _ => s.fit, fun _ => s.low, fun z => by omega⟩, .inr (.inr s.tn), ok_low v s.tn.ok⟩
  intro r hr
  simp only [rws, List.mem_cons, List.not_mem_nil, or_false] at hr
  rcases hr with rfl | rfl | rfl | rfl | rfl | rfl | rfl | rfl | rfl | rfl | rfl | rfl
  · exact cnt (.inl rfl) ⟨_, rfl⟩ tn
  · exact cnt (.inl rfl) o.1 o.2
  · exact txt (.inl rfl) a
  · exact txt (.inl rfl) b
  · exact txt (.inr rfl) a
  · exact txt (.inr rfl) b
  · exact ⟨⟨by show 3 < 7; decide, fun _ => ⟨_, rfl⟩, fun z => by omega, fun z => by omega, fun z => by omega⟩, .inl rfl, rfl⟩
  · exact cnt (.inr (.inl rfl)) ⟨_, rfl⟩ tn
  · exact cnt (.inr (.inl rfl)) o.1 o.2
  · exact cnt (.inr (.inr rfl)) ⟨_, rfl⟩ tn
  · exact cnt (.inr (.inr rfl)) o.1 o.2
  · exact ⟨⟨by show 6 < 7; decide, fun z => (nomatch z), fun z => by omega, fun z => by omega, fun _ => rfl⟩, .inr (.inl rfl), hq⟩
/-! ### a question of a tree is answered by it -/
theorem tqL_len (n : Nat) (t : Tr) : (tqL n t).length = 2 ^ n := by
  unfold tqL ofL
  rw [List.length_map, List.length_map, insT_len]
theorem wrL_self {n : Nat} {t : Tr} (h : okT ((n : Nat) : Int) t = true) : wrL n (tqL n t) t = [] := by
  unfold wrL
  rw [List.filter_eq_nil_iff]
  intro w hw
  obtain ⟨k, hk, e⟩ := List.getElem_of_mem hw
  rw [insT_len] at hk
  have ew : w = (insT n).getD k [] := by
    rw [← e, List.getD_eq_getElem?_getD, List.getElem?_eq_getElem (by rw [insT_len]; exact hk)]
    rfl
  have a := ans_at hk (tqL n t)
  rw [← ew] at a
  have g : (tqL n t).getD k 0 = 48 + (ev w t).toNat := by
    rw [tqL_is n h, List.getD_eq_getElem?_getD, List.getElem?_map, List.getElem?_eq_getElem (by rw [insT_len]; exact hk), e]
    rfl
  have b := ev_in w t h
  rw [a, g]
  by_cases h1 : ev w t = 1
  · rw [h1]
    decide
  · rw [show ev w t = 0 by omega]
    decide
theorem ov_notN {K : PySem.W.Frag} {p : HD} {c : PC} {d : D} {b : Bool} (h : ∀ H v, DV K p H v d → decide (v = V.non) = b) : OV K p (fun x y H Q => y = .non ∧ Q (.bl (!decide (x = .non))) H) d .non (.bl (!b)) true c := fun v u H Q dv du hp k => by
  cases du
  refine ⟨rfl, ?_⟩
  rw [h H v dv]
  exact k _ H (Ext.refl p H) hp (.bl (!b)) fun _ => New.sc (by intro a h; cases h)
theorem nonD_is {K : PySem.W.Frag} {p : HD} : ∀ H v, DV K p H v .non → decide (v = V.non) = true := fun H v h => by
  cases h
  rfl
end K35

namespace K35
open PySem PySem.Spec PyProof.Rows L2 LA
open K36 (ev dep kn nw)
/-! ### the law: a row -/
theorem two_new {s : Str} {d : D} {w k : Nat} (t : Tiny w k d) (hs : smallD (.str s) = true) (hw : w ≤ 15000) (hk : k ≤ 40) : Tiny 40000 50 (.lst ⟨false, true⟩ [.str s, d]) := by
  refine (Tiny.lst (w := 15000) (k := 40) (n := 2) (ds := [.str s, d]) (fun x hx => ?_) (Nat.le_refl 2)).up (by decide) (by decide)
  simp only [List.mem_cons, List.not_mem_nil, or_false] at hx
  rcases hx with rfl | rfl
  · exact (tiny_small hs).up (by decide) (by decide)
  · exact t.up hw hk
/-- what is told of these is a new list -/
theorem res_new {C : Addr} {n k : Nat} {l : List Nat} {d a : D} {u : UOut} (h : Thg n l d) (hd : dpD d ≤ 9) (td : Tiny 15000 40 d) (ha : k = 3 ∨ k = 6 ∨ Tiny 100 0 a) (hN : isN k = true) (r : Res C n l d k a u) : ∃ g ds, tdU u = .lst g ds ∧ ds.length ≤ 1000 ∧ Tiny 40000 50 (.lst ⟨false, true⟩ ds) := by
  have tree : ∃ g ds, tdU (.tree d) = .lst g ds ∧ ds.length ≤ 1000 ∧ Tiny 40000 50 (.lst ⟨false, true⟩ ds) := ⟨_, _, rfl, by show 2 ≤ 1000; decide, two_new td (by decide +kernel) (by decide) (by decide)⟩
  have dp9 : ∀ {t : Tr}, d = trD t → dep t ≤ 9 := fun e => by
    rw [e, dpD_tr] at hd
    exact hd
  cases r with
  | cnt hk _ _ =>
    have ta : Tiny 100 0 a := by
      rcases ha with rfl | rfl | q
      · omega
      · omega
      · exact q
    exact ⟨_, _, rfl, by show 2 ≤ 1000; decide, two_new ta (by decide +kernel) (by decide) (by decide)⟩
  | is _ => cases hN
  | inp hk _ _ _ =>
    have ta : Tiny 100 0 a := by
      rcases ha with rfl | rfl | q
      · omega
      · omega
      · exact q
    exact ⟨_, _, rfl, by show 2 ≤ 1000; decide, two_new ta (by decide +kernel) (by decide) (by decide)⟩
  | bad1 _ _ _ _ _ => exact tree
  | look hw hl hb e ho =>
    have q := fun z => pth_in z _ ho
    have ln : ∀ z, (pth z _).length ≤ 9 := fun z => by rw [pth_len]; exact Nat.le_trans (ln_dep z _) (dp9 e)
    refine ⟨_, _, rfl, ?_, (Tiny.lst (w := 100) (k := 0) (n := 9) (fun x hx => ?_) ?_).up (by decide) (by decide)⟩
    · show (List.map _ _).length ≤ 1000
      rw [List.length_map]
      exact Nat.le_trans (ln _) (by decide)
    · obtain ⟨i, hi, rfl⟩ := List.mem_map.mp hx
      have := q _ i hi
      exact tiny_int (by omega)
    · show (List.map _ _).length ≤ 9
      rw [List.length_map]
      exact ln _
  | ans _ _ _ _ _ => cases hN
  | bad3 _ => exact tree
  | dpt _ _ => cases hN
  | bad4 _ _ _ => exact tree
  | lvs hm e ho =>
    subst e
    rename_i m t
    have q := lvs_in t (dashL m) ho dash_mem
    have ln := Nat.le_trans (lvs_len t (dashL m)) (Nat.succ_le_succ h.nodes)
    refine ⟨_, _, rfl, by rw [lvD_len]; omega, (Tiny.lst (w := 212) (k := 1) (n := 41) (fun x hx => ?_) (by rw [lvD_len]; exact ln)).up (by decide) (by decide)⟩
    obtain ⟨y, hy, rfl⟩ := List.mem_map.mp hx
    obtain ⟨q1, q2, q3⟩ := q y hy
    rw [dashL_len] at q1
    refine Tiny.tup (w := 100) (k := 0) (n := 2) (fun z hz => ?_) (Nat.le_refl 2)
    simp only [List.mem_cons, List.not_mem_nil, or_false] at hz
    rcases hz with rfl | rfl
    · exact tiny_small (small_text (by omega) (low_three q2))
    · exact tiny_int (by omega)
  | tab _ _ _ => cases hN
  | bad6 _ => cases hN
  | wrg _ _ => cases hN
section
variable {P : Program} {w : World} {K : PySem.W.Frag} {mg : Str → Option Value} {base : Heap} {f : Addr} {cdv : Value} {A : Around} {outer : List Env} {s : Shared} {H : Hp} {E : XK} {p : HD} {S kk : D} {C Cn BI BT BTa : Addr}
abbrev nLaw : List Str := ["_law_script", "_law_k", "_law_pool_here", "_law_many", "_law_question", "_law_shape", "_law_turn", "_law_texts", "_law_thing", "_law_odd", "_law_some", "_law_rows", "_law_which", "_law_one", "_law_told_here"]
theorem scLaw : FnScope nLaw ["_law_script"] (defScope (top 56)) := ⟨rfl, rfl, rfl, by decide +kernel, rfl, by decide +kernel, by decide +kernel⟩
abbrev cxL (P : Program) (w : World) (K : PySem.W.Frag) (mg : Str → Option Value) (base : Heap) (f : Addr) (cdv : Value) (A : Around) (outer : List Env) (s : Shared) (H : Hp) (E : XK) : Cx := (cxOf CX0 P w K mg base nLaw "law" (defScope (top 56)) f cdv A outer s H E).nox
abbrev bCell : List Stmt := match defBody (top 56) with
  | .For _ _ b _ _ :: _ => b
  | _ => []
abbrev nth (i : Nat) : Stmt := bCell.getD i (.Pass ⟨0, 0, 0, 0⟩)
abbrev tBd : List Stmt := fBd (nth 6)
abbrev tth (i : Nat) : Stmt := tBd.getD i (.Pass ⟨0, 0, 0, 0⟩)
abbrev rBd : List Stmt := fBd (tth 3)
abbrev rth (i : Nat) : Stmt := rBd.getD i (.Pass ⟨0, 0, 0, 0⟩)
abbrev fr (S kk : D) (m qu sh tu tx th od so rw wh on to : Option D) : Rho := [some S, some kk, some (.mut 0), m, qu, sh, tu, tx, th, od, so, rw, wh, on, to]
abbrev outR (S : D) : Rho := [some S, none, none, none, none, none, none, none, none, none, none, none, none, none, none]
abbrev nD0 (n : Nat) : D := .int ((n : Nat) : Int)
structure LawD (P : Program) (w : World) (K : PySem.W.Frag) (mg : Str → Option Value) (base : Heap) (C Cn BI BT BTa : Addr) : Prop where
  pool : PoolD P w K mg base
  draw : DrawD P w K mg base
  tabl : TablD P w K mg base
  make : QMk P w K mg base C BTa
  tree : ∀ r, Def0 P w K mg base (r + 2) "_law_tree" ["_law_pool_here", "_law_many", "_law_room"] (treeR r)
  txts : StrsD P w K mg base
  bent : ∀ m, Def0 P w K mg base (m + 2) "_law_bent" ["_law_pool_here", "_law_shape", "_law_many"] (bntR m)
  told : ToldD P w K mg base C Cn BI BT
  due : DueD P w K mg base C
  tqst : Def1 P w K mg base 45 "tree_question" ["many", "tree"] (tqX C Cn BT)
  q : QC K C
  pt : QProp P w K mg base C "table" (tableR C)
theorem coll_low {b : Nat → Bool} {y : Nat → Str} (m : Nat) : ∀ n : Nat, lowDs m (coll b (fun i => .str (y i)) n) = true
  | 0 => rfl
  | n + 1 => by
    unfold coll
    refine low_app (coll_low m n) ?_
    split <;> rfl
theorem low_q (C : Addr) (l : List Nat) (m : Nat) : lowD m (qD C l) = true := by
  show (true && (true && (lowDs m (yesL l) && true))) = true
  have e : lowDs m (yesL l) = true := coll_low m _
  rw [e]
  rfl
theorem nn {s : Str} : (!decide (s = s)) = false := by rw [decide_eq_true rfl]; rfl
theorem sc_cell (x : Pl) : ∀ y ∈ [x.c], ScCell y := fun y hy => by
  rw [List.mem_singleton.mp hy]
  exact ⟨x.ds, rfl, rfl⟩
/-- what a row names in passing -/
structure Low8 (S kk sp tz od so rw : D) : Prop where
  a : lowD 1 S = true
  b : lowD 1 kk = true
  c : lowD 1 sp = true
  d : lowD 1 tz = true
  e : lowD 1 od = true
  f : lowD 1 so = true
  g : lowD 1 rw = true
theorem in14_rt {ρ : Rho} {c : PC} {k : Nat} (hk : k < 7) (h0 : ρ[12]? = some (some (.int ((k : Nat) : Int)))) : RT (cxL P w K mg base f cdv A outer s H E) Wf p ρ c (match rth 2 with | .If (.BoolOp _ (e :: _) _) _ _ _ => e | _ => .Name "" ⟨0, 0, 0, 0⟩) (.val (isN k) c) := by
  refine rt_to (rt_cmp op_in_seq (re_var 12 rfl h0) (re_tup (ds := [.int 1, .int 4]) (ra_cons re_int (ra_cons re_int ra_nil)) (by show 2 ≤ 100000; decide)) (ov_inT (neg := false) (v := .int ((k : Nat) : Int)) (xs := [.int 1, .int 4]) rfl rfl rfl rfl)) ?_
  match k, hk with
  | 0, _ => rfl
  | 1, _ => rfl
  | 2, _ => rfl
  | 3, _ => rfl
  | 4, _ => rfl
  | 5, _ => rfl
  | 6, _ => rfl
theorem row_ok {x : Pl} {n k : Nat} {l : List Nat} {d a sp tz od so rw : D} (G : Glb mg) (L : LawD P w K mg base C Cn BI BT BTa) (T : TOk n l d) (R : ROk (qD C l) (k, a)) (W8 : Low8 S kk sp tz od so rw) (hr : Room 47 (cxL P w K mg base f cdv A outer s H E).A) (hg : (cxL P w K mg base f cdv A outer s H E).A.guards = some []) (hz : p.z = []) :
    RSs (cxL P w K mg base f cdv A outer s H E) Wf p (fr S kk (some (nD0 n)) (some (qD C l)) (some sp) none (some tz) (some d) (some od) (some so) (some rw) (some (nD0 k)) (some a) none) [x.c] rBd
      (.nx (fr S kk (some (nD0 n)) (some (qD C l)) (some sp) none (some tz) (some d) (some od) (some so) (some rw) (some (nD0 k)) (some a) none) [x.c]) := by
  have hu : (cxL P w K mg base f cdv A outer s H E).A.units + 70 < cLine := by have := hr.un; omega
  obtain ⟨u, r⟩ := res_ex T.th R.one
  have k7 : k < 7 := R.one.k7
  have sh := res_sh T.th T.dp T.tn R.tn r
  obtain ⟨tb, nwf⟩ := res_td (Cn := Cn) (BI := BI) (BT := BT) (c := [x.c]) T.th r
  cases hN : isN k with
  | false =>
    refine rss_less (ρ1 := fr S kk (some (nD0 n)) (some (qD C l)) (some sp) none (some tz) (some d) (some od) (some so) (some rw) (some (nD0 k)) (some a) (some (tdU u))) ?_ (by repeat (first | exact Less.nil | apply Less.same | apply Less.skip))
    refine rss_cons (c1 := [x.c]) (rs_set (nw := false) 14 scLaw.nd (re_c0 L.told hr (ra_cons (re_var 12) (ra_cons (re_var 13) (ra_cons (re_var 8) ra_nil))) ⟨k, a, d, u, rfl, tb, nwf, by rw [hN]⟩)) ?_
    refine rss_cons (c1 := [x.c]) (rs_if (kb := false) (rt_to (rt_cmp (nw := true) op_ne (re_callB (call_repr hg hu) G.repr PyProof.Rows.boot_repr (ra_cons (re_var 14) ra_nil) (cv_repr sh)) (re_callB (call_repr hg hu) G.repr PyProof.Rows.boot_repr (ra_cons (re_c0 L.due (hr.mono (by decide)) (ra_cons (re_var 12) (ra_cons (re_var 13) (ra_cons (re_var 8) (ra_cons (re_var 4) ra_nil)))) ⟨n, l, k, a, d, u, rfl, T.th, r, rfl⟩) ra_nil) (cv_repr sh)) ov_neT) nn) (fun z => nomatch z) fun _ => rss_nil) ?_
    have t := in14_rt (P := P) (w := w) (K := K) (mg := mg) (base := base) (f := f) (cdv := cdv) (A := A) (outer := outer) (s := s) (H := H) (E := E) (p := p) (c := [x.c]) (ρ := fr S kk (some (nD0 n)) (some (qD C l)) (some sp) none (some tz) (some d) (some od) (some so) (some rw) (some (nD0 k)) (some a) (some (tdU u))) k7 rfl
    rw [hN] at t
    exact rss_cons (c1 := [x.c]) (rs_if (kb := false) (RW.rt (rw_and (k1 := false) (k2 := false) t fun z => nomatch z)) (fun z => nomatch z) fun _ => rss_nil) rss_nil
  | true =>
    obtain ⟨g, ds, e, hl, tn⟩ := res_new T.th T.dp T.tn R.tn hN r
    have lowds : ∀ m, lowDs m ds = true := fun m => ok_low (n := m) (.lst ⟨false, true⟩ ds) tn.ok
    have sh2 : Shows (.lst ⟨false, true⟩ ds) := tn.shows (by decide) (by decide)
    have es : (toPy (tdU u)).shown = (toPy (.lst ⟨false, true⟩ ds)).shown := by
      rw [e]
      unfold toPy
      rfl
    have lr : ∀ {q : Option D → Rho}, True := fun {q} => trivial
    refine rso_of (rso_new (g := g) (ds := ds) (c1 := [x.c]) 14 (rn_set (W := Wf) 14 scLaw.nd (re_to (re_c0 L.told hr (ra_cons (re_var 12) (ra_cons (re_var 13) (ra_cons (re_var 8) ra_nil))) ⟨k, a, d, u, rfl, tb, nwf, by rw [hN]⟩) e)) (lowds 0) fun b => ?_)
    refine rso_end 1 (so' := .nx (fr S kk (some (nD0 n)) (some (qD C l)) (some sp) none (some tz) (some d) (some od) (some so) (some rw) (some (nD0 k)) (some a) none) [x.c, .lst (ds ++ [.int 0])]) ?_ (.nx (.one W8.a (.one W8.b (.one rfl (.one rfl (.one (low_q C l 1) (.one W8.c (.non (.one W8.d (.one (T.low 1) (.one W8.e (.one W8.f (.one W8.g (.one rfl (.one R.low (.non .nil))))))))))))))) rfl) rfl
    refine rss_less (ρ1 := fr S kk (some (nD0 n)) (some (qD C l)) (some sp) none (some tz) (some d) (some od) (some so) (some rw) (some (nD0 k)) (some a) (some (.mut 1))) ?_ (by repeat (first | exact Less.nil | apply Less.same | apply Less.skip))
    have fz : Frz 1 ds (fr S kk (some (nD0 n)) (some (qD C l)) (some sp) none (some tz) (some d) (some od) (some so) (some rw) (some (nD0 k)) (some a) (some (.mut 1))) (fr S kk (some (nD0 n)) (some (qD C l)) (some sp) none (some tz) (some d) (some od) (some so) (some rw) (some (nD0 k)) (some a) (some (.lst ⟨false, true⟩ ds))) :=
      .low W8.a (.low W8.b (.low rfl (.low rfl (.low (low_q C l 1) (.low W8.c (.non (.low W8.d (.low (T.low 1) (.low W8.e (.low W8.f (.low W8.g (.low rfl (.low R.low (.seen .nil))))))))))))))
    refine rss_cons (c1 := [x.c, .lst ds]) (rs_if (kb := false) (rt_frz (c := [x.c]) (c1 := [x.c]) (ds := ds) (b := false) (rt_to (rt_cmp (nw := true) op_ne (re_callB (call_repr hg hu) G.repr PyProof.Rows.boot_repr (ra_cons (re_var 14) ra_nil) (cv_repr sh2)) (re_callB (call_repr hg hu) G.repr PyProof.Rows.boot_repr (ra_cons (re_c0 L.due (hr.mono (by decide)) (ra_cons (re_var 12) (ra_cons (re_var 13) (ra_cons (re_var 8) (ra_cons (re_var 4) ra_nil)))) ⟨n, l, k, a, d, u, rfl, T.th, r, rfl⟩) ra_nil) (cv_repr sh)) ov_neT) (by rw [es]; exact nn)) fz hz (sc_cell _)) (fun z => nomatch z) fun _ => rss_nil) ?_
    have t := in14_rt (P := P) (w := w) (K := K) (mg := mg) (base := base) (f := f) (cdv := cdv) (A := A) (outer := outer) (s := s) (H := H) (E := E) (p := p) (c := [x.c]) (ρ := fr S kk (some (nD0 n)) (some (qD C l)) (some sp) none (some tz) (some d) (some od) (some so) (some rw) (some (nD0 k)) (some a) (some (.lst ⟨false, true⟩ ds))) k7 rfl
    rw [hN] at t
    refine rss_cons (c1 := [x.c, .lst (ds ++ [.int 0])]) (rs_if (kb := true) (rt_frz (c := [x.c]) (c1 := [x.c]) (ds := ds) (b := true) (RW.rt (rw_andS t (rw_and1 (rt_val (re_callB (d := .bl true) call_isi G.isi PyProof.Rows.boot_isinstance (ra_cons (re_var 14) (ra_cons (re_ty G.list PyProof.Rows.boot_list) ra_nil)) (cv_isi (t := "list") rfl rfl)))))) fz hz (sc_cell _)) (fun _ => rss_cons (rs_app 14 1 re_int ⟨ds, rfl⟩ rfl (by omega) rfl) rss_nil) fun z => nomatch z) rss_nil
end
end K35

namespace K35
open PySem PySem.Spec PyProof.Rows L2 LA
open K36 (ev dep kn nw)
section
variable {P : Program} {w : World} {K : PySem.W.Frag} {mg : Str → Option Value} {base : Heap} {f : Addr} {cdv : Value} {A : Around} {outer : List Env} {s : Shared} {H : Hp} {E : XK} {p : HD} {S kk : D} {C Cn BI BT BTa : Addr}
/-! ### the law: a thing -/
abbrev tC (y : Pl) (n : Nat) : Pl := drawC (drawC (drawC y 6) ((2 ^ n : Nat) : Int)) 5
theorem rws_at {n : Nat} {o1 s0 s1 q d : D} {i : Nat} (h : ((rws n o1 s0 s1 q).map rowD)[i]? = some d) : ∃ r, (rws n o1 s0 s1 q)[i]? = some r ∧ d = rowD r := by
  rw [List.getElem?_map] at h
  cases e : (rws n o1 s0 s1 q)[i]? with
  | none =>
    rw [e] at h
    cases h
  | some r =>
    rw [e] at h
    exact ⟨r, rfl, (Option.some.inj h).symm⟩
theorem low_rows {q : D} : ∀ {rs : List (Nat × D)}, (∀ r ∈ rs, ROk q r) → lowDs 1 (rs.map rowD) = true
  | [], _ => rfl
  | r :: rs, h => by
    show ((true && (lowD 1 r.2 && true)) && lowDs 1 (rs.map rowD)) = true
    rw [(h r List.mem_cons_self).low, low_rows fun x hx => h x (List.mem_cons_of_mem _ hx)]
    rfl
theorem low_wD1 (m : Nat) : ∀ ws : List (List Nat), lowDs m (wD ws) = true
  | [] => rfl
  | a :: r => low_wD1 m r
theorem thing_ok {y : Pl} {n : Nat} {l : List Nat} {d sp : D} (G : Glb mg) (L : LawD P w K mg base C Cn BI BT BTa) (T : TOk n l d) (hS : lowD 1 S = true) (hk : lowD 1 kk = true) (hsp : lowD 1 sp = true) (hr : Room 47 (cxL P w K mg base f cdv A outer s H E).A) (hg : (cxL P w K mg base f cdv A outer s H E).A.guards = some []) (hz : p.z = []) :
    RSs (cxL P w K mg base f cdv A outer s H E) Wf p (fr S kk (some (nD0 n)) (some (qD C l)) (some sp) none (some (.lst ⟨false, true⟩ (wD (insT n)))) (some d) none none none none none none) [y.c] tBd
      (.nx (fr S kk (some (nD0 n)) (some (qD C l)) (some sp) none (some (.lst ⟨false, true⟩ (wD (insT n)))) (some d) none none none none none none) [(tC y n).c]) := by
  have hr1 := hr.mono (show 1 ≤ 47 by decide)
  have n6 := T.th.n6
  have p64 := pow_64 n6
  have p1 : 1 ≤ 2 ^ n := Nat.one_le_two_pow
  have d6 := drawV_in (c := y) (show (0 : Int) < 6 by decide)
  have dn := drawV_in (c := drawC y 6) (show (0 : Int) < ((2 ^ n : Nat) : Int) by omega)
  have d5 := drawV_in (c := drawC (drawC y 6) ((2 ^ n : Nat) : Int)) (show (0 : Int) < 5 by decide)
  have h6 : (drawV y 6).toNat < 6 := by omega
  have hn : (drawV (drawC y 6) ((2 ^ n : Nat) : Int)).toNat < 2 ^ n := by omega
  have h5 : (drawV (drawC (drawC y 6) ((2 ^ n : Nat) : Int)) 5).toNat < 5 := by omega
  have a0 := insT_get hn
  have oo := ovV_ok (drawV y 6).toNat
  have os0 : SOk (.str (tx ((insT n).getD (drawV (drawC y 6) ((2 ^ n : Nat) : Int)).toNat []))) := s_text (by rw [insT_at a0]; omega) (bin_low (insT_mem a0))
  have os1 := badV_ok n6 (drawV (drawC (drawC y 6) ((2 ^ n : Nat) : Int)) 5).toNat
  have allr := rws_ok (q := qD C l) n6 oo os0 os1 (low_q C l 1)
  refine rss_cons (c1 := [(drawC y 6).c]) (ρ1 := fr S kk (some (nD0 n)) (some (qD C l)) (some sp) none (some (.lst ⟨false, true⟩ (wD (insT n)))) (some d) (some (.lst ⟨true, true⟩ [nD0 n, ovV (drawV y 6).toNat])) none none none none none) (rs_set (nw := true) 9 scLaw.nd (re_lst (ra_cons (re_var 3) (ra_cons (re_ix ix_seq (re_lst (ds := [.int 7, .int (-1), .bl true, .non, .str (tx [49]), .int 1]) (ra_cons re_int (ra_cons (re_neg re_int) (ra_cons re_bl (ra_cons re_non (ra_cons re_str (ra_cons re_int ra_nil)))))) (by show 6 ≤ 100000; decide)) (re_c0 L.draw hr1 (ra_cons (re_var 2) (ra_cons re_int ra_nil)) ⟨0, 6, y, rfl, rfl, by decide, by decide, rfl⟩) (ov_ixL (j := (drawV y 6).toNat) (Int.toNat_of_nonneg d6.1).symm ?_)) ra_nil)) (by show 2 ≤ 100000; decide))) ?_
  · generalize (drawV y 6).toNat = j at h6
    match j, h6 with
    | 0, _ => rfl
    | 1, _ => rfl
    | 2, _ => rfl
    | 3, _ => rfl
    | 4, _ => rfl
    | 5, _ => rfl
  generalize ovV (drawV y 6).toNat = o1 at *
  have ez : Txt.mul (chr1 48) ((n + 1 : Nat) : Int) = tx (List.replicate (n + 1) 48) := by
    have e := mul_tx [48] (n + 1)
    have e2 : (List.replicate (n + 1) [48]).flatten = List.replicate (n + 1) 48 := by
      induction n + 1 with
      | zero => rfl
      | succ k ih => rw [List.replicate_succ, List.flatten_cons, ih]; rfl
    rw [e2] at e
    exact e
  refine rss_cons (c1 := [(tC y n).c]) (ρ1 := fr S kk (some (nD0 n)) (some (qD C l)) (some sp) none (some (.lst ⟨false, true⟩ (wD (insT n)))) (some d) (some (.lst ⟨true, true⟩ [nD0 n, o1])) (some (.lst ⟨true, true⟩ [.str (tx ((insT n).getD (drawV (drawC y 6) ((2 ^ n : Nat) : Int)).toNat [])), badV n (drawV (drawC (drawC y 6) ((2 ^ n : Nat) : Int)) 5).toNat])) none none none none)
    (rs_set (nw := true) 10 scLaw.nd (re_lst (ra_cons (re_ix ix_seq (re_var 7) (re_c0 L.draw hr1 (ra_cons (re_var 2) (ra_cons (nw := true) (re_to (re_callB call_len G.len PySem.boot_len (ra_cons (re_var 7) ra_nil) cv_lenL) (by rw [insT_wD])) ra_nil)) ⟨0, ((2 ^ n : Nat) : Int), drawC y 6, rfl, rfl, by omega, by omega, rfl⟩) (ov_ixL (j := (drawV (drawC y 6) ((2 ^ n : Nat) : Int)).toNat) (Int.toNat_of_nonneg dn.1).symm ?_))
      (ra_cons (re_ix ix_seq (re_lst (ds := [.non, .str (tx (List.replicate (n + 1) 48)), .str (tx [45]), .int 1, .str (tx [])]) (ra_cons re_non (ra_cons (nw := true) (re_to (re_bin (d2 := .int ((n + 1 : Nat) : Int)) op_mulS re_str (re_bin op_add (re_var 3) re_int ov_ii) (ov_mulS (mulOk_small rfl (by omega)))) (congrArg D.str ez)) (ra_cons re_str (ra_cons re_int (ra_cons re_str ra_nil))))) (by show 5 ≤ 100000; decide)) (re_c0 L.draw hr1 (ra_cons (re_var 2) (ra_cons re_int ra_nil)) ⟨0, 5, drawC (drawC y 6) ((2 ^ n : Nat) : Int), rfl, rfl, by decide, by decide, rfl⟩) (ov_ixL (j := (drawV (drawC (drawC y 6) ((2 ^ n : Nat) : Int)) 5).toNat) (Int.toNat_of_nonneg d5.1).symm ?_)) ra_nil)) (by show 2 ≤ 100000; decide))) ?_
  · unfold wD
    rw [List.getElem?_map, List.getD_eq_getElem?_getD, List.getElem?_eq_getElem (by rw [insT_len]; exact hn)]
    rfl
  · generalize (drawV (drawC (drawC y 6) ((2 ^ n : Nat) : Int)) 5).toNat = j at h5
    match j, h5 with
    | 0, _ => rfl
    | 1, _ => rfl
    | 2, _ => rfl
    | 3, _ => rfl
    | 4, _ => rfl
  generalize badV n (drawV (drawC (drawC y 6) ((2 ^ n : Nat) : Int)) 5).toNat = s1 at *
  generalize D.str (tx ((insT n).getD (drawV (drawC y 6) ((2 ^ n : Nat) : Int)).toNat [])) = s0 at *
  generalize tC y n = z
  let rows7 : List D := [.tup [.int 0, nD0 n], .tup [.int 0, o1], .tup [.int 1, s0], .tup [.int 1, s1], .tup [.int 2, s0], .tup [.int 2, s1], .tup [.int 3, .int 0]]
  refine rss_cons (c1 := [z.c]) (ρ1 := fr S kk (some (nD0 n)) (some (qD C l)) (some sp) none (some (.lst ⟨false, true⟩ (wD (insT n)))) (some d) (some (.lst ⟨true, true⟩ [nD0 n, o1])) (some (.lst ⟨true, true⟩ [s0, s1])) (some (.lst ⟨true, true⟩ rows7)) none none none) (rs_set (nw := true) 11 scLaw.nd (re_lst
    (ra_cons (re_tup (ra_cons re_int (ra_cons (re_ix ix_seq (re_var 9) re_int (ov_ixL (j := 0) rfl rfl)) ra_nil)) (by show 2 ≤ 100000; decide))
    (ra_cons (re_tup (ra_cons re_int (ra_cons (re_ix ix_seq (re_var 9) re_int (ov_ixL (j := 1) rfl rfl)) ra_nil)) (by show 2 ≤ 100000; decide))
    (ra_cons (re_tup (ra_cons re_int (ra_cons (re_ix ix_seq (re_var 10) re_int (ov_ixL (j := 0) rfl rfl)) ra_nil)) (by show 2 ≤ 100000; decide))
    (ra_cons (re_tup (ra_cons re_int (ra_cons (re_ix ix_seq (re_var 10) re_int (ov_ixL (j := 1) rfl rfl)) ra_nil)) (by show 2 ≤ 100000; decide))
    (ra_cons (re_tup (ra_cons re_int (ra_cons (re_ix ix_seq (re_var 10) re_int (ov_ixL (j := 0) rfl rfl)) ra_nil)) (by show 2 ≤ 100000; decide))
    (ra_cons (re_tup (ra_cons re_int (ra_cons (re_ix ix_seq (re_var 10) re_int (ov_ixL (j := 1) rfl rfl)) ra_nil)) (by show 2 ≤ 100000; decide))
    (ra_cons (re_tup (ra_cons re_int (ra_cons re_int ra_nil)) (by show 2 ≤ 100000; decide)) ra_nil))))))) (by show 7 ≤ 100000; decide))) ?_
  have lows : Low8 S kk sp (.lst ⟨false, true⟩ (wD (insT n))) (.lst ⟨true, true⟩ [nD0 n, o1]) (.lst ⟨true, true⟩ [s0, s1]) (.lst ⟨true, true⟩ rows7) := by
    have l1 : lowD 1 o1 = true := ok_low o1 oo.2.ok
    have l2 : lowD 1 s0 = true := ok_low s0 os0.tn.ok
    have l3 : lowD 1 s1 = true := ok_low s1 os1.tn.ok
    refine ⟨hS, hk, hsp, low_wD1 1 _, ?_, ?_, low_rows (q := qD C l) (rs := (rws n o1 s0 s1 (qD C l)).take 7) fun r hr => allr r (List.mem_of_mem_take hr)⟩
    · show (true && (lowD 1 o1 && true)) = true
      rw [l1]
      rfl
    · show (lowD 1 s0 && (lowD 1 s1 && true)) = true
      rw [l2, l3]
      rfl
  have loop := rs_for_all (X := cxL P w K mg base f cdv A outer s H E) (W := Wf) (p := p) (c := [z.c]) (ρ := fr S kk (some (nD0 n)) (some (qD C l)) (some sp) none (some (.lst ⟨false, true⟩ (wD (insT n)))) (some d) (some (.lst ⟨true, true⟩ [nD0 n, o1])) (some (.lst ⟨true, true⟩ [s0, s1])) (some (.lst ⟨true, true⟩ rows7)) none none none) (xs := (rws n o1 s0 s1 (qD C l)).map rowD) (vs := [12, 13]) (g := gTup K 2 (gCons (gName 12) (gCons (gName 13) gNil))) (body := rBd) (tg := fTg (tth 3)) (it := fIt (tth 3)) (pos := fPs (tth 3))
    (fun _ => fr S kk (some (nD0 n)) (some (qD C l)) (some sp) none (some (.lst ⟨false, true⟩ (wD (insT n)))) (some d) (some (.lst ⟨true, true⟩ [nD0 n, o1])) (some (.lst ⟨true, true⟩ [s0, s1])) (some (.lst ⟨true, true⟩ rows7)) none none none)
    (fun i => fr S kk (some (nD0 n)) (some (qD C l)) (some sp) none (some (.lst ⟨false, true⟩ (wD (insT n)))) (some d) (some (.lst ⟨true, true⟩ [nD0 n, o1])) (some (.lst ⟨true, true⟩ [s0, s1])) (some (.lst ⟨true, true⟩ rows7)) (some (nD0 ((rws n o1 s0 s1 (qD C l)).getD i (0, .non)).1)) (some ((rws n o1 s0 s1 (qD C l)).getD i (0, .non)).2) none) (fun _ => [z.c]) PassesOwn.never rfl rfl
    (ri_lst (g := ⟨false, true⟩) (nw := true) (re_bin (d2 := .lst ⟨true, true⟩ [.tup [.int 4, nD0 n], .tup [.int 4, o1], .tup [.int 5, nD0 n], .tup [.int 5, o1], .tup [.int 6, qD C l]]) (n2 := true) op_cat (re_var 11) (re_lst
      (ra_cons (re_tup (ra_cons re_int (ra_cons (re_ix ix_seq (re_var 9) re_int (ov_ixL (j := 0) rfl rfl)) ra_nil)) (by show 2 ≤ 100000; decide))
      (ra_cons (re_tup (ra_cons re_int (ra_cons (re_ix ix_seq (re_var 9) re_int (ov_ixL (j := 1) rfl rfl)) ra_nil)) (by show 2 ≤ 100000; decide))
      (ra_cons (re_tup (ra_cons re_int (ra_cons (re_ix ix_seq (re_var 9) re_int (ov_ixL (j := 0) rfl rfl)) ra_nil)) (by show 2 ≤ 100000; decide))
      (ra_cons (re_tup (ra_cons re_int (ra_cons (re_ix ix_seq (re_var 9) re_int (ov_ixL (j := 1) rfl rfl)) ra_nil)) (by show 2 ≤ 100000; decide))
      (ra_cons (re_tup (ra_cons re_int (ra_cons (re_var 4) ra_nil)) (by show 2 ≤ 100000; decide)) ra_nil))))) (by show 5 ≤ 100000; decide)) (ov_cat (g1 := ⟨true, true⟩) (g2 := ⟨true, true⟩) (xs := rows7) (ys := [.tup [.int 4, nD0 n], .tup [.int 4, o1], .tup [.int 5, nD0 n], .tup [.int 5, o1], .tup [.int 6, qD C l]]) rfl rfl (by show 7 + 5 ≤ 100000; decide))))
    (pg_tup rfl (pgs_cons (pg_name (i := 12) scLaw.nd rfl (Or.inl rfl)) (pgs_cons (pg_name (i := 13) scLaw.nd rfl (Or.inl rfl)) pgs_nil))) (fun i d' h => ?_) (fun i d' h => ?_)
  · exact rss_less (rss_cons loop rss_nil) (by repeat (first | exact Less.nil | apply Less.same | apply Less.skip))
  · obtain ⟨r, hr', rfl⟩ := rws_at h
    have e : (rws n o1 s0 s1 (qD C l)).getD i (0, .non) = r := by rw [List.getD_eq_getElem?_getD, hr']; rfl
    rw [e]
    exact tg_two (vs := [12, 13]) (by decide) (by decide)
  · obtain ⟨r, hr', rfl⟩ := rws_at h
    have e : (rws n o1 s0 s1 (qD C l)).getD i (0, .non) = r := by rw [List.getD_eq_getElem?_getD, hr']; rfl
    rw [e]
    exact rss_less (row_ok (k := r.1) (a := r.2) G L T (allr r (List.mem_of_getElem? hr')) lows hr hg hz) (by repeat (first | exact Less.nil | apply Less.same | apply Less.skip))
end
end K35

namespace K35
open PySem PySem.Spec PyProof.Rows L2 LA
open K36 (ev dep kn nw)
section
variable {P : Program} {w : World} {K : PySem.W.Frag} {mg : Str → Option Value} {base : Heap} {f : Addr} {cdv : Value} {A : Around} {outer : List Env} {s : Shared} {H : Hp} {E : XK} {p : HD} {S kk : D} {C Cn BI BT BTa : Addr}
/-! ### the law: a cell -/
theorem turn_ok {n i : Nat} {l : List Nat} {st : Tr × Pl} (L : LawD P w K mg base C Cn BI BT BTa) (n6 : n ≤ 6) (hr : Room 47 (cxL P w K mg base f cdv A outer s H E).A) :
    RSs (cxL P w K mg base f cdv A outer s H E) Wf p (fr S kk (some (nD0 n)) (some (qD C l)) (some (trD st.1)) (some (nD0 i)) none none none none none none none none) [st.2.c] (fBd (nth 4))
      (.nx (fr S kk (some (nD0 n)) (some (qD C l)) (some (trD (wp n st).1)) none none none none none none none none none) [(wp n st).2.c]) := by
  have hr1 := hr.mono (show 1 ≤ 47 by decide)
  refine rss_less (ρ1 := fr S kk (some (nD0 n)) (some (qD C l)) (some (trD (wp n st).1)) (some (nD0 i)) none none none none none none none none) ?_ (by repeat (first | exact Less.nil | apply Less.skip | apply Less.same))
  obtain ⟨t, y⟩ := st
  unfold wp
  by_cases h : 0 < n
  · rw [if_pos h]
    have d3 : RE (cxL P w K mg base f cdv A outer s H E) Wf p (fr S kk (some (nD0 n)) (some (qD C l)) (some (trD t)) (some (nD0 i)) none none none none none none none none) [y.c] (match fBd (nth 4) with | .If (.BoolOp _ (_ :: .Compare e _ _ _ :: _) _) _ _ _ :: _ => e | _ => .Name "" ⟨0, 0, 0, 0⟩) (.val (.int (drawV y 3)) false [(drawC y 3).c]) :=
      re_c0 L.draw hr1 (ra_cons (re_var 2) (ra_cons re_int ra_nil)) ⟨0, 3, y, rfl, rfl, by decide, by decide, rfl⟩
    have g2 : ∀ k, k = decide (drawV y 3 = 0) → RT (cxL P w K mg base f cdv A outer s H E) Wf p (fr S kk (some (nD0 n)) (some (qD C l)) (some (trD t)) (some (nD0 i)) none none none none none none none none) [y.c] (match fBd (nth 4) with | .If e _ _ _ :: _ => e | _ => .Name "" ⟨0, 0, 0, 0⟩) (.val k [(drawC y 3).c]) := fun k hk =>
      RW.rt (rw_andS (rt_to (rt_cmp op_gt (re_var 3) re_int (ov_ib (f := fun i j => decide (i > j)) (j := 0))) (decide_eq_true (show ((n : Nat) : Int) > 0 by omega))) (rw_and1 (rt_to (rt_cmp op_eq d3 re_int ov_eqI) hk.symm)))
    by_cases h3 : drawV y 3 = 0
    · rw [if_pos h3]
      refine rss_cons (rs_if (kb := true) (g2 true (decide_eq_true h3).symm) (fun _ => ?_) fun z => nomatch z) rss_nil
      exact rss_cons (rs_set (nw := true) 5 scLaw.nd (re_tup (ra_cons (re_c0 L.draw hr1 (ra_cons (re_var 2) (ra_cons (re_var 3) ra_nil)) ⟨0, ((n : Nat) : Int), drawC y 3, rfl, rfl, by omega, by omega, rfl⟩) (ra_cons (re_var 5) (ra_cons (re_tup (ra_cons (re_c0 L.draw hr1 (ra_cons (re_var 2) (ra_cons (re_var 3) ra_nil)) ⟨0, ((n : Nat) : Int), drawC (drawC y 3) ((n : Nat) : Int), rfl, rfl, by omega, by omega, rfl⟩) (ra_cons re_int (ra_cons (re_c0 L.draw hr1 (ra_cons (re_var 2) (ra_cons re_int ra_nil)) ⟨0, 2, drawC (drawC (drawC y 3) ((n : Nat) : Int)) ((n : Nat) : Int), rfl, rfl, by decide, by decide, rfl⟩) ra_nil))) (by show 3 ≤ 100000; decide)) ra_nil))) (by show 3 ≤ 100000; decide))) rss_nil
    · rw [if_neg h3]
      exact rss_cons (rs_if (kb := false) (g2 false (decide_eq_false h3).symm) (fun z => nomatch z) fun _ => rss_nil) rss_nil
  · rw [if_neg h]
    exact rss_cons (rs_if (kb := false) (RW.rt (rw_and (k1 := false) (k2 := false) (rt_to (rt_cmp op_gt (re_var 3) re_int (ov_ib (f := fun i j => decide (i > j)) (j := 0))) (decide_eq_false (show ¬ ((n : Nat) : Int) > 0 by omega))) fun z => nomatch z)) (fun z => nomatch z) fun _ => rss_nil) rss_nil
def tP (y : Pl) (n : Nat) : Nat → Pl
  | 0 => y
  | i + 1 => tC (tP y n i) n
theorem end_ok {n : Nat} {l : List Nat} {t : Tr} {y : Pl} (L : LawD P w K mg base C Cn BI BT BTa) (wk : WOk n 35 7 t) (n6 : n ≤ 6) (hr : Room 47 (cxL P w K mg base f cdv A outer s H E).A) :
    RT (cxL P w K mg base f cdv A outer s H E) Wf p (fr S kk (some (nD0 n)) (some (qD C l)) (some (trD t)) none (some (.lst ⟨false, true⟩ (wD (insT n)))) none none none none none none none) [y.c] (match nth 7 with | .If e _ _ _ => e | _ => .Name "" ⟨0, 0, 0, 0⟩) (.val false [y.c]) := by
  have nd := wk.nd
  have tb : Tab (tqL n t) := ofL_tab _ n6
  have hl := tqL_len n t
  have p64 := pow_64 n6
  have T := t_ok (l := tqL n t) wk n6 tb hl t_self
  have r : Res C n (tqL n t) (trD t) 6 (qD C (tqL n t)) (.ok (fstD (wrL n (tqL n t) t)) false) := .wrg rfl wk.ok
  obtain ⟨b1, b2⟩ := res_td (Cn := Cn) (BI := BI) (BT := BT) (c := [y.c]) T.th r
  refine rt_to (rt_cmp (d1 := .non) (n1 := false) op_notN (re_to (re_c0 L.told hr (ra_cons re_int (ra_cons (re_makeQ (o := .val (qD C (tqL n t)) true [y.c]) takes0 L.make (hr.mono (by decide)) (re_qprop L.pt L.q (hr.mono (by decide)) (re_c1 (o := .val (qD C (tqL n t)) true [y.c]) takes0 L.tqst (hr.mono (by decide)) (ra_cons (re_var 3) (ra_cons (re_var 5) ra_nil)) (.inr (.inr ⟨n, t, rfl, n6, wk.ok, by omega, rfl⟩))) ⟨_, rfl, rfl⟩) (str_fit (by omega)) (fun _ => rfl) (by unfold outQ; rw [tab_is tb, if_pos rfl, cds_tx])) (ra_cons (re_var 5) ra_nil))) ⟨6, _, _, _, rfl, b1, b2, rfl⟩) (show fstD (wrL n (tqL n t) t) = .non by rw [wrL_self wk.ok]; rfl)) re_non (ov_notN nonD_is)) rfl
theorem mid_ok {x : Pl} (G : Glb mg) (L : LawD P w K mg base C Cn BI BT BTa) (hS : lowD 1 S = true) (hk : lowD 1 kk = true) (hr : Room 47 (cxL P w K mg base f cdv A outer s H E).A) (hg : (cxL P w K mg base f cdv A outer s H E).A.guards = some []) (hz : p.z = []) :
    ∃ c', RSs (cxL P w K mg base f cdv A outer s H E) Wf p (fr S kk none none none none none none none none none none none none) [x.c] (bCell.drop 1) (.nx (outR S) c') := by
  have hr1 := hr.mono (show 1 ≤ 47 by decide)
  have hr2 := hr.mono (show 2 ≤ 47 by decide)
  obtain ⟨n6, en⟩ := manyN_le x
  have d7 := drawV_in (c := x) (show (0 : Int) < 7 by decide)
  obtain ⟨r5, er⟩ := roomN_le (cY x)
  have tb : Tab (cL x) := tab_tab _ n6
  have ll : (cL x).length = 2 ^ cM x := tabL_len _ _
  have wk := cT2_ok x
  have n6 : cM x ≤ 6 := n6
  have p64 : 2 ^ cM x ≤ 64 := pow_64 n6
  have l64 : (cL x).length ≤ 1000 := by rw [ll]; omega
  have r5 : cR x ≤ 5 := r5
  have er : drawV (cY x) 6 = ((cR x : Nat) : Int) := er
  refine ⟨[(tP (bnt (cM x) (cT x 2).1 (bnt (cM x) (cT x 2).1 (cT x 2).2).2).2 (cM x) 3).c], ?_⟩
  refine rss_less (ρ1 := fr S kk (some (nD0 (cM x))) (some (qD C (cL x))) (some (trD (cT x 2).1)) none (some (.lst ⟨false, true⟩ (wD (insT (cM x))))) none none none none none none none) ?_ (by repeat (first | exact Less.nil | apply Less.skip | apply Less.same))
  refine rss_cons (c1 := [(drawC x 7).c]) (ρ1 := fr S kk (some (nD0 (cM x))) none none none none none none none none none none none) (rs_set (nw := false) 3 scLaw.nd (re_ix ix_seq (re_lst (ds := [.int 0, .int 1, .int 2, .int 3, .int 4, .int 5, .int 6]) (ra_cons re_int (ra_cons re_int (ra_cons re_int (ra_cons re_int (ra_cons re_int (ra_cons re_int (ra_cons re_int ra_nil))))))) (by show 7 ≤ 100000; decide)) (re_c0 L.draw hr1 (ra_cons (re_var 2) (ra_cons re_int ra_nil)) ⟨0, 7, x, rfl, rfl, by decide, by decide, rfl⟩) (ov_ixL (j := manyN x) en ?_))) ?_
  · show _ = some (nD0 (manyN x))
    have h : manyN x ≤ 6 := n6
    generalize manyN x = j at h
    match j, h with
    | 0, _ => rfl
    | 1, _ => rfl
    | 2, _ => rfl
    | 3, _ => rfl
    | 4, _ => rfl
    | 5, _ => rfl
    | 6, _ => rfl
  refine rss_cons (c1 := [(cY x).c]) (ρ1 := fr S kk (some (nD0 (cM x))) (some (qD C (cL x))) none none none none none none none none none none) (rs_set (nw := true) 4 scLaw.nd (re_makeQ (o := .val (qD C (cL x)) true [(cY x).c]) takes0 L.make (hr.mono (by decide)) (re_c0 L.tabl hr2 (ra_cons (re_var 2) (ra_cons (re_var 3) ra_nil)) ⟨drawC x 7, cM x, rfl, rfl, n6, rfl⟩) (str_fit l64) (fun _ => rfl) (by unfold outQ; rw [tab_is tb, if_pos rfl, cds_tx]))) ?_
  refine rss_cons (c1 := [(cT x 0).2.c]) (ρ1 := fr S kk (some (nD0 (cM x))) (some (qD C (cL x))) (some (trD (cT x 0).1)) none none none none none none none none none) (rs_set (nw := false) 5 scLaw.nd (re_c0 (L.tree (cR x)) (hr.mono (by omega)) (ra_cons (re_var 2) (ra_cons (re_var 3) (ra_cons (re_to (re_c0 L.draw hr1 (ra_cons (re_var 2) (ra_cons re_int ra_nil)) ⟨0, 6, cY x, rfl, rfl, by decide, by decide, rfl⟩) (congrArg D.int er)) ra_nil))) ⟨0, cM x, drawC (cY x) 6, rfl, n6, rfl, rfl⟩)) ?_
  have lw := rs_for_all (X := cxL P w K mg base f cdv A outer s H E) (W := Wf) (p := p) (c := [(cT x 0).2.c]) (ρ := fr S kk (some (nD0 (cM x))) (some (qD C (cL x))) (some (trD (cT x 0).1)) none none none none none none none none none) (xs := intsD 2) (vs := [6]) (g := gName 6) (body := fBd (nth 4)) (tg := fTg (nth 4)) (it := fIt (nth 4)) (pos := fPs (nth 4))
    (fun i => fr S kk (some (nD0 (cM x))) (some (qD C (cL x))) (some (trD (cT x i).1)) none none none none none none none none none) (fun i => fr S kk (some (nD0 (cM x))) (some (qD C (cL x))) (some (trD (cT x i).1)) (some (nD0 i)) none none none none none none none none) (fun i => [(cT x i).2.c]) PassesOwn.never rfl rfl
    (ri_range (n := 2) G.range re_int (by decide) (by decide)) (pg_name (i := 6) scLaw.nd rfl (Or.inl rfl)) (fun i d h => by
      obtain ⟨rfl, _⟩ := intsD_at h
      exact tg_name (by decide)) (fun i d h => turn_ok L n6 hr)
  refine rss_cons lw ?_
  show RSs _ _ _ (fr S kk (some (nD0 (cM x))) (some (qD C (cL x))) (some (trD (cT x 2).1)) none none none none none none none none none) [(cT x 2).2.c] _ _
  generalize cT x 2 = st at *
  obtain ⟨t, y⟩ := st
  generalize cM x = n at *
  generalize cL x = l at *
  dsimp only at *
  refine rss_cons (c1 := [y.c]) (ρ1 := fr S kk (some (nD0 n)) (some (qD C l)) (some (trD t)) none (some (.lst ⟨false, true⟩ (wD (insT n)))) none none none none none none none) (rs_set (nw := false) 7 scLaw.nd (re_c0 L.txts hr1 (ra_cons (re_var 3) (ra_cons re_str ra_nil)) ⟨bins, n, rfl, n6, by decide, by decide, rfl⟩)) ?_
  have t0 := t_ok (l := l) wk n6 tb ll t_self
  have t1 := t_ok (l := l) wk n6 tb ll (bnt_ok n t y)
  have t2 := t_ok (l := l) wk n6 tb ll (bnt_ok n t (bnt n t y).2)
  have nd := wk.nd
  have lt := rs_for_all (X := cxL P w K mg base f cdv A outer s H E) (W := Wf) (p := p) (c := [y.c]) (ρ := fr S kk (some (nD0 n)) (some (qD C l)) (some (trD t)) none (some (.lst ⟨false, true⟩ (wD (insT n)))) none none none none none none none) (xs := [trD t, (bnt n t y).1, (bnt n t (bnt n t y).2).1]) (vs := [8]) (g := gName 8) (body := fBd (nth 6)) (tg := fTg (nth 6)) (it := fIt (nth 6)) (pos := fPs (nth 6))
    (fun _ => fr S kk (some (nD0 n)) (some (qD C l)) (some (trD t)) none (some (.lst ⟨false, true⟩ (wD (insT n)))) none none none none none none none)
    (fun i => fr S kk (some (nD0 n)) (some (qD C l)) (some (trD t)) none (some (.lst ⟨false, true⟩ (wD (insT n)))) (some ([trD t, (bnt n t y).1, (bnt n t (bnt n t y).2).1].getD i .non)) none none none none none none) (fun i => [(tP (bnt n t (bnt n t y).2).2 n i).c]) PassesOwn.never rfl rfl
    (ri_lst (g := ⟨true, true⟩) (nw := true) (re_lst (ra_cons (re_var 5) (ra_cons (re_c0 (L.bent 35) (hr.mono (by decide)) (ra_cons (re_var 2) (ra_cons (re_var 5) (ra_cons (re_var 3) ra_nil))) ⟨0, n, t, y, rfl, nd, n6, rfl, rfl⟩) (ra_cons (re_c0 (L.bent 35) (hr.mono (by decide)) (ra_cons (re_var 2) (ra_cons (re_var 5) (ra_cons (re_var 3) ra_nil))) ⟨0, n, t, (bnt n t y).2, rfl, nd, n6, rfl, rfl⟩) ra_nil))) (by show 3 ≤ 100000; decide))) (pg_name (i := 8) scLaw.nd rfl (Or.inl rfl)) (fun i d h => ?_) (fun i d h => ?_)
  · refine rss_cons lt (rss_cons (rs_if (kb := false) (end_ok L wk n6 hr) (fun z => nomatch z) fun _ => rss_nil) rss_nil)
  · have e : [trD t, (bnt n t y).1, (bnt n t (bnt n t y).2).1].getD i .non = d := by rw [List.getD_eq_getElem?_getD, h]; rfl
    rw [e]
    exact tg_name (by decide)
  · have e : [trD t, (bnt n t y).1, (bnt n t (bnt n t y).2).1].getD i .non = d := by rw [List.getD_eq_getElem?_getD, h]; rfl
    rw [e]
    have T : TOk n l d := by
      have m := List.mem_of_getElem? h
      simp only [List.mem_cons, List.not_mem_nil, or_false] at m
      rcases m with rfl | rfl | rfl
      · exact t0
      · exact t1
      · exact t2
    exact rss_less (thing_ok G L T hS hk (t0.low 1) hr hg hz) (by repeat (first | exact Less.nil | apply Less.same | apply Less.skip))
theorem low_ints (n : Nat) : ∀ ns : List Int, lowDs n (ns.map D.int) = true
  | [] => rfl
  | a :: r => low_ints n r
theorem cell_ok {g : G} {ns : List Int} {j : Nat} (G : Glb mg) (L : LawD P w K mg base C Cn BI BT BTa) (hr : Room 47 (cxL P w K mg base f cdv A outer s H E).A) (hg : (cxL P w K mg base f cdv A outer s H E).A.guards = some []) :
    RSs (cxL P w K mg base f cdv A outer s H E) Wf ⟨[], []⟩ [some (.lst g (ns.map D.int)), some (.int (j : Nat)), none, none, none, none, none, none, none, none, none, none, none, none, none] [] bCell (.nx (outR (.lst g (ns.map D.int))) []) := by
  refine rso_of (rso_new (g := ⟨true, true⟩) (ds := (poolOf ns (j : Nat)).ds) (c1 := []) 2 (rn_set (W := Wf) 2 scLaw.nd (re_c0 L.pool (hr.mono (by decide)) (ra_cons (re_var 0) (ra_cons (re_var 1) ra_nil)) ⟨g, ns, j, rfl, rfl⟩)) rfl fun a => ?_)
  obtain ⟨c', t⟩ := mid_ok (x := poolOf ns (j : Nat)) (p := HD.muts ⟨[], []⟩ [a]) (S := .lst g (ns.map D.int)) (kk := .int (j : Nat)) (f := f) (cdv := cdv) (A := A) (outer := outer) (s := s) (H := H) (E := E) G L (low_ints 1 ns) rfl hr hg rfl
  exact rso_end 0 t (.nx (.one (low_ints 0 ns) (by repeat (first | exact LowR.nil | apply LowR.non))) rfl) rfl
theorem law_ok {g : G} {ns : List Int} (G : Glb mg) (L : LawD P w K mg base C Cn BI BT BTa) (hr : Room 47 (cxL P w K mg base f cdv A outer s H E).A) (hg : (cxL P w K mg base f cdv A outer s H E).A.guards = some []) (hl : ns.length ≤ 63) :
    RSs (cxL P w K mg base f cdv A outer s H E) Wf ⟨[], []⟩ (outR (.lst g (ns.map D.int))) [] (defBody (top 56)) (.rt (.bl true) true []) := by
  obtain ⟨M, hM1, hM2, hM⟩ : ∃ M : Int, 0 ≤ M ∧ M ≤ 100 ∧ (if (1 : Int) < (if (6 : Int) < ((ns.map D.int).length : Nat) then (6 : Int) else ((ns.map D.int).length : Nat)) then (if (6 : Int) < ((ns.map D.int).length : Nat) then (6 : Int) else ((ns.map D.int).length : Nat)) else 1) = M := by
    refine ⟨_, ?_, ?_, rfl⟩
    · split <;> split <;> omega
    · split <;> split <;> omega
  have h := rs_for_all (X := cxL P w K mg base f cdv A outer s H E) (W := Wf) (p := ⟨[], []⟩) (c := []) (ρ := outR (.lst g (ns.map D.int))) (xs := intsD M.toNat) (vs := [1]) (g := gName 1) (body := bCell)
    (tg := match defBody (top 56) with | .For t _ _ _ _ :: _ => t | _ => .Constant .none 0 ⟨0, 0, 0, 0⟩) (it := match defBody (top 56) with | .For _ t _ _ _ :: _ => t | _ => .Constant .none 0 ⟨0, 0, 0, 0⟩) (pos := match defBody (top 56) with | .For _ _ _ _ q :: _ => q | _ => ⟨0, 0, 0, 0⟩)
    (fun _ => outR (.lst g (ns.map D.int))) (fun i => [some (.lst g (ns.map D.int)), some (.int (i : Nat)), none, none, none, none, none, none, none, none, none, none, none, none, none]) (fun _ => []) PassesOwn.never rfl rfl
    (by
      rw [← hM]
      refine ri_range G.range (re_callB (call_max2 rfl) G.max PyProof.Rows.boot_max (ra_cons re_int (ra_cons (re_callB (call_min2 rfl) G.min PyProof.Rows.boot_min (ra_cons (re_callB call_len G.len PySem.boot_len (ra_cons (re_var 0) ra_nil) cv_lenL) (ra_cons re_int ra_nil)) cv_min2) ra_nil)) cv_max2) ?_ ?_
      · rw [show (_ : Int) = M from hM]
        omega
      · rw [show (_ : Int) = M from hM]
        omega) (pg_name (i := 1) scLaw.nd rfl (Or.inl rfl)) (fun i d h => by
      obtain ⟨rfl, _⟩ := intsD_at h
      exact tg_name (by decide)) (fun i d h => cell_ok G L hr hg)
  exact rss_cons h (rss_ret (rs_ret re_bl))
end
end K35

namespace K35
open PySem PySem.Spec PyProof.Rows L2 LA
/-- all that the end asks of the text -/
structure Txt (K : PySem.W.Frag) : Prop where
  free : ∀ x ∈ (["len", "int", "range", "list", "str", "isinstance", "all", "repr", "min", "max", "zip", "iter", "tuple", "bool"] : List Str), PySem.W.nsIn K mainGlobals x = some none
  most : ∃ t, PySem.W.nsIn K mainGlobals "MOST" = some (some (.int 6 t))
  t_LENGTHS : ∃ (T : Addr) (o : Obj) (its : Array Value) (n : Nat), PySem.W.nsIn K mainGlobals "LENGTHS" = some (some (.ref T)) ∧ K.lookup T = some o ∧ o.cls = .type "tuple" ∧ o.dict = none ∧ o.data = .seq its n ∧ its.size ≤ sizeLine ∧ Vals ((lensZ : List Int).map V.int) its.toList
  err : ∃ BTa BI Cn BT Lk C : Addr, Ge K "BadTable" "BadTable.__init__" (inClass (top 4) 0) BTa ∧
    PySem.W.findIn K (.ref BTa) "given" = some none ∧
    Ge K "BadInput" "BadInput.__init__" (inClass (top 3) 0) BI ∧
    PySem.W.findIn K (.ref BI) "given" = some none ∧
    Ge K "BadCount" "BadCount.__init__" (inClass (top 5) 0) Cn ∧
    PySem.W.findIn K (.ref Cn) "given" = some none ∧
    Ge K "BadTree" "BadTree.__init__" (inClass (top 7) 0) BT ∧
    PySem.W.findIn K (.ref BT) "given" = some none ∧
    PySem.W.subIn K (.ref Cn) (.ref Cn) = some true ∧
    PySem.W.subIn K (.ref BI) (.ref Cn) = some false ∧
    PySem.W.subIn K (.ref BI) (.ref BI) = some true ∧
    PySem.W.subIn K (.ref BT) (.ref Cn) = some false ∧
    PySem.W.subIn K (.ref BT) (.ref BI) = some false ∧
    PySem.W.subIn K (.ref BT) (.ref BT) = some true ∧
    PySem.W.nsIn K mainGlobals "LooksError" = some (some (.ref Lk)) ∧
    Gc K "Question" "Question.__init__" (inClass (top 23) 0) C ∧
    PySem.W.findIn K (.ref C) "_table" = some none ∧
    PySem.W.findIn K (.ref C) "_many" = some none ∧
    PySem.W.findIn K (.ref C) "_yes" = some none ∧
    Gp K C "table" "Question.table" (inClass (top 23) 1) ∧
    Gp K C "many" "Question.many" (inClass (top 23) 2) ∧
    Gm K C "__call__" "Question.__call__" (inClass (top 23) 5) ∧
    Gcm K C "of" "Question.of" (inClass (top 23) 25)
  c12 : Gd K "check_count" (top 12) 6
  f10 : Gf K "is_whole" (top 10)
  f11 : Gf K "is_position" (top 11)
  f14 : Gf K "is_input" (top 14)
  f15 : Gf K "inputs" (top 15)
  f16 : Gf K "branches" (top 16)
  f17 : Gf K "check_input_of" (top 17)
  f18 : Gf K "_is_word" (top 18)
  f19 : Gf K "_words" (top 19)
  f20 : Gf K "_replaced" (top 20)
  f24 : Gf K "_is_table" (top 24)
  f25 : Gf K "_table_of" (top 25)
  f26 : Gf K "_place" (top 26)
  f29 : Gf K "is_tree" (top 29)
  f30 : Gf K "looked" (top 30)
  f31 : Gf K "tree_answer" (top 31)
  f32 : Gf K "depth" (top 32)
  f33 : Gf K "leaves" (top 33)
  f34 : Gf K "tree_question" (top 34)
  f35 : Gf K "wrong_input" (top 35)
  f36 : Gf K "check_tree" (top 36)
  f37 : Gf K "_is_tree" (top 37)
  f38 : Gf K "_check_way" (top 38)
  f39 : Gf K "_gone" (top 39)
  f40 : Gf K "_end" (top 40)
  f41 : Gf K "_depth" (top 41)
  f42 : Gf K "_leaves" (top 42)
  f44 : Gf K "_law_pool" (top 44)
  f45 : Gf K "_law_draw" (top 45)
  f46 : Gf K "_law_strings" (top 46)
  f47 : Gf K "_law_table" (top 47)
  f48 : Gf K "_law_tree" (top 48)
  f49 : Gf K "_law_walk" (top 49)
  f50 : Gf K "_law_is_tree" (top 50)
  f51 : Gf K "_law_depth" (top 51)
  f52 : Gf K "_law_bent" (top 52)
  f53 : Gf K "_law_ends" (top 53)
  f54 : Gf K "_law_told" (top 54)
  f55 : Gf K "_law_due" (top 55)
  f56 : Gf K "law" (top 56)
section
variable {P : Program} {w : World} {K : PySem.W.Frag} {mg : Str → Option Value} {base h : Heap}
theorem runL {fa : Addr} (T : Txt K) (X : K.In h) (G : h.Ns mainGlobals mg) (hfa : mg "law" = some (.ref fa)) {s0 : Shared} {H : Hp} {a : Addr} {ns : List Int} (e0 : Env0 P w K mg base callerA [] s0 H) (sq : SqL K H a (ns.map V.int)) (hl : ns.length ≤ 63) :
    codeAny (model P w) callerA (.call (.ref fa) ⟨[.ref a], []⟩) (CR CX0 [] P w H s0 (fun v _ => v = .bl true) fun _ _ _ => False) s0 := by
  have fr := fun x (m : x ∈ (["len", "int", "range", "list", "str", "isinstance", "all", "repr", "min", "max", "zip", "iter", "tuple", "bool"] : List Str)) => PySem.W.mg_none_of X G (T.free x m)
  have Gb : Glb mg := ⟨fr "len" (by decide), fr "int" (by decide), fr "range" (by decide), fr "list" (by decide), fr "str" (by decide), fr "isinstance" (by decide), fr "all" (by decide), fr "repr" (by decide), fr "min" (by decide), fr "max" (by decide), fr "zip" (by decide), fr "iter" (by decide), fr "tuple" (by decide), fr "bool" (by decide)⟩
  obtain ⟨tkM, hM⟩ := T.most
  have hM := PySem.W.mg_of X G hM
  have t_LENGTHS : CTup K mg "LENGTHS" lensZ := ctup X G T.t_LENGTHS
  obtain ⟨BTa, BI, Cn, BT, Lk, C, gT, ngT_given, gI, ngI_given, gN, ngN_given, gR, ngR_given, sNN, sIN, sII, sRN, sRI, sRR, aL, qc, qt, qm, qy, pt, pm, mc, k5⟩ := T.err
  have E_gT : Err1 P w K mg base "BadTable" "given" BTa := err1 X G gT ngT_given ⟨rfl, rfl, rfl, by decide +kernel, rfl, by decide +kernel, by decide +kernel⟩ rfl (by decide) (by decide) fun _ _ _ _ _ _ us hl => match us, hl with | [_, _], _ => rfl
  have E_gI : Err1 P w K mg base "BadInput" "given" BI := err1 X G gI ngI_given ⟨rfl, rfl, rfl, by decide +kernel, rfl, by decide +kernel, by decide +kernel⟩ rfl (by decide) (by decide) fun _ _ _ _ _ _ us hl => match us, hl with | [_, _], _ => rfl
  have E_gN : Err1 P w K mg base "BadCount" "given" Cn := err1 X G gN ngN_given ⟨rfl, rfl, rfl, by decide +kernel, rfl, by decide +kernel, by decide +kernel⟩ rfl (by decide) (by decide) fun _ _ _ _ _ _ us hl => match us, hl with | [_, _], _ => rfl
  have E_gR : Err1 P w K mg base "BadTree" "given" BT := err1 X G gR ngR_given ⟨rfl, rfl, rfl, by decide +kernel, rfl, by decide +kernel, by decide +kernel⟩ rfl (by decide) (by decide) fun _ _ _ _ _ _ us hl => match us, hl with | [_, _], _ => rfl
  have mL := PySem.W.mg_of X G aL
  have XF : ExF K Cn BI BT := ⟨PySem.W.exm_ref gN.xf.exC gN.xf.hdC gN.ox.tyC sNN, PySem.W.exm_ref gN.xf.exC gN.xf.hdC gN.ox.tyC sIN, PySem.W.exm_ref gI.xf.exC gI.xf.hdC gI.ox.tyC sII, PySem.W.exm_ref gN.xf.exC gN.xf.hdC gN.ox.tyC sRN, PySem.W.exm_ref gI.xf.exC gI.xf.hdC gI.ox.tyC sRI, PySem.W.exm_ref gR.xf.exC gR.xf.hdC gR.ox.tyC sRR⟩
  have mQ := PySem.W.mg_of X G qc.ns
  have Q : QC K C := ⟨qc.cl, qt, qm, qy⟩
  have D45 : DrawD P w K mg base := def0 X G T.f45 (fun f fd F => ok_draw Gb F) fun _ _ _ _ _ _ us hl => match us, hl with | [_, _], _ => rfl
  have D44 : PoolD P w K mg base := def0 X G T.f44 (fun f fd F => ok_pool Gb F) fun _ _ _ _ _ _ us hl => match us, hl with | [_, _], _ => rfl
  have D18 : WordD P w K mg base := def0 X G T.f18 (fun f fd F => ok_word Gb hM F) fun _ _ _ _ _ _ us hl => match us, hl with | [_, _], _ => rfl
  have D14 : IsInD P w K mg base := def0 X G T.f14 (fun f fd F => ok_isIn D18 F) fun _ _ _ _ _ _ us hl => match us, hl with | [_], _ => rfl
  have D10 : WholeD P w K mg base := def0 X G T.f10 (fun f fd F => ok_whole Gb F) fun _ _ _ _ _ _ us hl => match us, hl with | [_], _ => rfl
  have D11 : PosD P w K mg base := def0 X G T.f11 (fun f fd F => ok_pos D10 F) fun _ _ _ _ _ _ us hl => match us, hl with | [_, _], _ => rfl
  have D19 : WordsD P w K mg base := def0 X G T.f19 (fun f fd F => ok_words F) fun _ _ _ _ _ _ us hl => match us, hl with | [_], _ => rfl
  have D12 : CntD P w K mg base Cn := by
    obtain ⟨f, fd, a8, F⟩ := T.c12.ex
    obtain ⟨ds, v8, b8⟩ := F.binds1 (ps := ["many", "most"]) 1 0 (by simp) rfl fun T kV doc pm an cdv ct us its h1 h2 => match us, its, h1, h2 with | [_], [_], _, _ => ⟨_, rfl, rfl⟩
    exact ⟨⟨f, fd, ds, ok_cnt D11 E_gN F, PySem.W.mg_of X G a8, F.kp, v8, b8⟩⟩
  have D15 : AllD P w K mg base Cn "inputs" bins := def1 X G T.f15 (fun f fd F => ok_inputs D12 D19 F) fun _ _ _ _ _ _ us hl => match us, hl with | [_], _ => rfl
  have D17 : InOfD P w K mg base BI := def1 X G T.f17 (fun f fd F => ok_inOf Gb D14 E_gI F) fun _ _ _ _ _ _ us hl => match us, hl with | [_, _], _ => rfl
  have D24 : TabD P w K mg base := def0 X G T.f24 (fun f fd F => ok_isTab Gb t_LENGTHS F) fun _ _ _ _ _ _ us hl => match us, hl with | [_], _ => rfl
  have D25 : TabOfD P w K mg base := def0 X G T.f25 (fun f fd F => ok_tabOf F) fun _ _ _ _ _ _ us hl => match us, hl with | [_], _ => rfl
  have D26 : PlaceD P w K mg base := def0 X G T.f26 (fun f fd F => ok_place Gb F) fun _ _ _ _ _ _ us hl => match us, hl with | [_], _ => rfl
  obtain ⟨fi0, fdi0, Mk0, F0⟩ := qc.ini
  have TQ : QMk P w K mg base C BTa := ⟨⟨fi0, fdi0, Mk0, ok_ini Gb t_LENGTHS Q D24 D15 E_gT F0, F0.binds (ps := ["self", "table"]) fun _ _ _ _ _ _ us hl => match us, hl with | [_, _], _ => rfl⟩, mQ⟩
  have PT : QProp P w K mg base C "table" (tableR C) := by
    obtain ⟨p1, g1, fd1, h1, F1⟩ := pt.ex
    exact ⟨p1, g1, fd1, h1, ok_table Q F1, F1.binds (ps := ["self"]) fun _ _ _ _ _ _ us hl => match us, hl with | [_], _ => rfl⟩
  have PM : QProp P w K mg base C "many" (manyR C) := by
    obtain ⟨p1, g1, fd1, h1, F1⟩ := pm.ex
    exact ⟨p1, g1, fd1, h1, ok_many Q F1, F1.binds (ps := ["self"]) fun _ _ _ _ _ _ us hl => match us, hl with | [_], _ => rfl⟩
  have QCl : QCall P w K mg base C BI := by
    obtain ⟨g1, fd1, h1, h2, h3, F1⟩ := mc.ex
    exact ⟨g1, fd1, ⟨h1, h2, h3⟩, ok_call Gb Q D26 D17 F1, F1.binds (ps := ["self", "text"]) fun _ _ _ _ _ _ us hl => match us, hl with | [_, _], _ => rfl⟩
  have PO : CMeth P w K mg base C "of" 7 ["cls", "many", "yes"] (ofR C Cn BI) 2 [] app2 app2V := by
          obtain ⟨p1, g1, fd1, h1, h2, F1⟩ := k5.ex
          exact ⟨_, p1, g1, fd1, h1, h2, ok_of D12 D17 D15 D25 TQ F1, kbn_of F1 (fun _ _ _ _ _ _ us ws h1 h2 => match us, ws, h1, h2 with | [_, _, _], [], _, _ => rfl) vals_app⟩
  have D37 : Def0 P w K mg base 43 "_is_tree" ["value", "many"] (isTR 40) := by
    obtain ⟨f1, fd1, a1, F1⟩ := T.f37.ex
    have hm := PySem.W.mg_of X G a1
    have hb := F1.binds (ps := ["value", "many"]) (fun _ _ _ _ _ _ us hl => match us, hl with | [_, _], _ => rfl)
    exact ⟨⟨f1, fd1, ok_isT Gb D11 F1 hm hb 40, hm, F1.kp, hb⟩⟩
  have D36 : CkD P w K mg base BT := def1 X G T.f36 (fun f fd F => ok_ck D37 E_gR F) fun _ _ _ _ _ _ us hl => match us, hl with | [_, _], _ => rfl
  have D41 : Def0 P w K mg base 41 "_depth" ["tree"] (depR 40) := by
    obtain ⟨f1, fd1, a1, F1⟩ := T.f41.ex
    have hm := PySem.W.mg_of X G a1
    have hb := F1.binds (ps := ["tree"]) (fun _ _ _ _ _ _ us hl => match us, hl with | [_], _ => rfl)
    exact ⟨⟨f1, fd1, ok_dep Gb F1 hm hb 40, hm, F1.kp, hb⟩⟩
  have D20 : RepD P w K mg base := def0 X G T.f20 (fun f fd F => ok_rep F) fun _ _ _ _ _ _ us hl => match us, hl with | [_, _, _], _ => rfl
  have D16 : BrD P w K mg base := def0 X G T.f16 (fun f fd F => ok_br D20 F) fun _ _ _ _ _ _ us hl => match us, hl with | [_, _], _ => rfl
  have D42 : Def0 P w K mg base 43 "_leaves" ["tree", "pattern"] (lvR 40) := by
    obtain ⟨f1, fd1, a1, F1⟩ := T.f42.ex
    have hm := PySem.W.mg_of X G a1
    have hb := F1.binds (ps := ["tree", "pattern"]) (fun _ _ _ _ _ _ us hl => match us, hl with | [_, _], _ => rfl)
    exact ⟨⟨f1, fd1, ok_lv Gb D16 F1 hm hb 40, hm, F1.kp, hb⟩⟩
  have D39 : GoneD P w K mg base := def0 X G T.f39 (fun f fd F => ok_gone Gb F) fun _ _ _ _ _ _ us hl => match us, hl with | [_, _], _ => rfl
  have D40 : EndD P w K mg base := def0 X G T.f40 (fun f fd F => ok_end D39 F) fun _ _ _ _ _ _ us hl => match us, hl with | [_, _], _ => rfl
  have D39p : GnP P w K mg base := by
    obtain ⟨f1, fd1, a1, F1⟩ := T.f39.ex
    exact ⟨⟨f1, fd1, ok_goneP Gb F1, PySem.W.mg_of X G a1, F1.kp, F1.binds (ps := ["tree", "text"]) (fun _ _ _ _ _ _ us hl => match us, hl with | [_, _], _ => rfl)⟩⟩
  have D38 : CwD P w K mg base BI BT := def1 X G T.f38 (fun f fd F => ok_cw Gb D14 D36 E_gI F) fun _ _ _ _ _ _ us hl => match us, hl with | [_, _], _ => rfl
  have D29 : Def1K P w K mg base 44 "is_tree" ["many", "value"] (itR Cn) 1 ["value"] app2 app2V := by
    obtain ⟨f1, fd1, a1, F1⟩ := T.f29.ex
    exact ⟨⟨f1, fd1, ok_it D12 D37 F1, PySem.W.mg_of X G a1, F1.kp, kbn_of F1 (fun _ _ _ _ _ _ us ws h1 h2 => match us, ws, h1, h2 with | [_], [_], _, _ => rfl) vals_app⟩⟩
  have D30 : Def1K P w K mg base 46 "looked" ["tree", "text"] (lkR BI BT) 1 ["text"] app2 app2V := by
    obtain ⟨f1, fd1, a1, F1⟩ := T.f30.ex
    exact ⟨⟨f1, fd1, ok_lk D38 D39p F1, PySem.W.mg_of X G a1, F1.kp, kbn_of F1 (fun _ _ _ _ _ _ us ws h1 h2 => match us, ws, h1, h2 with | [_], [_], _, _ => rfl) vals_app⟩⟩
  have D31 : TaD P w K mg base BI BT := def1 X G T.f31 (fun f fd F => ok_ta D38 D40 F) fun _ _ _ _ _ _ us hl => match us, hl with | [_, _], _ => rfl
  have D32 : Def1 P w K mg base 45 "depth" ["tree"] (dpX BT) := def1 X G T.f32 (fun f fd F => ok_dpX hM D36 D41 F) fun _ _ _ _ _ _ us hl => match us, hl with | [_], _ => rfl
  have D33 : Def1K P w K mg base 45 "leaves" ["many", "tree"] (leR Cn BT) 1 ["tree"] app2 app2V := by
    obtain ⟨f1, fd1, a1, F1⟩ := T.f33.ex
    exact ⟨⟨f1, fd1, ok_le D12 D36 D42 F1, PySem.W.mg_of X G a1, F1.kp, kbn_of F1 (fun _ _ _ _ _ _ us ws h1 h2 => match us, ws, h1, h2 with | [_], [_], _, _ => rfl) vals_app⟩⟩
  have D34 : Def1 P w K mg base 45 "tree_question" ["many", "tree"] (tqX C Cn BT) := def1 X G T.f34 (fun f fd F => ok_tqX mQ D12 D36 D15 D40 PO F) fun _ _ _ _ _ _ us hl => match us, hl with | [_, _], _ => rfl
  have D35 : Def1 P w K mg base 45 "wrong_input" ["question", "tree"] (wrR C BT) := def1 X G T.f35 (fun f fd F => ok_wr Gb Q PM QCl D36 D15 D40 F) fun _ _ _ _ _ _ us hl => match us, hl with | [_, _], _ => rfl
  have TL : TlD P w K mg base C Cn BI BT := ⟨D29, D30, D31, D32, D33, D34, D35⟩
  have D46 : StrsD P w K mg base := def0 X G T.f46 (fun f fd F => ok_strs Gb F) fun _ _ _ _ _ _ us hl => match us, hl with | [_, _], _ => rfl
  have D47 : TablD P w K mg base := def0 X G T.f47 (fun f fd F => ok_tabl Gb D45 D46 F) fun _ _ _ _ _ _ us hl => match us, hl with | [_, _], _ => rfl
  have D48 : ∀ r, Def0 P w K mg base (r + 2) "_law_tree" ["_law_pool_here", "_law_many", "_law_room"] (treeR r) := by
    obtain ⟨f1, fd1, a1, F1⟩ := T.f48.ex
    have hm := PySem.W.mg_of X G a1
    have hb := F1.binds (ps := ["_law_pool_here", "_law_many", "_law_room"]) (fun _ _ _ _ _ _ us hl => match us, hl with | [_, _, _], _ => rfl)
    exact fun r => ⟨⟨f1, fd1, ok_tree D45 F1 hm hb r, hm, F1.kp, hb⟩⟩
  have D49 : WaD P w K mg base := def0 X G T.f49 (fun f fd F => ok_wa Gb F) fun _ _ _ _ _ _ us hl => match us, hl with | [_, _], _ => rfl
  have D50 : Def0 P w K mg base 41 "_law_is_tree" ["_law_many", "_law_thing"] (litR 40) := by
    obtain ⟨f1, fd1, a1, F1⟩ := T.f50.ex
    have hm := PySem.W.mg_of X G a1
    have hb := F1.binds (ps := ["_law_many", "_law_thing"]) (fun _ _ _ _ _ _ us hl => match us, hl with | [_, _], _ => rfl)
    exact ⟨⟨f1, fd1, ok_lit Gb F1 hm hb 40, hm, F1.kp, hb⟩⟩
  have D51 : Def0 P w K mg base 41 "_law_depth" ["_law_shape"] (depR 40) := by
    obtain ⟨f1, fd1, a1, F1⟩ := T.f51.ex
    have hm := PySem.W.mg_of X G a1
    have hb := F1.binds (ps := ["_law_shape"]) (fun _ _ _ _ _ _ us hl => match us, hl with | [_], _ => rfl)
    exact ⟨⟨f1, fd1, ok_ld Gb F1 hm hb 40, hm, F1.kp, hb⟩⟩
  have D52 : ∀ r, Def0 P w K mg base (r + 2) "_law_bent" ["_law_pool_here", "_law_shape", "_law_many"] (bntR r) := by
    obtain ⟨f1, fd1, a1, F1⟩ := T.f52.ex
    have hm := PySem.W.mg_of X G a1
    have hb := F1.binds (ps := ["_law_pool_here", "_law_shape", "_law_many"]) (fun _ _ _ _ _ _ us hl => match us, hl with | [_, _, _], _ => rfl)
    exact fun r => ⟨⟨f1, fd1, ok_bn Gb D45 F1 hm hb r, hm, F1.kp, hb⟩⟩
  have D53 : Def0 P w K mg base 41 "_law_ends" ["_law_shape", "_law_pattern"] (endsR 40) := by
    obtain ⟨f1, fd1, a1, F1⟩ := T.f53.ex
    have hm := PySem.W.mg_of X G a1
    have hb := F1.binds (ps := ["_law_shape", "_law_pattern"]) (fun _ _ _ _ _ _ us hl => match us, hl with | [_, _], _ => rfl)
    exact ⟨⟨f1, fd1, ok_ends Gb F1 hm hb 40, hm, F1.kp, hb⟩⟩
  have D54 : ToldD P w K mg base C Cn BI BT := def0 X G T.f54 (fun f fd F => ok_told Q PT E_gN E_gI E_gR XF mL TL F) fun _ _ _ _ _ _ us hl => match us, hl with | [_, _, _], _ => rfl
  have DU : DuF P w K mg base C := ⟨Q, PT, PM, D46, D49, D50, D51, D53⟩
  have D55 : DueD P w K mg base C := def0 X G T.f55 (fun f fd F => ok_due Gb DU F) fun _ _ _ _ _ _ us hl => match us, hl with | [_, _, _, _], _ => rfl
  have LD : LawD P w K mg base C Cn BI BT BTa := ⟨D44, D45, D47, TQ, D48, D46, D52, D54, D55, D34, Q, PT⟩
  obtain ⟨f, fd, aF, F⟩ := T.f56.ex
  cases hfa.symm.trans (PySem.W.mg_of X G aF)
  have bd : BindsTo s0 fd ⟨[.ref a], []⟩ ((["_law_script"] : List Str).zip [.ref a]) := by
    obtain ⟨oc, od, kV, doc, pm, an, cdv, ct, osl, rfl, _⟩ := F.ex
    exact .of_eq rfl
  refine call_at (k := 47) (vs := [.ref a]) F scLaw ⟨rfl, by decide, by decide⟩ e0 bd (.cons rfl .nil) rfl fun cdv hr => ?_
  refine ⟨_, (law_ok (f := fa) (cdv := cdv) (A := callerA) (outer := []) (s := s0) (H := H) (E := fun _ _ _ => False) (g := ⟨false, false⟩) (ns := ns) Gb LD hr rfl hl).nox, ?_, fun v H1 e1 p1 dv _ => ?_⟩
  · exact sr_start (N := nLaw) (dvs_script sq) pool_none
  · cases dv
    rfl
end
theorem walkL {l : PySem.W.OpenLaw} {q : Program} {loose : List Str} {XP : (Str → Option Value) → Heap → Prop} {YP : World → Heap → Prop} {d : DefRec} {K : Params → PySem.W.Frag} (hn : l.most = some 63) (hdf : d.params.defaults = []) (hd : d.name = "law")
    (hY : ∀ (w : World) (h : Heap), YP w h → (K w.params).In h) (F : ∀ w : World, Txt (K w.params)) : PySem.W.WalkO q loose XP YP l.row.toRowW d [] (fun f vs => PySem.call f vs) := by
  refine Att.attach_call hn hdf fun w s₀ s₁ mg mb fa o pm cd doc a vs ns G Y ho hd' hcd hmg hobj hints hlen hg => ?_
  have KX := hY w _ Y
  rw [hd] at hmg
  exact law_at KX G.T.g G.T.b G.T.builtins G.T.nolimit hg hobj hints (Nat.le_trans hlen (by decide)) fun base H _ _ e0 sq => runL (F w) KX G.T.g hmg e0 sq hlen
end K35

open PySem PySem.W PyProof.Rows
set_option maxRecDepth 100000 in
set_option maxHeartbeats 0 in
theorem PySem.Challenge.cw_leastlooks_k35_trees_gone_along_holds : PySem.Challenge.rw_leastlooks_k35_trees_gone_along.Holds := by
  w_on; o_law; k_head; (case hw => w_witness2)
  k_fill
  refine K35.walkL (l := PySem.Challenge.rw_leastlooks_k35_trees_gone_along) rfl rfl rfl (fun w h Y => PySem.W.kIn_of Y) ?F
  case F =>
    intro w
    refine' ⟨?free, ?most, ?t_LENGTHS, ?err, ?c12, ?f10, ?f11, ?f14, ?f15, ?f16, ?f17, ?f18, ?f19, ?f20, ?f24, ?f25, ?f26, ?f29, ?f30, ?f31, ?f32, ?f33, ?f34, ?f35, ?f36, ?f37, ?f38, ?f39, ?f40, ?f41, ?f42, ?f44, ?f45, ?f46, ?f47, ?f48, ?f49, ?f50, ?f51, ?f52, ?f53, ?f54, ?f55, ?f56⟩
    case free =>
      intro x hx
      simp only [List.mem_cons, List.not_mem_nil, or_false] at hx
      rcases hx with rfl | rfl | rfl | rfl | rfl | rfl | rfl | rfl | rfl | rfl | rfl | rfl | rfl | rfl
      all_goals k_is
    case most => exact ⟨_, by k_is⟩
    case t_LENGTHS =>
      refine' LA.ct_mk ?a ?l ?z ?v
      (case a => k_is); (case l => k_is); (case z => decide +kernel)
      case v => exact LA.vi_cons (LA.vi_cons (LA.vi_cons (LA.vi_cons (LA.vi_cons (LA.vi_cons (LA.vi_cons (LA.vi_nil)))))))
    case err =>
      refine' ⟨_, _, _, _, _, _, LA.ge_mk ?gT1 ?gT2 ?gT3 ?gT4 ?gT5 ?gT6 ?gT7 ?gT8 ?gT9 ?gT10 ?gT11 ?gT12 ?gT13 ?gT14 ?gT15, LA.fac ?ngT_given, LA.ge_mk ?gI1 ?gI2 ?gI3 ?gI4 ?gI5 ?gI6 ?gI7 ?gI8 ?gI9 ?gI10 ?gI11 ?gI12 ?gI13 ?gI14 ?gI15, LA.fac ?ngI_given, LA.ge_mk ?gN1 ?gN2 ?gN3 ?gN4 ?gN5 ?gN6 ?gN7 ?gN8 ?gN9 ?gN10 ?gN11 ?gN12 ?gN13 ?gN14 ?gN15, LA.fac ?ngN_given, LA.ge_mk ?gR1 ?gR2 ?gR3 ?gR4 ?gR5 ?gR6 ?gR7 ?gR8 ?gR9 ?gR10 ?gR11 ?gR12 ?gR13 ?gR14 ?gR15, LA.fac ?ngR_given, LA.fac ?sNN, LA.fac ?sIN, LA.fac ?sII, LA.fac ?sRN, LA.fac ?sRI, LA.fac ?sRR, LA.gn_mk ?aL, LA.gc_mk ?qc1 ?qc2 ?qc3 ?qc4 ?qc5 ?qc6 ?qc7 ?qc8 ?qc9 ?qc10 ?qc11 ?qc12, LA.fac ?qt, LA.fac ?qm, LA.fac ?qy, LA.gp_mk ?pt1 ?pt2 ?pt3 ?pt4 ?pt5 ?pt6 ?pt7, LA.gp_mk ?pm1 ?pm2 ?pm3 ?pm4 ?pm5 ?pm6 ?pm7, LA.gm_mk ?mc1 ?mc2 ?mc3 ?mc4 ?mc5, LA.gcm_mk ?k51 ?k52 ?k53 ?k54 ?k55 ?k56 ?k57⟩
      (case gT1 => k_is)
      (case gT2 => k_is)
      (case gT3 => decide +kernel)
      (case gT4 => k_is)
      (case gT5 => k_is)
      (case gT6 => k_is)
      (case gT7 => k_is)
      (case gT8 => k_is)
      (case gT9 => k_is)
      (case gT10 => k_is)
      (case gT11 => k_is)
      (case gT12 => k_is)
      (case gT13 => k_is)
      (case gT14 => k_is)
      (case gT15 => k_is)
      (case ngT_given => k_is)
      (case gI1 => k_is)
      (case gI2 => k_is)
      (case gI3 => decide +kernel)
      (case gI4 => k_is)
      (case gI5 => k_is)
      (case gI6 => k_is)
      (case gI7 => k_is)
      (case gI8 => k_is)
      (case gI9 => k_is)
      (case gI10 => k_is)
      (case gI11 => k_is)
      (case gI12 => k_is)
      (case gI13 => k_is)
      (case gI14 => k_is)
      (case gI15 => k_is)
      (case ngI_given => k_is)
      (case gN1 => k_is)
      (case gN2 => k_is)
      (case gN3 => decide +kernel)
      (case gN4 => k_is)
      (case gN5 => k_is)
      (case gN6 => k_is)
      (case gN7 => k_is)
      (case gN8 => k_is)
      (case gN9 => k_is)
      (case gN10 => k_is)
      (case gN11 => k_is)
      (case gN12 => k_is)
      (case gN13 => k_is)
      (case gN14 => k_is)
      (case gN15 => k_is)
      (case ngN_given => k_is)
      (case gR1 => k_is)
      (case gR2 => k_is)
      (case gR3 => decide +kernel)
      (case gR4 => k_is)
      (case gR5 => k_is)
      (case gR6 => k_is)
      (case gR7 => k_is)
      (case gR8 => k_is)
      (case gR9 => k_is)
      (case gR10 => k_is)
      (case gR11 => k_is)
      (case gR12 => k_is)
      (case gR13 => k_is)
      (case gR14 => k_is)
      (case gR15 => k_is)
      (case ngR_given => k_is)
      (case sNN => first | rfl | k_is)
      (case sIN => first | rfl | k_is)
      (case sII => first | rfl | k_is)
      (case sRN => first | rfl | k_is)
      (case sRI => first | rfl | k_is)
      (case sRR => first | rfl | k_is)
      (case aL => k_is)
      (case qc1 => k_is)
      (case qc2 => k_is)
      (case qc3 => k_is)
      (case qc4 => k_is)
      (case qc5 => k_is)
      (case qc6 => k_is)
      (case qc7 => k_is)
      (case qc8 => k_is)
      (case qc9 => k_is)
      (case qc10 => k_is)
      (case qc11 => k_is)
      (case qc12 => k_is)
      (case qt => k_is)
      (case qm => k_is)
      (case qy => k_is)
      (case pt1 => k_is)
      (case pt2 => k_is)
      (case pt3 => k_is)
      (case pt4 => k_is)
      (case pt5 => k_is)
      (case pt6 => k_is)
      (case pt7 => k_is)
      (case pm1 => k_is)
      (case pm2 => k_is)
      (case pm3 => k_is)
      (case pm4 => k_is)
      (case pm5 => k_is)
      (case pm6 => k_is)
      (case pm7 => k_is)
      (case mc1 => k_is)
      (case mc2 => k_is)
      (case mc3 => k_is)
      (case mc4 => k_is)
      (case mc5 => k_is)
      (case k51 => k_is)
      (case k52 => k_is)
      (case k53 => k_is)
      (case k54 => k_is)
      (case k55 => k_is)
      (case k56 => k_is)
      (case k57 => k_is)
    case c12 =>
      refine' LA.gd_mk ?a ?l ?lT ?c ?k
      (case a => k_is); (case l => k_is); (case lT => k_is); (case c => k_is); (case k => k_is)
    case f10 =>
      refine' LA.gf_mk ?a ?l ?c ?k
      (case a => k_is); (case l => k_is); (case c => k_is); (case k => k_is)
    case f11 =>
      refine' LA.gf_mk ?a ?l ?c ?k
      (case a => k_is); (case l => k_is); (case c => k_is); (case k => k_is)
    case f14 =>
      refine' LA.gf_mk ?a ?l ?c ?k
      (case a => k_is); (case l => k_is); (case c => k_is); (case k => k_is)
    case f15 =>
      refine' LA.gf_mk ?a ?l ?c ?k
      (case a => k_is); (case l => k_is); (case c => k_is); (case k => k_is)
    case f16 =>
      refine' LA.gf_mk ?a ?l ?c ?k
      (case a => k_is); (case l => k_is); (case c => k_is); (case k => k_is)
    case f17 =>
      refine' LA.gf_mk ?a ?l ?c ?k
      (case a => k_is); (case l => k_is); (case c => k_is); (case k => k_is)
    case f18 =>
      refine' LA.gf_mk ?a ?l ?c ?k
      (case a => k_is); (case l => k_is); (case c => k_is); (case k => k_is)
    case f19 =>
      refine' LA.gf_mk ?a ?l ?c ?k
      (case a => k_is); (case l => k_is); (case c => k_is); (case k => k_is)
    case f20 =>
      refine' LA.gf_mk ?a ?l ?c ?k
      (case a => k_is); (case l => k_is); (case c => k_is); (case k => k_is)
    case f24 =>
      refine' LA.gf_mk ?a ?l ?c ?k
      (case a => k_is); (case l => k_is); (case c => k_is); (case k => k_is)
    case f25 =>
      refine' LA.gf_mk ?a ?l ?c ?k
      (case a => k_is); (case l => k_is); (case c => k_is); (case k => k_is)
    case f26 =>
      refine' LA.gf_mk ?a ?l ?c ?k
      (case a => k_is); (case l => k_is); (case c => k_is); (case k => k_is)
    case f29 =>
      refine' LA.gf_mk ?a ?l ?c ?k
      (case a => k_is); (case l => k_is); (case c => k_is); (case k => k_is)
    case f30 =>
      refine' LA.gf_mk ?a ?l ?c ?k
      (case a => k_is); (case l => k_is); (case c => k_is); (case k => k_is)
    case f31 =>
      refine' LA.gf_mk ?a ?l ?c ?k
      (case a => k_is); (case l => k_is); (case c => k_is); (case k => k_is)
    case f32 =>
      refine' LA.gf_mk ?a ?l ?c ?k
      (case a => k_is); (case l => k_is); (case c => k_is); (case k => k_is)
    case f33 =>
      refine' LA.gf_mk ?a ?l ?c ?k
      (case a => k_is); (case l => k_is); (case c => k_is); (case k => k_is)
    case f34 =>
      refine' LA.gf_mk ?a ?l ?c ?k
      (case a => k_is); (case l => k_is); (case c => k_is); (case k => k_is)
    case f35 =>
      refine' LA.gf_mk ?a ?l ?c ?k
      (case a => k_is); (case l => k_is); (case c => k_is); (case k => k_is)
    case f36 =>
      refine' LA.gf_mk ?a ?l ?c ?k
      (case a => k_is); (case l => k_is); (case c => k_is); (case k => k_is)
    case f37 =>
      refine' LA.gf_mk ?a ?l ?c ?k
      (case a => k_is); (case l => k_is); (case c => k_is); (case k => k_is)
    case f38 =>
      refine' LA.gf_mk ?a ?l ?c ?k
      (case a => k_is); (case l => k_is); (case c => k_is); (case k => k_is)
    case f39 =>
      refine' LA.gf_mk ?a ?l ?c ?k
      (case a => k_is); (case l => k_is); (case c => k_is); (case k => k_is)
    case f40 =>
      refine' LA.gf_mk ?a ?l ?c ?k
      (case a => k_is); (case l => k_is); (case c => k_is); (case k => k_is)
    case f41 =>
      refine' LA.gf_mk ?a ?l ?c ?k
      (case a => k_is); (case l => k_is); (case c => k_is); (case k => k_is)
    case f42 =>
      refine' LA.gf_mk ?a ?l ?c ?k
      (case a => k_is); (case l => k_is); (case c => k_is); (case k => k_is)
    case f44 =>
      refine' LA.gf_mk ?a ?l ?c ?k
      (case a => k_is); (case l => k_is); (case c => k_is); (case k => k_is)
    case f45 =>
      refine' LA.gf_mk ?a ?l ?c ?k
      (case a => k_is); (case l => k_is); (case c => k_is); (case k => k_is)
    case f46 =>
      refine' LA.gf_mk ?a ?l ?c ?k
      (case a => k_is); (case l => k_is); (case c => k_is); (case k => k_is)
    case f47 =>
      refine' LA.gf_mk ?a ?l ?c ?k
      (case a => k_is); (case l => k_is); (case c => k_is); (case k => k_is)
    case f48 =>
      refine' LA.gf_mk ?a ?l ?c ?k
      (case a => k_is); (case l => k_is); (case c => k_is); (case k => k_is)
    case f49 =>
      refine' LA.gf_mk ?a ?l ?c ?k
      (case a => k_is); (case l => k_is); (case c => k_is); (case k => k_is)
    case f50 =>
      refine' LA.gf_mk ?a ?l ?c ?k
      (case a => k_is); (case l => k_is); (case c => k_is); (case k => k_is)
    case f51 =>
      refine' LA.gf_mk ?a ?l ?c ?k
      (case a => k_is); (case l => k_is); (case c => k_is); (case k => k_is)
    case f52 =>
      refine' LA.gf_mk ?a ?l ?c ?k
      (case a => k_is); (case l => k_is); (case c => k_is); (case k => k_is)
    case f53 =>
      refine' LA.gf_mk ?a ?l ?c ?k
      (case a => k_is); (case l => k_is); (case c => k_is); (case k => k_is)
    case f54 =>
      refine' LA.gf_mk ?a ?l ?c ?k
      (case a => k_is); (case l => k_is); (case c => k_is); (case k => k_is)
    case f55 =>
      refine' LA.gf_mk ?a ?l ?c ?k
      (case a => k_is); (case l => k_is); (case c => k_is); (case k => k_is)
    case f56 =>
      refine' LA.gf_mk ?a ?l ?c ?k
      (case a => k_is); (case l => k_is); (case c => k_is); (case k => k_is)

