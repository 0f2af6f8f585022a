import PyProof.Rows.All
import Wide.All
import OpenK.AllK
import Wide.FinOn
import HandS.ForMost
import HandS.ForExc
import HandS.TryMany
import HandS.ExcInit
import HandS.ExcField
import HandS.CallSlots
import HandS.IsInst
import HandS.Defaults
import HandS.Iter
import HandS.Text
import HandS.Conv
import KE.GoesNew
import KE.GoesEnum
import HandS.RaiseMore
import HandS.EndBits
import PyProof.EnumMake
import HandS.SetFor
import HandS.TupSets
import HandS.ExcIs
import PySem.Challenge.RW_leastlooks_k41_fewest_looks
import HandS.Property
import HandS.Star
import HandS.IterVal
import HandS.IntHex
import HandS.OwnIter
import KE.KIndexOf
import HandS.Codes
import PyProof.Rows.RegReprOcc
import PyProof.P3Eq
import HandS.ClsMeth
import HandS.WideBits
import HandS.FStr
import HandS.Wide
import HandS.Gcd
import HandS.TupAny
import HandS.Dict
import HandS.Rev
import PyProof.Rows.StrFirst
import KE.DataMinMax
import HandS.SortKw
import HandS.DictComp
import PyProof.Rows.StrMeet
import KE.SortKeyHeap
import HandS.Replace
import KE.SortData
import HandS.CallLocal
import HandS.ReplaceLit
import HandS.ReplaceList
import HandS.ReplaceDef
set_option Elab.async false
set_option linter.all false
set_option maxRecDepth 100000
set_option maxHeartbeats 4000000
/-! A layer of outcomes over data: what an expression is worth, what a statement does. -/
namespace LA
open PySem PySem.Spec PyProof.Rows L2

/-- of a list: it is not the run's own, it is one that may be written -/
structure G where
  s : Bool
  t : Bool
inductive D where
  | non | bl (b : Bool) | int (i : Int) | str (s : Str) | lst (g : G) (xs : List D) | tup (xs : List D) | dct (kvs : List (Key × D)) | mut (i : Nat) | ty (n : String) | cls (a : Addr) | exn (a dx : Addr) (fs : List (Str × D)) | obj (C : Addr) (fs : List (Str × D))

/-- what an object that changes holds -/
inductive Cell where
  | lst (ds : List D) | ins (C : Addr) (fs : List (Str × D)) | dct (kvs : List (Key × D)) | gone
abbrev PC := List Cell

/-- what is out of sight: what changes, and lists that are being filled -/
structure HD where
  m : List Addr
  z : List Addr
def HD.hid (p : HD) (a : Addr) : Prop := a ∈ p.m ∨ a ∈ p.z
instance (p : HD) (a : Addr) : Decidable (p.hid a) := by unfold HD.hid; infer_instance
def HD.also (p : HD) (a : Addr) : HD := ⟨p.m, a :: p.z⟩
def HD.mut (p : HD) (a : Addr) : HD := ⟨p.m ++ [a], p.z⟩
def HD.flat (p : HD) : HD := ⟨[], p.m ++ p.z⟩
def hide (p : HD) (H : Hp) : Hp := fun a => if p.hid a then none else H a
theorem hide_ne {p : HD} {H : Hp} {a : Addr} (h : ¬ p.hid a) : hide p H a = H a := if_neg h
theorem hide_some {p : HD} {H : Hp} {a : Addr} {o : HO} (h : hide p H a = some o) : H a = some o ∧ ¬ p.hid a := by
  unfold hide at h
  split at h
  · cases h
  · rename_i q
    exact ⟨h, q⟩
/-- what is tracked, the changing things aside, stays -/
def Ext (p : HD) (H H' : Hp) : Prop := ∀ a o, a ∉ p.m → H a = some o → H' a = some o
theorem Ext.refl (p : HD) (H : Hp) : Ext p H H := fun _ _ _ h => h
theorem Ext.trans {p : HD} {H H1 H2 : Hp} (a : Ext p H H1) (b : Ext p H1 H2) : Ext p H H2 := fun x o n h => b x o n (a x o n h)
theorem Ext.new {p : HD} {H : Hp} {a : Addr} {o : HO} (h : H a = none) : Ext p H (upd H a o) := fun b u _ e => by
  rw [upd_ne (ne_of_none e h)]
  exact e
theorem Ext.hide {p : HD} {H H' : Hp} (e : Ext p H H') : ∀ a o, LA.hide p H a = some o → LA.hide p H' a = some o := fun a o h => by
  obtain ⟨h1, h2⟩ := hide_some h
  rw [hide_ne h2]
  exact e a o (fun z => h2 (.inl z)) h1
theorem hide_flat (p : HD) (H : Hp) : hide p.flat H = hide p H := funext fun a => by
  unfold hide
  by_cases h : p.hid a
  · rw [if_pos h, if_pos (show p.flat.hid a from .inr (List.mem_append.mpr h))]
  · rw [if_neg h, if_neg (show ¬ p.flat.hid a from fun q => q.elim (fun z => nomatch z) fun z => h (List.mem_append.mp z))]
theorem Ext.sqL {K : PySem.W.Frag} {p : HD} {H H' : Hp} {a : Addr} {xs : List V} (e : Ext p H H') (h : SqL K (LA.hide p H) a xs) : SqL K (LA.hide p H') a xs := by
  rcases h with (h | ⟨o, h⟩) | h
  · exact .inl (.inl (e.hide _ _ h))
  · exact .inl (.inr ⟨o, e.hide _ _ h⟩)
  · exact .inr h
theorem Ext.sqT {K : PySem.W.Frag} {p : HD} {H H' : Hp} {a : Addr} {xs : List V} (e : Ext p H H') (h : SqT K (LA.hide p H) a xs) : SqT K (LA.hide p H') a xs := by
  rcases h with (h | ⟨o, h⟩) | h
  · exact .inl (.inl (e.hide _ _ h))
  · exact .inl (.inr ⟨o, e.hide _ _ h⟩)
  · exact .inr h
theorem Ext.rd {p : HD} {H H' : Hp} {a : Addr} {u : HO} (e : Ext p H H') (h : Rd (LA.hide p H) a u) : Rd (LA.hide p H') a u := by
  rcases h with h | ⟨o, h⟩
  · exact .inl (e.hide _ _ h)
  · exact .inr ⟨o, e.hide _ _ h⟩
theorem un_sqL {K : PySem.W.Frag} {p : HD} {H : Hp} {a : Addr} {xs : List V} (h : SqL K (hide p H) a xs) : SqL K H a xs := by
  rcases h with (h | ⟨o, h⟩) | h
  · exact .inl (.inl (hide_some h).1)
  · exact .inl (.inr ⟨o, (hide_some h).1⟩)
  · exact .inr h
theorem un_sqT {K : PySem.W.Frag} {p : HD} {H : Hp} {a : Addr} {xs : List V} (h : SqT K (hide p H) a xs) : SqT K H a xs := by
  rcases h with (h | ⟨o, h⟩) | h
  · exact .inl (.inl (hide_some h).1)
  · exact .inl (.inr ⟨o, (hide_some h).1⟩)
  · exact .inr h
theorem un_rd {p : HD} {H : Hp} {a : Addr} {u : HO} (h : Rd (hide p H) a u) : Rd H a u := by
  rcases h with h | ⟨o, h⟩
  · exact .inl (hide_some h).1
  · exact .inr ⟨o, (hide_some h).1⟩
/-- one map of what is in sight is within another -/
def Sub (G G' : Hp) : Prop := ∀ a o, G a = some o → G' a = some o
theorem Sub.sqL {K : PySem.W.Frag} {H H' : Hp} {a : Addr} {xs : List V} (e : Sub H H') (h : SqL K H a xs) : SqL K H' a xs := by
  rcases h with (h | ⟨o, h⟩) | h
  · exact .inl (.inl (e _ _ h))
  · exact .inl (.inr ⟨o, e _ _ h⟩)
  · exact .inr h
theorem Sub.sqT {K : PySem.W.Frag} {H H' : Hp} {a : Addr} {xs : List V} (e : Sub H H') (h : SqT K H a xs) : SqT K H' a xs := by
  rcases h with (h | ⟨o, h⟩) | h
  · exact .inl (.inl (e _ _ h))
  · exact .inl (.inr ⟨o, e _ _ h⟩)
  · exact .inr h
theorem Sub.rd {H H' : Hp} {a : Addr} {u : HO} (e : Sub H H') (h : Rd H a u) : Rd H' a u := by
  rcases h with h | ⟨o, h⟩
  · exact .inl (e _ _ h)
  · exact .inr ⟨o, e _ _ h⟩
theorem sub_also {p : HD} {H : Hp} {a : Addr} : Sub (hide (p.also a) H) (hide p H) := fun b o h => by
  obtain ⟨h1, h2⟩ := hide_some h
  rw [hide_ne (show ¬ p.hid b from fun z => h2 (z.elim .inl fun m => .inr (List.mem_cons_of_mem _ m)))]
  exact h1
theorem also_sub {p : HD} {H : Hp} {a : Addr} (n : H a = none) : Sub (hide p H) (hide (p.also a) H) := fun b o h => by
  obtain ⟨h1, h2⟩ := hide_some h
  rw [hide_ne (show ¬ (p.also a).hid b from fun z => z.elim (fun q => h2 (.inl q)) fun m => (List.mem_cons.mp m).elim (fun q => by rw [q, n] at h1; cases h1) fun q => h2 (.inr q))]
  exact h1

/-! ### values that are data -/
mutual
inductive DV (K : PySem.W.Frag) (p : HD) (H : Hp) : V → D → Prop
  | non : DV K p H .non .non
  | bl (b : Bool) : DV K p H (.bl b) (.bl b)
  | int (i : Int) : DV K p H (.int i) (.int i)
  | str (x : Str) : DV K p H (.str x) (.str x)
  | lst {a : Addr} {xs : List V} {g : G} {ds : List D} : ((g.s = true → a ≠ sysModules) ∧ (g.t = true → hide p H a = some (.lst xs))) → SqL K (hide p H) a xs → DVs K p H xs ds → DV K p H (.ref a) (.lst g ds)
  | tup {a : Addr} {xs : List V} {ds : List D} : SqT K (hide p H) a xs → DVs K p H xs ds → DV K p H (.ref a) (.tup ds)
  | dct {a : Addr} {kvs : List (Key × V)} {ds : List (Key × D)} : Rd (hide p H) a (.dK kvs) → DVk K p H kvs ds → DV K p H (.ref a) (.dct ds)
  | mut {a : Addr} {i : Nat} : p.m[i]? = some a → DV K p H (.ref a) (.mut i)
  | ty (n : String) : DV K p H (.ty n) (.ty n)
  | cls (a : Addr) : DV K p H (.ref a) (.cls a)
  | exn {a dx : Addr} {fv : List (Str × V)} {fs : List (Str × D)} : hide p H dx = some (.xd fv) → DVf K p H fv fs → DV K p H (.ref a) (.exn a dx fs)
  | obj {a C dx : Addr} {fv : List (Str × V)} {fs : List (Str × D)} : hide p H a = some (.ins C dx fv) → DVf K p H fv fs → DV K p H (.ref a) (.obj C fs)
inductive DVs (K : PySem.W.Frag) (p : HD) (H : Hp) : List V → List D → Prop
  | nil : DVs K p H [] []
  | cons {v : V} {vs : List V} {d : D} {ds : List D} : DV K p H v d → DVs K p H vs ds → DVs K p H (v :: vs) (d :: ds)
inductive DVk (K : PySem.W.Frag) (p : HD) (H : Hp) : List (Key × V) → List (Key × D) → Prop
  | nil : DVk K p H [] []
  | cons {k : Key} {v : V} {vs : List (Key × V)} {d : D} {ds : List (Key × D)} : DV K p H v d → DVk K p H vs ds → DVk K p H ((k, v) :: vs) ((k, d) :: ds)
inductive DVf (K : PySem.W.Frag) (p : HD) (H : Hp) : List (Str × V) → List (Str × D) → Prop
  | nil : DVf K p H [] []
  | cons {f : Str} {v : V} {vs : List (Str × V)} {d : D} {ds : List (Str × D)} : DV K p H v d → DVf K p H vs ds → DVf K p H ((f, v) :: vs) ((f, d) :: ds)
end
section
variable {K : PySem.W.Frag} {p : HD} {H H' : Hp}
mutual
theorem DV.sub {q : HD} (e : Sub (hide p H) (hide q H')) (pe : ∀ (i : Nat) (a : Addr), p.m[i]? = some a → q.m[i]? = some a) : ∀ {v : V} {d : D}, DV K p H v d → DV K q H' v d
  | _, _, .non => .non
  | _, _, .bl b => .bl b
  | _, _, .int i => .int i
  | _, _, .str x => .str x
  | _, _, .lst b h r => .lst ⟨b.1, fun z => e _ _ (b.2 z)⟩ (e.sqL h) (DVs.sub e pe r)
  | _, _, .tup h r => .tup (e.sqT h) (DVs.sub e pe r)
  | _, _, .dct h r => .dct (e.rd h) (DVk.sub e pe r)
  | _, _, .mut h => .mut (pe _ _ h)
  | _, _, .ty n => .ty n
  | _, _, .cls a => .cls a
  | _, _, .exn h r => .exn (e _ _ h) (DVf.sub e pe r)
  | _, _, .obj h r => .obj (e _ _ h) (DVf.sub e pe r)
theorem DVs.sub {q : HD} (e : Sub (hide p H) (hide q H')) (pe : ∀ (i : Nat) (a : Addr), p.m[i]? = some a → q.m[i]? = some a) : ∀ {v : List V} {d : List D}, DVs K p H v d → DVs K q H' v d
  | _, _, .nil => .nil
  | _, _, .cons h r => .cons (DV.sub e pe h) (DVs.sub e pe r)
theorem DVk.sub {q : HD} (e : Sub (hide p H) (hide q H')) (pe : ∀ (i : Nat) (a : Addr), p.m[i]? = some a → q.m[i]? = some a) : ∀ {v : List (Key × V)} {d : List (Key × D)}, DVk K p H v d → DVk K q H' v d
  | _, _, .nil => .nil
  | _, _, .cons h r => .cons (DV.sub e pe h) (DVk.sub e pe r)
theorem DVf.sub {q : HD} (e : Sub (hide p H) (hide q H')) (pe : ∀ (i : Nat) (a : Addr), p.m[i]? = some a → q.m[i]? = some a) : ∀ {v : List (Str × V)} {d : List (Str × D)}, DVf K p H v d → DVf K q H' v d
  | _, _, .nil => .nil
  | _, _, .cons h r => .cons (DV.sub e pe h) (DVf.sub e pe r)
end
theorem DV.mono (e : Ext p H H') {v : V} {d : D} (h : DV K p H v d) : DV K p H' v d := h.sub (e.hide) fun _ _ z => z
theorem DVs.mono (e : Ext p H H') {v : List V} {d : List D} (h : DVs K p H v d) : DVs K p H' v d := h.sub (e.hide) fun _ _ z => z
theorem DV.also {a : Addr} (n : H a = none) {v : V} {d : D} (h : DV K p H v d) : DV K (p.also a) H v d := h.sub (also_sub n) fun _ _ z => z
theorem DV.less {a : Addr} {v : V} {d : D} (h : DV K (p.also a) H v d) : DV K p H v d := h.sub sub_also fun _ _ z => z
theorem DVs.length : ∀ {vs : List V} {ds : List D}, DVs K p H vs ds → vs.length = ds.length
  | _, _, .nil => rfl
  | _, _, .cons _ r => by rw [List.length_cons, List.length_cons, DVs.length r]
theorem DVs.get : ∀ {vs : List V} {ds : List D} {i : Nat} {d : D}, DVs K p H vs ds → ds[i]? = some d → ∃ v, vs[i]? = some v ∧ DV K p H v d
  | _, _, i, d, .nil, h => by simp at h
  | _, _, 0, d, .cons (v := v) h r, e => by
    have e' := Option.some.inj e
    subst e'
    exact ⟨v, rfl, h⟩
  | _, _, i + 1, d, .cons h r, e => DVs.get (i := i) r e
theorem DVs.get' : ∀ {vs : List V} {ds : List D} {i : Nat} {v : V}, DVs K p H vs ds → vs[i]? = some v → ∃ d, ds[i]? = some d ∧ DV K p H v d
  | _, _, i, d, .nil, h => by simp at h
  | _, _, 0, d, .cons (d := x) h r, e => by
    have e' := Option.some.inj e
    subst e'
    exact ⟨x, rfl, h⟩
  | _, _, i + 1, d, .cons h r, e => DVs.get' (i := i) r e
theorem DVs.app : ∀ {vs ws : List V} {ds es : List D}, DVs K p H vs ds → DVs K p H ws es → DVs K p H (vs ++ ws) (ds ++ es)
  | _, _, _, _, .nil, r => r
  | _, _, _, _, .cons h t, r => .cons h (DVs.app t r)
theorem dvs_strs : ∀ {ss : List Str}, DVs K p H (ss.map V.str) (ss.map D.str)
  | [] => .nil
  | s :: r => .cons (.str s) dvs_strs
theorem of_strs : ∀ {vs : List V} {ss : List Str}, DVs K p H vs (ss.map D.str) → vs = ss.map V.str
  | _, [], .nil => rfl
  | _, s :: r, .cons h t => by
    cases h
    rw [of_strs t]
    rfl
end

/-! ### what changes -/
mutual
/-- of what changes, it names only the first n -/
def lowD (n : Nat) : D → Bool
  | .mut i => decide (i < n)
  | .lst _ xs => lowDs n xs
  | .tup xs => lowDs n xs
  | .dct kvs => lowDk n kvs
  | .exn _ _ fs => lowDf n fs
  | .obj _ fs => lowDf n fs
  | _ => true
def lowDs (n : Nat) : List D → Bool
  | [] => true
  | d :: r => lowD n d && lowDs n r
def lowDk (n : Nat) : List (Key × D) → Bool
  | [] => true
  | (_, d) :: r => lowD n d && lowDk n r
def lowDf (n : Nat) : List (Str × D) → Bool
  | [] => true
  | (_, d) :: r => lowD n d && lowDf n r
end
section
variable {K : PySem.W.Frag} {p q : HD} {H H' : Hp} {n : Nat}
mutual
theorem DV.low (e : Sub (hide p H) (hide q H')) (pe : ∀ (i : Nat) (a : Addr), i < n → p.m[i]? = some a → q.m[i]? = some a) : ∀ {v : V} {d : D}, DV K p H v d → lowD n d = true → DV K q H' v d
  | _, _, .non, _ => .non
  | _, _, .bl b, _ => .bl b
  | _, _, .int i, _ => .int i
  | _, _, .str x, _ => .str x
  | _, _, .lst b h r, o => by
    unfold lowD at o
    exact .lst ⟨b.1, fun z => e _ _ (b.2 z)⟩ (e.sqL h) (DVs.low e pe r o)
  | _, _, .tup h r, o => by
    unfold lowD at o
    exact .tup (e.sqT h) (DVs.low e pe r o)
  | _, _, .dct h r, o => by
    unfold lowD at o
    exact .dct (e.rd h) (DVk.low e pe r o)
  | _, _, .mut h, o => by
    unfold lowD at o
    exact .mut (pe _ _ (of_decide_eq_true o) h)
  | _, _, .ty n, _ => .ty n
  | _, _, .cls a, _ => .cls a
  | _, _, .exn h r, o => by
    unfold lowD at o
    exact .exn (e _ _ h) (DVf.low e pe r o)
  | _, _, .obj h r, o => by
    unfold lowD at o
    exact .obj (e _ _ h) (DVf.low e pe r o)
theorem DVs.low (e : Sub (hide p H) (hide q H')) (pe : ∀ (i : Nat) (a : Addr), i < n → p.m[i]? = some a → q.m[i]? = some a) : ∀ {v : List V} {d : List D}, DVs K p H v d → lowDs n d = true → DVs K q H' v d
  | _, _, .nil, _ => .nil
  | _, _, .cons h r, o => by
    unfold lowDs at o
    exact .cons (DV.low e pe h (Bool.and_eq_true_iff.mp o).1) (DVs.low e pe r (Bool.and_eq_true_iff.mp o).2)
theorem DVk.low (e : Sub (hide p H) (hide q H')) (pe : ∀ (i : Nat) (a : Addr), i < n → p.m[i]? = some a → q.m[i]? = some a) : ∀ {v : List (Key × V)} {d : List (Key × D)}, DVk K p H v d → lowDk n d = true → DVk K q H' v d
  | _, _, .nil, _ => .nil
  | _, _, .cons h r, o => by
    unfold lowDk at o
    exact .cons (DV.low e pe h (Bool.and_eq_true_iff.mp o).1) (DVk.low e pe r (Bool.and_eq_true_iff.mp o).2)
theorem DVf.low (e : Sub (hide p H) (hide q H')) (pe : ∀ (i : Nat) (a : Addr), i < n → p.m[i]? = some a → q.m[i]? = some a) : ∀ {v : List (Str × V)} {d : List (Str × D)}, DVf K p H v d → lowDf n d = true → DVf K q H' v d
  | _, _, .nil, _ => .nil
  | _, _, .cons h r, o => by
    unfold lowDf at o
    exact .cons (DV.low e pe h (Bool.and_eq_true_iff.mp o).1) (DVf.low e pe r (Bool.and_eq_true_iff.mp o).2)
end
end
theorem sub_refl (G : Hp) : Sub G G := fun _ _ z => z
theorem Sub.trans {G G1 G2 : Hp} (a : Sub G G1) (b : Sub G1 G2) : Sub G G2 := fun x o h => b x o (a x o h)
def CellAt (K : PySem.W.Frag) (p : HD) (H : Hp) (a : Addr) : Cell → Prop
  | .lst ds => ∃ vs, H a = some (.lst vs) ∧ DVs K p.flat H vs ds
  | .ins C fs => ∃ dx fv, H a = some (.ins C dx fv) ∧ DVf K p.flat H fv fs
  | .dct kvs => ∃ kv, H a = some (.dK kv) ∧ DVk K p.flat H kv kvs
  | .gone => ∃ o, H a = some o
theorem CellAt.has {K : PySem.W.Frag} {p : HD} {H : Hp} {a : Addr} {x : Cell} (h : CellAt K p H a x) : ∃ o, H a = some o := by
  cases x with
  | lst ds => obtain ⟨vs, h, _⟩ := h; exact ⟨_, h⟩
  | ins C fs => obtain ⟨dx, fv, h, _⟩ := h; exact ⟨_, h⟩
  | dct kvs => obtain ⟨kv, h, _⟩ := h; exact ⟨_, h⟩
  | gone => exact h
theorem CellAt.sub {K : PySem.W.Frag} {p q : HD} {H H' : Hp} {a : Addr} {x : Cell} (e : Sub (hide p H) (hide q H')) (ea : H' a = H a) (h : CellAt K p H a x) : CellAt K q H' a x := by
  have e' : Sub (hide p.flat H) (hide q.flat H') := by
    rw [hide_flat, hide_flat]
    exact e
  have pe : ∀ (i : Nat) (b : Addr), p.flat.m[i]? = some b → q.flat.m[i]? = some b := fun i b z => by simp [HD.flat] at z
  cases x with
  | lst ds => obtain ⟨vs, h, r⟩ := h; exact ⟨vs, ea.trans h, r.sub e' pe⟩
  | ins C fs => obtain ⟨dx, fv, h, r⟩ := h; exact ⟨dx, fv, ea.trans h, r.sub e' pe⟩
  | dct kvs => obtain ⟨kv, h, r⟩ := h; exact ⟨kv, ea.trans h, r.sub e' pe⟩
  | gone => obtain ⟨o, h⟩ := h; exact ⟨o, ea.trans h⟩
def Cells (K : PySem.W.Frag) (p : HD) (H : Hp) (c : PC) : Prop := p.m.Nodup ∧ p.m.length = c.length ∧ ∀ (i : Nat) (a : Addr) (x : Cell), p.m[i]? = some a → c[i]? = some x → CellAt K p H a x
def PoolAt (K : PySem.W.Frag) (p : HD) (H : Hp) (c : PC) : Prop := Cells K p H c ∧ ∀ a ∈ p.z, ∃ o, H a = some o
section
variable {K : PySem.W.Frag} {p : HD} {H H1 : Hp} {c : PC} {a : Addr}
theorem PoolAt.ex (h : PoolAt K p H c) {b : Addr} (m : b ∈ p.m) : ∃ o, H b = some o := by
  obtain ⟨i, hi⟩ := List.getElem?_of_mem m
  have l : i < c.length := by
    rw [← h.1.2.1]
    exact (List.getElem?_eq_some_iff.mp hi).1
  exact (h.1.2.2 i b c[i] hi (List.getElem?_eq_getElem l)).has
theorem PoolAt.hid (h : PoolAt K p H c) {b : Addr} (m : p.hid b) : ∃ o, H b = some o := m.elim h.ex (h.2 b)
theorem PoolAt.not (h : PoolAt K p H c) (n : H a = none) : ¬ p.hid a := fun z => by
  obtain ⟨o, q⟩ := h.hid z
  rw [q] at n
  cases n
theorem upd_sub {o : HO} (n : H a = none) : Sub (hide p H) (hide p (upd H a o)) := (Ext.new n).hide
theorem PoolAt.upd {o : HO} (h : PoolAt K p H c) (n : H a = none) : PoolAt K p (L2.upd H a o) c := ⟨⟨h.1.1, h.1.2.1, fun i b x hi hx => by
  obtain ⟨u, q⟩ := h.ex (List.mem_of_getElem? hi)
  exact (h.1.2.2 i b x hi hx).sub (upd_sub n) (by rw [upd_ne (ne_of_none q n)])⟩, fun b m => by
  obtain ⟨u, q⟩ := h.2 b m
  exact ⟨u, by rw [upd_ne (ne_of_none q n)]; exact q⟩⟩
theorem fresh_back (e : Ext p H H1) (h : PoolAt K p H1 c) (n : H1 a = none) : H a = none := by
  cases q : H a with
  | none => rfl
  | some o =>
    have n2 : a ∉ p.m := fun z => by
      obtain ⟨u, r⟩ := h.ex z
      rw [r] at n
      cases n
    rw [e a o n2 q] at n
    cases n
/-- what is hidden besides may change as it likes -/
theorem PoolAt.other {o : HO} (h : PoolAt K p H c) (m : a ∈ p.z) (nm : a ∉ p.m) : PoolAt K p (L2.upd H a o) c := ⟨⟨h.1.1, h.1.2.1, fun i b x hi hx => by
  have nb : b ≠ a := fun z => nm (by rw [← z]; exact List.mem_of_getElem? hi)
  refine (h.1.2.2 i b x hi hx).sub (fun b u y => ?_) (by rw [upd_ne nb])
  obtain ⟨y1, y2⟩ := hide_some y
  rw [hide_ne y2, upd_ne (fun z => y2 (.inr (by rw [z]; exact m)))]
  exact y1⟩, fun b mb => by
  by_cases e : b = a
  · exact ⟨o, by rw [e, upd_same]⟩
  · obtain ⟨u, q⟩ := h.2 b mb
    exact ⟨u, by rw [upd_ne e]; exact q⟩⟩
theorem PoolAt.also (h : PoolAt K p H c) (n : H a = none) {o : HO} : PoolAt K (p.also a) (L2.upd H a o) c := ⟨⟨h.1.1, h.1.2.1, fun i b x hi hx => by
  obtain ⟨u, q⟩ := h.ex (List.mem_of_getElem? hi)
  refine (h.1.2.2 i b x hi hx).sub (fun b u y => ?_) (by rw [upd_ne (ne_of_none q n)])
  have y1 := also_sub n b u y
  obtain ⟨y3, y4⟩ := hide_some y1
  rw [hide_ne y4, upd_ne (ne_of_none y3 n)]
  exact y3⟩, fun b m => by
  rcases List.mem_cons.mp m with rfl | m
  · exact ⟨o, upd_same⟩
  · obtain ⟨u, q⟩ := h.2 b m
    exact ⟨u, by rw [upd_ne (ne_of_none q n)]; exact q⟩⟩
theorem PoolAt.less (h : PoolAt K (p.also a) H c) : PoolAt K p H c := ⟨⟨h.1.1, h.1.2.1, fun i b x hi hx => (h.1.2.2 i b x hi hx).sub sub_also rfl⟩, fun b m => h.2 b (List.mem_cons_of_mem _ m)⟩
/-- one of the changing things is written -/
theorem PoolAt.put {i : Nat} {o : HO} {x : Cell} (h : PoolAt K p H c) (hi : p.m[i]? = some a) (hx : CellAt K p (L2.upd H a o) a x) : PoolAt K p (L2.upd H a o) (c.set i x) := by
  have hm : a ∈ p.m := List.mem_of_getElem? hi
  have sb : Sub (hide p H) (hide p (L2.upd H a o)) := fun b u y => by
    obtain ⟨y1, y2⟩ := hide_some y
    rw [hide_ne y2, upd_ne (fun z => y2 (.inl (by rw [z]; exact hm)))]
    exact y1
  refine ⟨⟨h.1.1, by rw [List.length_set]; exact h.1.2.1, fun j b y hj hy => ?_⟩, fun b mb => ?_⟩
  · by_cases e : i = j
    · subst e
      rw [hi] at hj
      cases hj
      have l : i < c.length := by
        rw [← h.1.2.1]
        exact (List.getElem?_eq_some_iff.mp hi).1
      rw [List.getElem?_set_self l] at hy
      cases hy
      exact hx
    · rw [List.getElem?_set_ne e] at hy
      have nb : b ≠ a := fun z => e (by
        subst z
        have l1 := (List.getElem?_eq_some_iff.mp hi).1
        have l2 := (List.getElem?_eq_some_iff.mp hj).1
        have q1 := (List.getElem?_eq_some_iff.mp hi).2
        have q2 := (List.getElem?_eq_some_iff.mp hj).2
        exact (List.getElem_inj h.1.1).mp (q1.trans q2.symm))
      exact (h.1.2.2 j b y hj hy).sub sb (by rw [upd_ne nb])
  · by_cases e : b = a
    · exact ⟨o, by rw [e, upd_same]⟩
    · obtain ⟨u, q⟩ := h.2 b mb
      exact ⟨u, by rw [upd_ne e]; exact q⟩
end

/-- a new object: nothing that changes, and nothing of its own, knows of it -/
def New (K : PySem.W.Frag) (p : HD) (H H' : Hp) (c' : PC) (v : V) (d : D) : Prop := ∀ a, v = .ref a → (H a = none ∧ a ∉ p.m) ∧ PoolAt K (p.also a) H' c' ∧ ∀ g ds, d = .lst g ds → ∃ vs, H' a = some (.lst vs) ∧ DVs K (p.also a) H' vs ds
section
variable {K : PySem.W.Frag} {p : HD} {H H1 H' : Hp} {c c' : PC} {v : V} {d : D} {a : Addr}
theorem New.back (e : Ext p H H1) (n : New K p H1 H' c' v d) : New K p H H' c' v d := fun a h => by
  obtain ⟨⟨n1, n2⟩, n3⟩ := n a h
  refine ⟨⟨?_, n2⟩, n3⟩
  cases q : H a with
  | none => rfl
  | some o =>
    rw [e a o n2 q] at n1
    cases n1
theorem New.g {g g' : G} {ds : List D} (n : New K p H H' c' v (.lst g ds)) : New K p H H' c' v (.lst g' ds) := fun a h => by
  obtain ⟨h1, h2, h3⟩ := n a h
  exact ⟨h1, h2, fun g2 ds2 e => by
    cases e
    exact h3 g ds rfl⟩
theorem New.sc (h : ∀ a, v ≠ .ref a) : New K p H H' c' v d := fun a e => absurd e (h a)
theorem New.lst {vs : List V} {ds : List D} {g : G} (h : PoolAt K p H c) (n : H a = none) (r : DVs K p H vs ds) : New K p H (L2.upd H a (.lst vs)) c (.ref a) (.lst g ds) := fun b e => by
  cases e
  exact ⟨⟨n, fun z => h.not n (.inl z)⟩, h.also n, fun g' ds' e' => by
    cases e'
    exact ⟨vs, upd_same, (r.sub (also_sub n) fun _ _ z => z).mono (Ext.new n)⟩⟩
theorem New.oth {o : HO} (h : PoolAt K p H c) (n : H a = none) (hd : ∀ g ds, d ≠ .lst g ds) : New K p H (L2.upd H a o) c (.ref a) d := fun b e => by
  cases e
  exact ⟨⟨n, fun z => h.not n (.inl z)⟩, h.also n, fun g' ds' e' => absurd e' (hd g' ds')⟩
end

/-! ### the frame -/
abbrev Rho := List (Option D)
structure SR (K : PySem.W.Frag) (p : HD) (H : Hp) (σ : L2.St) (ρ : Rho) (c : PC) : Prop where
  len : σ.length = ρ.length
  at' : ∀ (i : Nat) (d : D), ρ[i]? = some (some d) → ∃ v, σ[i]? = some (some v) ∧ DV K p H v d
  pl : PoolAt K p H c
section
variable {K : PySem.W.Frag} {p : HD} {H H' : Hp} {σ : L2.St} {ρ : Rho} {c c' : PC}
theorem SR.mono (s : SR K p H σ ρ c) (e : Ext p H H') (q : PoolAt K p H' c') : SR K p H' σ ρ c' :=
  ⟨s.len, fun i d h => by
    obtain ⟨v, h1, h2⟩ := s.at' i d h
    exact ⟨v, h1, h2.mono e⟩, q⟩
theorem SR.set (s : SR K p H σ ρ c) (i : Nat) {v : V} {d : D} (h : DV K p H v d) : SR K p H (σ.set i (some v)) (ρ.set i (some d)) c := by
  refine ⟨by rw [List.length_set, List.length_set]; exact s.len, fun j e hj => ?_, s.pl⟩
  by_cases q : i = j
  · subst q
    rw [List.getElem?_set] at hj
    by_cases l : i < ρ.length
    · rw [if_pos rfl, if_pos l] at hj
      have e' := Option.some.inj (Option.some.inj hj)
      subst e'
      refine ⟨v, ?_, h⟩
      rw [List.getElem?_set, if_pos rfl, if_pos (by rw [s.len]; exact l)]
    · rw [if_pos rfl, if_neg l] at hj
      cases hj
  · rw [List.getElem?_set_ne q] at hj
    obtain ⟨w, h1, h2⟩ := s.at' j e hj
    exact ⟨w, by rw [List.getElem?_set_ne q]; exact h1, h2⟩
/-- slots of which nothing is known -/
theorem SR.weak {σ' : L2.St} {ρ' : Rho} (s : SR K p H σ ρ c) (hl : σ'.length = ρ'.length) (h : ∀ (i : Nat) (d : D), ρ'[i]? = some (some d) → ρ[i]? = some (some d)) (hs : ∀ (i : Nat) (v : V) (d : D), ρ'[i]? = some (some d) → σ[i]? = some (some v) → σ'[i]? = some (some v)) : SR K p H σ' ρ' c :=
  ⟨hl, fun i d e => by
    obtain ⟨v, h1, h2⟩ := s.at' i d (h i d e)
    exact ⟨v, hs i v d e h1, h2⟩, s.pl⟩
end

/-! ### outcomes -/
/-- of an expression -/
inductive EO where
  | val (d : D) (nw : Bool) (c : PC)
  | ex (C : Addr) (fs : List (Str × D)) (c : PC)
/-- of a test -/
inductive TO where
  | val (b : Bool) (c : PC)
  | ex (C : Addr) (fs : List (Str × D)) (c : PC)
inductive AO where
  | val (ds : List D) (c : PC)
  | ex (C : Addr) (fs : List (Str × D)) (c : PC)
/-- of a statement -/
inductive SO where
  | nx (ρ : Rho) (c : PC)
  | rt (d : D) (nw : Bool) (c : PC)
  | ex (C : Addr) (fs : List (Str × D)) (c : PC)
theorem DVf.mono {K : PySem.W.Frag} {p : HD} {H H' : Hp} (e : Ext p H H') {v : List (Str × V)} {d : List (Str × D)} (h : DVf K p H v d) : DVf K p H' v d := h.sub e.hide fun _ _ z => z
theorem DVf.get {K : PySem.W.Frag} {p : HD} {H : Hp} {f : Str} {d : D} : ∀ {vs : List (Str × V)} {ds : List (Str × D)}, DVf K p H vs ds → ds.lookup f = some d → ∃ v, vs.lookup f = some v ∧ DV K p H v d
  | _, _, .nil, h => by cases h
  | _, _, .cons (f := g) (v := v) (d := x) h r, e => by
    rw [List.lookup_cons] at e ⊢
    cases q : f == g with
    | true =>
      rw [q] at e
      have e' := Option.some.inj e
      subst e'
      exact ⟨v, rfl, h⟩
    | false =>
      rw [q] at e
      exact DVf.get r e

def XW (K : PySem.W.Frag) (W : WX) (p : HD) (ρ : Rho) (H : Hp) (C : Addr) (fs : List (Str × D)) (c' : PC) : Prop :=
  ∀ (dx : Addr) (fv : List (Str × V)) (σ' : L2.St) (H' : Hp), Ext p H H' → SR K p H' σ' ρ c' → hide p H' dx = some (.xd fv) → DVf K p H' fv fs → W (.ref C) (some dx) σ' H'
def tE (K : PySem.W.Frag) (W : WX) (p : HD) (ρ : Rho) (c : PC) : EO → TE
  | .val d nw c' => fun σ H Q => SR K p H σ ρ c ∧ ∀ v H', Ext p H H' → PoolAt K p H' c' → DV K p H' v d → (nw = true → New K p H H' c' v d) → Q v H'
  | .ex C fs c' => fun σ H _ => SR K p H σ ρ c ∧ XW K W p ρ H C fs c'
def tT (K : PySem.W.Frag) (W : WX) (p : HD) (ρ : Rho) (c : PC) : TO → TT
  | .val b c' => fun σ H Q => SR K p H σ ρ c ∧ ∀ H', Ext p H H' → PoolAt K p H' c' → Q b H'
  | .ex C fs c' => fun σ H _ => SR K p H σ ρ c ∧ XW K W p ρ H C fs c'
def tA (K : PySem.W.Frag) (W : WX) (p : HD) (ρ : Rho) (c : PC) : AO → TA
  | .val ds c' => fun σ H Q => SR K p H σ ρ c ∧ ∀ vs H', Ext p H H' → PoolAt K p H' c' → DVs K p H' vs ds → Q vs H'
  | .ex C fs c' => fun σ H _ => SR K p H σ ρ c ∧ XW K W p ρ H C fs c'
def tSt (K : PySem.W.Frag) (W : WX) (p : HD) (ρ : Rho) (c : PC) : SO → TS
  | .nx ρ' c' => fun D σ H => SR K p H σ ρ c ∧ ∀ σ' H', Ext p H H' → SR K p H' σ' ρ' c' → D.nx σ' H'
  | .rt d nw c' => fun D σ H => SR K p H σ ρ c ∧ ∀ v H', Ext p H H' → PoolAt K p H' c' → DV K p H' v d → (nw = true → New K p H H' c' v d) → D.rt v H'
  | .ex C fs c' => fun D σ H => SR K p H σ ρ c ∧ ∀ (ρ' : Rho) (dx : Addr) (fv : List (Str × V)) (σ' : L2.St) (H' : Hp), Ext p H H' → SR K p H' σ' ρ' c' → ρ'.length = ρ.length → hide p H' dx = some (.xd fv) → DVf K p H' fv fs → W (.ref C) (some dx) σ' H'
abbrev RE (X : Cx) (W : WX) (p : HD) (ρ : Rho) (c : PC) (e : Expr) (o : EO) : Prop := PE X e (tE X.K W p ρ c o)
abbrev RT (X : Cx) (W : WX) (p : HD) (ρ : Rho) (c : PC) (e : Expr) (o : TO) : Prop := PT X e (tT X.K W p ρ c o)
abbrev RA (X : Cx) (W : WX) (p : HD) (ρ : Rho) (c : PC) (es : List Expr) (o : AO) : Prop := PA X es (tA X.K W p ρ c o)
abbrev RS (X : Cx) (W : WX) (p : HD) (ρ : Rho) (c : PC) (st : Stmt) (o : SO) : Prop := PS X st (tSt X.K W p ρ c o)
abbrev RSs (X : Cx) (W : WX) (p : HD) (ρ : Rho) (c : PC) (st : List Stmt) (o : SO) : Prop := PSs X st (tSt X.K W p ρ c o)
theorem pe_imp {X : Cx} {e : Expr} {t t' : TE} (h : PE X e t) (w : ∀ σ H Q, t' σ H Q → t σ H Q) : PE X e t' := ⟨fun pins s σ H Q I q => h.run pins s σ H Q I (w σ H Q q)⟩
theorem pt_imp {X : Cx} {e : Expr} {t t' : TT} (h : PT X e t) (w : ∀ σ H Q, t' σ H Q → t σ H Q) : PT X e t' := ⟨fun pins s σ H Q I q => h.run pins s σ H Q I (w σ H Q q)⟩
theorem pw_imp {X : Cx} {e : Expr} {t t' : TT} (h : PW X e t) (w : ∀ σ H Q, t' σ H Q → t σ H Q) : PW X e t' := ⟨fun wh pins s σ H Q I q => h.run wh pins s σ H Q I (w σ H Q q)⟩
theorem pa_imp {X : Cx} {e : List Expr} {t t' : TA} (h : PA X e t) (w : ∀ σ H Q, t' σ H Q → t σ H Q) : PA X e t' := ⟨fun ps pins s σ H Q I q => h.run ps pins s σ H Q I (w σ H Q q)⟩
theorem ps_imp {X : Cx} {e : Stmt} {t t' : TS} (h : PS X e t) (w : ∀ D σ H, t' D σ H → t D σ H) : PS X e t' := ⟨fun pins s σ H D I q => h.run pins s σ H D I (w D σ H q)⟩
theorem pss_imp {X : Cx} {e : List Stmt} {t t' : TS} (h : PSs X e t) (w : ∀ D σ H, t' D σ H → t D σ H) : PSs X e t' := ⟨fun pins s σ H D I q => h.run pins s σ H D I (w D σ H q)⟩
end LA

namespace LA
open PySem PySem.Spec PyProof.Rows L2
section
variable {X : Cx} {W : WX} {p : HD} {ρ : Rho} {c c1 c2 c3 : PC} {e a b : Expr} {es : List Expr} {pos : Pos} {d d1 d2 : D} {n1 n2 nw : Bool}

/-! ### words and names -/
theorem re_c {v : V} {d : D} (h : PE X e (tC v)) (hv : ∀ H, DV X.K p H v d) (hs : ∀ a, v ≠ .ref a) : RE X W p ρ c e (.val d true c) :=
  pe_imp h fun _ H _ ⟨s, k⟩ => k v H (Ext.refl p H) s.pl (hv H) fun _ => New.sc hs
theorem re_int {i : Int} {j : Nat} : RE X W p ρ c (.Constant (.int i) j pos) (.val (.int i) true c) := re_c pe_int (fun _ => .int i) (by intro a h; cases h)
theorem re_bl {i : Bool} {j : Nat} : RE X W p ρ c (.Constant (.bool i) j pos) (.val (.bl i) true c) := re_c pe_bl (fun _ => .bl i) (by intro a h; cases h)
theorem re_non {j : Nat} : RE X W p ρ c (.Constant .none j pos) (.val .non true c) := re_c pe_non (fun _ => .non) (by intro a h; cases h)
theorem re_str {x : Str} {j : Nat} : RE X W p ρ c (.Constant (.str x) j pos) (.val (.str x) true c) := re_c pe_str (fun _ => .str x) (by intro a h; cases h)
theorem re_gint {x : Str} {i : Int} {t : Tok} (hm : X.mg x = some (.int i t)) (hg : Gl X x := by rfl) (hd : (x == ("__debug__" : Str)) = false := by decide) : RE X W p ρ c (.Name x pos) (.val (.int i) true c) :=
  re_c (pe_glob (v := .int i) hg hm ⟨t, rfl⟩ hd) (fun _ => .int i) (by intro a h; cases h)
theorem re_var (i : Nat) {x : Str} (hN : X.N[i]? = some x := by rfl) (hρ : ρ[i]? = some (some d) := by rfl) (hv : Vis X.env.scope x := by first | exact Or.inl rfl | exact Or.inr (Or.inl rfl) | exact Or.inr (Or.inr rfl))
    (hd : (x == ("__debug__" : Str)) = false := by decide) (hcd : (x == ("__classdict__" : Str)) = false := by decide) : RE X W p ρ c (.Name x pos) (.val d false c) :=
  pe_imp (pe_var hN hv hd hcd) fun σ H Q ⟨s, k⟩ => by
    obtain ⟨v, h1, h2⟩ := s.at' i d hρ
    exact ⟨v, h1, k v H (Ext.refl p H) s.pl h2 fun q => nomatch q⟩

/-! ### two in a row -/
/-- what an operation on data gives -/
def OV (K : PySem.W.Frag) (p : HD) (r : R2) (x y z : D) (nw : Bool) (c : PC) : Prop :=
  ∀ (v u : V) (H : Hp) (Q : VK), DV K p H v x → DV K p H u y → PoolAt K p H c → (∀ w H', Ext p H H' → PoolAt K p H' c → DV K p H' w z → (nw = true → New K p H H' c w z) → Q w H') → r v u H Q
theorem two {ta tb : TE} {σ : L2.St} {H : Hp} {R : V → V → Hp → Prop} (s : SR X.K p H σ ρ c) (ha : ta = tE X.K W p ρ c (.val d1 n1 c1)) (hb : tb = tE X.K W p ρ c1 (.val d2 n2 c2))
    (k : ∀ v u H', Ext p H H' → PoolAt X.K p H' c2 → DV X.K p H' v d1 → DV X.K p H' u d2 → R v u H') : ta σ H fun x H1 => tb σ H1 fun y H2 => R x y H2 := by
  subst ha hb
  refine ⟨s, fun v H1 e1 p1 dv _ => ⟨s.mono e1 p1, fun u H2 e2 p2 du _ => k v u H2 (e1.trans e2) p2 (dv.mono e2) du⟩⟩
theorem re_bin {op : Operator} {r : R2} (ho : OpR X (binaryOp op) r) (ha : RE X W p ρ c a (.val d1 n1 c1)) (hb : RE X W p ρ c1 b (.val d2 n2 c2)) (hr : OV X.K p r d1 d2 d nw c2) : RE X W p ρ c (.BinOp a op b pos) (.val d nw c2) :=
  pe_imp (pe_op ho ha hb) fun σ H Q ⟨s, k⟩ => two (W := W) s rfl rfl fun v u H1 e1 p1 dv du => hr v u H1 Q dv du p1 fun w H2 e2 p2 dw hn => k w H2 (e1.trans e2) p2 dw fun q => (hn q).back e1
theorem re_cmp {op : CmpOp} {r : R2} (ho : OpR X (compareOp op) r) (ha : RE X W p ρ c a (.val d1 n1 c1)) (hb : RE X W p ρ c1 b (.val d2 n2 c2)) (hr : OV X.K p r d1 d2 d nw c2)
    (hm : behindInMarks op b = false := by first | rfl | exact nomark _) : RE X W p ρ c (.Compare a [op] [b] pos) (.val d nw c2) :=
  pe_imp (pe_cmpR ho ha hb hm) fun σ H Q ⟨s, k⟩ => two (W := W) s rfl rfl fun v u H1 e1 p1 dv du => hr v u H1 Q dv du p1 fun w H2 e2 p2 dw hn => k w H2 (e1.trans e2) p2 dw fun q => (hn q).back e1
theorem rt_cmp {op : CmpOp} {r : R2} {k : Bool} (ho : OpR X (compareOp op) r) (ha : RE X W p ρ c a (.val d1 n1 c1)) (hb : RE X W p ρ c1 b (.val d2 n2 c2)) (hr : OV X.K p r d1 d2 (.bl k) nw c2)
    (hm : behindInMarks op b = false := by first | rfl | exact nomark _) : RT X W p ρ c (.Compare a [op] [b] pos) (.val k c2) :=
  pt_imp (pt_cmpR ho ha hb hm) fun σ H Q ⟨s, kk⟩ => two (W := W) s rfl rfl fun v u H1 e1 p1 dv du => hr v u H1 _ dv du p1 fun w H2 e2 p2 dw hn => by
    cases dw
    exact ⟨k, rfl, kk H2 (e1.trans e2) p2⟩
/-! answers of operations -/
variable {K : PySem.W.Frag}
theorem ov_I {C : Int → Int → Prop} {g : Int → Int → V} {i j : Int} {z : D} (hc : C i j) (hz : ∀ H, DV K p H (g i j) z) (hs : ∀ a, g i j ≠ .ref a) : OV K p (rI C g) (.int i) (.int j) z true c := fun v u H Q dv du hp k => by
  cases dv
  cases du
  exact ⟨i, j, rfl, rfl, hc, k _ H (Ext.refl p H) hp (hz H) fun _ => New.sc hs⟩
theorem ov_I0 {g : Int → Int → V} {i j : Int} {z : D} (hz : ∀ H, DV K p H (g i j) z) (hs : ∀ a, g i j ≠ .ref a) : OV K p (rI0 g) (.int i) (.int j) z true c := fun v u H Q dv du hp k => by
  cases dv
  cases du
  exact ⟨i, j, rfl, rfl, k _ H (Ext.refl p H) hp (hz H) fun _ => New.sc hs⟩
/-- ints to an int -/
theorem ov_ii {f : Int → Int → Int} {i j : Int} : OV K p (rI0 fun i j => .int (f i j)) (.int i) (.int j) (.int (f i j)) true c := ov_I0 (fun _ => .int _) (by intro a h; cases h)
theorem ov_ib {f : Int → Int → Bool} {i j : Int} : OV K p (rI0 fun i j => .bl (f i j)) (.int i) (.int j) (.bl (f i j)) true c := ov_I0 (fun _ => .bl _) (by intro a h; cases h)
theorem ov_cii {C : Int → Int → Prop} {f : Int → Int → Int} {i j : Int} (hc : C i j) : OV K p (rI C fun i j => .int (f i j)) (.int i) (.int j) (.int (f i j)) true c := ov_I hc (fun _ => .int _) (by intro a h; cases h)
theorem ov_addS {s t : Str} (h : s.length + t.length ≤ sizeLine) : OV K p (fun x y H Q => ∃ i j, x = .str i ∧ y = .str j ∧ i.length + j.length ≤ sizeLine ∧ Q (.str (i ++ j)) H) (.str s) (.str t) (.str (s ++ t)) true c := fun v u H Q dv du hp k => by
  cases dv
  cases du
  exact ⟨s, t, rfl, rfl, h, k _ H (Ext.refl p H) hp (.str _) fun _ => New.sc (by intro a h; cases h)⟩
/-- scalars, as == takes them -/
def scD : D → Option V
  | .non => some .non
  | .bl b => some (.bl b)
  | .int i => some (.int i)
  | .str s => some (.str s)
  | _ => none
theorem dv_sc {H : Hp} {v x : V} {d : D} (h : DV K p H v d) (e : scD d = some x) : v = x := by
  cases h <;> first | exact Option.some.inj e | cases e
theorem ov_eqS {x y : D} {v u : V} (hx : scD x = some v) (hy : scD y = some u) (hs : scal v u = true) : OV K p rEq x y (.bl (decide (v = u))) true c := fun v' u' H Q dv du hp k => by
  have e1 := dv_sc dv hx
  have e2 := dv_sc du hy
  subst e1 e2
  exact ⟨hs, k _ H (Ext.refl p H) hp (.bl _) fun _ => New.sc (by intro a h; cases h)⟩
theorem ov_neS {x y : D} {v u : V} (hx : scD x = some v) (hy : scD y = some u) (hs : scal v u = true) : OV K p rNe x y (.bl (!decide (v = u))) true c := fun v' u' H Q dv du hp k => by
  have e1 := dv_sc dv hx
  have e2 := dv_sc du hy
  subst e1 e2
  exact ⟨hs, k _ H (Ext.refl p H) hp (.bl _) fun _ => New.sc (by intro a h; cases h)⟩
theorem ov_inC {ch : Nat} {z : Str} : OV K p (fun x y H Q => ∃ (c : Nat) (z : Str), x = .str ⟨#[c]⟩ ∧ y = .str z ∧ Q (.bl (decide (c ∈ z.cps.toList))) H) (.str ⟨#[ch]⟩) (.str z) (.bl (decide (ch ∈ z.cps.toList))) true c := fun v u H Q dv du hp k => by
  cases dv
  cases du
  exact ⟨ch, z, rfl, rfl, k _ H (Ext.refl p H) hp (.bl _) fun _ => New.sc (by intro a h; cases h)⟩
theorem ov_niC {ch : Nat} {z : Str} : OV K p (fun x y H Q => ∃ (c : Nat) (z : Str), x = .str ⟨#[c]⟩ ∧ y = .str z ∧ Q (.bl (!decide (c ∈ z.cps.toList))) H) (.str ⟨#[ch]⟩) (.str z) (.bl (!decide (ch ∈ z.cps.toList))) true c := fun v u H Q dv du hp k => by
  cases dv
  cases du
  exact ⟨ch, z, rfl, rfl, k _ H (Ext.refl p H) hp (.bl _) fun _ => New.sc (by intro a h; cases h)⟩
/-- flat data, as in takes it -/
theorem dvs_sc {H : Hp} : ∀ {vs xs : List V} {ds : List D}, DVs K p H vs ds → ds.map scD = xs.map some → vs = xs
  | _, [], _, .nil, _ => rfl
  | _, x :: xs, _, .cons h r, e => by
    rw [List.map_cons, List.map_cons] at e
    injection e with e1 e2
    rw [dv_sc h e1, dvs_sc r e2]
  | _, x :: xs, _, .nil, e => by cases e
  | _, [], _, .cons h r, e => by cases e
theorem ov_inT {x : D} {ds : List D} {v : V} {xs : List V} {neg : Bool} (hx : scD x = some v) (hs : ds.map scD = xs.map some) (fx : flatV v = true) (fs : xs.all flatV = true) :
    OV K p (rIn K neg) x (.tup ds) (.bl (if neg then !inV v xs else inV v xs)) true c := fun v' u' H Q dv du hp k => by
  have e1 := dv_sc dv hx
  subst e1
  cases du with
  | tup h r =>
    have e2 := dvs_sc r hs
    subst e2
    exact ⟨_, _, rfl, .inr (un_sqT h), fx, fs, k _ H (Ext.refl p H) hp (.bl _) fun _ => New.sc (by intro a h; cases h)⟩

/-! ### and, or, not, if -/
theorem re_one {op : BoolOpKind} (h : True) : True := trivial
theorem re_and {rest : List Expr} {k1 k2 : Bool} (ha : RE X W p ρ c a (.val (.bl k1) n1 c1)) (hb : k1 = true → RE X W p ρ c1 (.BoolOp .And (b :: rest) pos) (.val (.bl k2) true c1)) : RE X W p ρ c (.BoolOp .And (a :: b :: rest) pos) (.val (.bl (k1 && k2)) true c1) := by
  cases k1 with
  | true =>
    exact pe_imp (pe_and ha (hb rfl)) fun σ H Q ⟨s, k⟩ => ⟨s, fun v H1 e1 p1 dv _ => by
      cases dv
      exact ⟨true, rfl, s.mono e1 p1, fun u H2 e2 p2 du hn => k u H2 (e1.trans e2) p2 du fun q => (hn q).back e1⟩⟩
  | false =>
    have hN : PE X (.BoolOp .And (b :: rest) pos) (fun _ _ _ => False) := ⟨fun _ _ _ _ _ _ z => z.elim⟩
    exact pe_imp (pe_and ha hN) fun σ H Q ⟨s, k⟩ => ⟨s, fun v H1 e1 p1 dv _ => by
      cases dv
      refine ⟨false, rfl, ?_⟩
      refine iteF ?_
      exact k _ H1 e1 p1 (.bl false) fun _ => New.sc (by intro a h; cases h)⟩
theorem re_and1 {op : BoolOp} (h : RE X W p ρ c a (.val d nw c1)) : RE X W p ρ c (.BoolOp op [a] pos) (.val d nw c1) := pe_one h
theorem re_if {t : Expr} {k : Bool} {o : EO} (ht : RT X W p ρ c t (.val k c1)) (h1 : k = true → RE X W p ρ c1 a o) (h2 : k = false → RE X W p ρ c1 b o) : RE X W p ρ c (.IfExp t a b pos) o := by
  have N : ∀ e, PE X e (fun _ _ _ => False) := fun e => ⟨fun _ _ _ _ _ _ z => z.elim⟩
  cases k with
  | true =>
    refine pe_imp (pe_ifExp ht (h1 rfl) (N b)) fun σ H Q h => ?_
    cases o with
    | val d nw c' => exact ⟨h.1, fun H1 e1 p1 => ⟨h.1.mono e1 p1, fun v H2 e2 p2 dv hn => h.2 v H2 (e1.trans e2) p2 dv fun q => (hn q).back e1⟩⟩
    | ex C fs c' => exact ⟨h.1, fun H1 e1 p1 => ⟨h.1.mono e1 p1, fun dx fv σ' H2 e2 s2 hx hf => h.2 dx fv σ' H2 (e1.trans e2) s2 hx hf⟩⟩
  | false =>
    refine pe_imp (pe_ifExp ht (N a) (h2 rfl)) fun σ H Q h => ?_
    cases o with
    | val d nw c' =>
      refine ⟨h.1, fun H1 e1 p1 => ?_⟩
      refine iteF ?_
      exact ⟨h.1.mono e1 p1, fun v H2 e2 p2 dv hn => h.2 v H2 (e1.trans e2) p2 dv fun q => (hn q).back e1⟩
    | ex C fs c' =>
      refine ⟨h.1, fun H1 e1 p1 => ?_⟩
      refine iteF ?_
      exact ⟨h.1.mono e1 p1, fun dx fv σ' H2 e2 s2 hx hf => h.2 dx fv σ' H2 (e1.trans e2) s2 hx hf⟩
/-- a bool as a test -/
theorem rt_val {k : Bool} (h : RE X W p ρ c e (.val (.bl k) nw c1)) (he : ∀ whole, isTrue e X.env whole = (do let v ← whole; standAt e.pos; holding [v] (truthy v)) := by intro _; rfl) : RT X W p ρ c e (.val k c1) :=
  pt_imp (pt_val h he) fun σ H Q ⟨s, kk⟩ => ⟨s, fun v H1 e1 p1 dv _ => by
    cases dv
    exact ⟨k, rfl, kk H1 e1 p1⟩⟩
theorem rt_ex {C : Addr} {fs : List (Str × D)} (h : RE X W p ρ c e (.ex C fs c1)) (he : ∀ whole, isTrue e X.env whole = (do let v ← whole; standAt e.pos; holding [v] (truthy v)) := by intro _; rfl) : RT X W p ρ c e (.ex C fs c1) :=
  pt_imp (pt_val h he) fun σ H Q q => q
/-- a list's truth -/
theorem rt_lst {g : G} {ds : List D} (h : RE X W p ρ c e (.val (.lst g ds) nw c1)) (he : ∀ whole, isTrue e X.env whole = (do let v ← whole; standAt e.pos; holding [v] (truthy v)) := by intro _; rfl) : RT X W p ρ c e (.val (!ds.isEmpty) c1) :=
  pt_imp (pt_truth h he) fun σ H Q ⟨s, kk⟩ => ⟨s, fun v H1 e1 p1 dv _ => by
    cases dv with
    | lst _ h r =>
      refine ⟨!ds.isEmpty, .inl ⟨_, un_sqL h, ?_⟩, kk H1 e1 p1⟩
      cases r <;> rfl⟩
theorem rt_not {k : Bool} (h : RT X W p ρ c a (.val k c1)) : RT X W p ρ c (.UnaryOp .Not a pos) (.val (!k) c1) :=
  pt_imp (pt_not h) fun σ H Q ⟨s, kk⟩ => ⟨s, fun H1 e1 p1 => kk H1 e1 p1⟩
def RW (X : Cx) (W : WX) (p : HD) (ρ : Rho) (c : PC) (e : Expr) (o : TO) : Prop := PW X e (tT X.K W p ρ c o)
theorem rw_or {rest : List Expr} {k1 k2 : Bool} (ha : RT X W p ρ c a (.val k1 c1)) (hb : k1 = false → RW X W p ρ c1 (.BoolOp .Or (b :: rest) pos) (.val k2 c1)) : RW X W p ρ c (.BoolOp .Or (a :: b :: rest) pos) (.val (k1 || k2) c1) := by
  have N : PW X (.BoolOp .Or (b :: rest) pos) (fun _ _ _ => False) := ⟨fun _ _ _ _ _ _ _ z => z.elim⟩
  cases k1 with
  | true =>
    exact pw_imp (pw_or ha N) fun σ H Q ⟨s, kk⟩ => ⟨s, fun H1 e1 p1 => kk H1 e1 p1⟩
  | false =>
    refine pw_imp (pw_or ha (hb rfl)) fun σ H Q ⟨s, kk⟩ => ⟨s, fun H1 e1 p1 => ?_⟩
    refine iteF ?_
    exact ⟨s.mono e1 p1, fun H2 e2 p2 => kk H2 (e1.trans e2) p2⟩
theorem rw_or1 {k : Bool} (ha : RT X W p ρ c a (.val k c1)) : RW X W p ρ c (.BoolOp .Or [a] pos) (.val k c1) := pw_or1 ha
theorem rw_and {rest : List Expr} {k1 k2 : Bool} (ha : RT X W p ρ c a (.val k1 c1)) (hb : k1 = true → RW X W p ρ c1 (.BoolOp .And (b :: rest) pos) (.val k2 c1)) : RW X W p ρ c (.BoolOp .And (a :: b :: rest) pos) (.val (k1 && k2) c1) := by
  have N : PW X (.BoolOp .And (b :: rest) pos) (fun _ _ _ => False) := ⟨fun _ _ _ _ _ _ _ z => z.elim⟩
  cases k1 with
  | false =>
    refine pw_imp (pw_and ha N) fun σ H Q ⟨s, kk⟩ => ⟨s, fun H1 e1 p1 => ?_⟩
    refine iteF ?_
    exact kk H1 e1 p1
  | true =>
    exact pw_imp (pw_and ha (hb rfl)) fun σ H Q ⟨s, kk⟩ => ⟨s, fun H1 e1 p1 => ⟨s.mono e1 p1, fun H2 e2 p2 => kk H2 (e1.trans e2) p2⟩⟩
theorem rw_and1 {k : Bool} (ha : RT X W p ρ c a (.val k c1)) : RW X W p ρ c (.BoolOp .And [a] pos) (.val k c1) := pw_and1 ha
theorem RW.rt {o : TO} (h : RW X W p ρ c e o) : RT X W p ρ c e o := PW.pt h

/-! ### arguments, displays -/
theorem ra_nil : RA X W p ρ c [] (.val [] c) := pa_imp pa_nil fun σ H Q ⟨s, k⟩ => k [] H (Ext.refl p H) s.pl .nil
theorem ra_cons {ds : List D} (ha : RE X W p ρ c e (.val d nw c1)) (hr : RA X W p ρ c1 es (.val ds c2)) (hs : starEach (e :: es) X.env = (false, eval e X.env) :: starEach es X.env := by rfl) : RA X W p ρ c (e :: es) (.val (d :: ds) c2) :=
  pa_imp (pa_cons ha hr hs) fun σ H Q ⟨s, k⟩ => ⟨s, fun v H1 e1 p1 dv _ => ⟨s.mono e1 p1, fun vs H2 e2 p2 dvs => k (v :: vs) H2 (e1.trans e2) p2 (.cons (dv.mono e2) dvs)⟩⟩
theorem sz_le {n : Nat} (h : n ≤ 100000) : n ≤ sizeLine := Nat.le_trans h (by decide)
theorem sz_lt {n : Nat} (h : n < 100000) : n < sizeLine := Nat.lt_of_lt_of_le h (by decide)
theorem hide_upd {p : HD} {H : Hp} {c : PC} {a : Addr} {o : HO} (hp : PoolAt K p H c) (n : H a = none) : hide p (upd H a o) a = some o := by
  rw [hide_ne (hp.not n), upd_same]
/-- a written list stands behind the run's own objects -/
def tLstB (t : TA) : TE := fun σ H Q => t σ H fun xs H1 => xs.length ≤ sizeLine ∧ ∀ p, H1 p = none → p ≠ sysModules → Q (.ref p) (upd H1 p (.lst xs))
theorem pe_lstB {t : TA} (h : PA X es t) : PE X (.List es pos) (tLstB t) := ⟨fun pins s σ H Q I hq =>
  wpAny_List_spliced (thn (h.run pos pins s σ H _ I hq) fun us sh ⟨vs, H1, J, rv, hz, q⟩ => by
    have nf : H1 sh.heap.objs.size = none := J.hok.fresh (Nat.le_refl _)
    refine ⟨by rw [← rv.length]; exact hz, .ref sh.heap.objs.size, upd H1 sh.heap.objs.size (.lst vs), ?_, rfl, q _ nf (Nat.ne_of_gt J.big)⟩
    exact J.laid (t' := sh.toks) (fun b u y => Heap.get?_push_of_some _ y) (Nat.le_refl _) ⟨hz, us, 0, rv, Heap.get?_push_size _ rfl⟩)⟩
theorem re_lst {ds : List D} (h : RA X W p ρ c es (.val ds c1)) (hl : ds.length ≤ 100000) : RE X W p ρ c (.List es pos) (.val (.lst ⟨true, true⟩ ds) true c1) :=
  pe_imp (pe_lstB h) fun σ H Q ⟨s, k⟩ => ⟨s, fun vs H1 e1 p1 dvs => ⟨by rw [dvs.length]; exact sz_le hl, fun a n hb =>
    k _ _ (e1.trans (Ext.new n)) (p1.upd n) (.lst ⟨fun _ => hb, fun _ => hide_upd p1 n⟩ (.inl (.inl (hide_upd p1 n))) (dvs.mono (Ext.new n))) fun _ => (New.lst p1 n dvs).back e1⟩⟩
theorem re_tup {ds : List D} {x1 : Nat} (h : RA X W p ρ c es (.val ds c1)) (hl : ds.length ≤ 100000) : RE X W p ρ c (.Tuple es x1 pos) (.val (.tup ds) true c1) :=
  pe_imp (pe_tup h) fun σ H Q ⟨s, k⟩ => ⟨s, fun vs H1 e1 p1 dvs => ⟨by rw [dvs.length]; exact sz_le hl, fun a n =>
    k _ _ (e1.trans (Ext.new n)) (p1.upd n) (.tup (.inl (.inl (hide_upd p1 n))) (dvs.mono (Ext.new n))) fun _ => (New.oth p1 n (by intro _ _ z; cases z)).back e1⟩⟩

/-! ### subscripts -/
theorem re_ix {r : R2} (hr : IxR X r) (ha : RE X W p ρ c a (.val d1 n1 c1)) (hb : RE X W p ρ c1 b (.val d2 n2 c2)) (hv : OV X.K p r d1 d2 d nw c2) (hs : PlainIx b := by exact fun _ _ => rfl) : RE X W p ρ c (.Subscript a b pos) (.val d nw c2) :=
  pe_imp (pe_ix hr ha hb hs) fun σ H Q ⟨s, k⟩ => two (W := W) s rfl rfl fun v u H1 e1 p1 dv du => hv v u H1 Q dv du p1 fun w H2 e2 p2 dw hn => k w H2 (e1.trans e2) p2 dw fun q => (hn q).back e1
theorem dvs_atI {H : Hp} {vs : List V} {ds : List D} {i : Int} {j : Nat} {d : D} (r : DVs K p H vs ds) (e : i = (j : Int)) (h : ds[j]? = some d) : ∃ v, atI vs i = some v ∧ DV K p H v d := by
  obtain ⟨v, h1, h2⟩ := r.get h
  exact ⟨v, at_of e h1, h2⟩
theorem ov_ixL {g : G} {ds : List D} {i : Int} {j : Nat} {d : D} (e : i = (j : Int)) (h : ds[j]? = some d) : OV K p (rIx K) (.lst g ds) (.int i) d false c := fun v u H Q dv du hp k => by
  cases dv with
  | lst _ hq r =>
    cases du
    obtain ⟨w, h1, h2⟩ := dvs_atI r e h
    exact .inl ⟨_, _, i, w, rfl, rfl, un_sqL hq, h1, k w H (Ext.refl p H) hp h2 fun q => nomatch q⟩
theorem ov_ixT {ds : List D} {i : Int} {j : Nat} {d : D} (e : i = (j : Int)) (h : ds[j]? = some d) : OV K p (rIx K) (.tup ds) (.int i) d false c := fun v u H Q dv du hp k => by
  cases dv with
  | tup hq r =>
    cases du
    obtain ⟨w, h1, h2⟩ := dvs_atI r e h
    exact .inr (.inl ⟨_, _, i, w, rfl, rfl, un_sqT hq, h1, k w H (Ext.refl p H) hp h2 fun q => nomatch q⟩)
theorem ov_ixS {s : Str} {i : Int} {j : Nat} {ch : Nat} (hz : s.length ≤ sizeLine) (e : i = (j : Int)) (h : s.cps.toList[j]? = some ch) : OV K p (rIx K) (.str s) (.int i) (.str ⟨#[ch]⟩) true c := fun v u H Q dv du hp k => by
  cases dv
  cases du
  exact .inr (.inr ⟨s, i, ch, rfl, rfl, hz, (by rw [e]; exact atI_nat h), k _ H (Ext.refl p H) hp (.str _) fun _ => New.sc (by intro a h; cases h)⟩)

/-! ### calls of built-ins -/
def CV (K : PySem.W.Frag) (p : HD) (r : List V → Hp → VK → Prop) (xs : List D) (z : D) (nw : Bool) (c : PC) : Prop :=
  ∀ (vs : List V) (H : Hp) (Q : VK), DVs K p H vs xs → PoolAt K p H c → (∀ w H', Ext p H H' → PoolAt K p H' c → DV K p H' w z → (nw = true → New K p H H' c w z) → Q w H') → r vs H Q
theorem re_callB {id : String} {x : Str} {ps : Pos} {r : List V → Hp → VK → Prop} {ds : List D} (hc : CallR X (.builtin id) r) (hm : X.mg x = none) (hv : bootBuiltins x = some (.builtin id)) (ha : RA X W p ρ c (e :: es) (.val ds c1)) (hr : CV X.K p r ds d nw c1)
    (hg : Gl X x := by rfl) (hn : x ≠ "__name__" := by decide) (hdb : (x == ("__debug__" : Str)) = false := by decide)
    (he : starEach (e :: es) X.env = (false, eval e X.env) :: starEach es X.env := by rfl) (hpl : (backTo pos (starEach es X.env)).any (·.1) = false := by rfl) : RE X W p ρ c (.Call (.Name x ps) (e :: es) [] pos) (.val d nw c1) :=
  pe_imp (pe_callB hc hg hm hv ha hn hdb he hpl) fun σ H Q ⟨s, k⟩ => ⟨s, fun vs H1 e1 p1 dvs => hr vs H1 Q dvs p1 fun w H2 e2 p2 dw hn => k w H2 (e1.trans e2) p2 dw fun q => (hn q).back e1⟩
theorem re_callT {T : String} {x : Str} {ps : Pos} {r : List V → Hp → VK → Prop} {ds : List D} (hc : CallR X (.type T) r) (hm : X.mg x = none) (hv : bootBuiltins x = some (.type T)) (ha : RA X W p ρ c (e :: es) (.val ds c1)) (hr : CV X.K p r ds d nw c1)
    (hg : Gl X x := by rfl) (hn : x ≠ "__name__" := by decide) (hdb : (x == ("__debug__" : Str)) = false := by decide)
    (he : starEach (e :: es) X.env = (false, eval e X.env) :: starEach es X.env := by rfl) (hpl : (backTo pos (starEach es X.env)).any (·.1) = false := by rfl) : RE X W p ρ c (.Call (.Name x ps) (e :: es) [] pos) (.val d nw c1) :=
  pe_imp (pe_callTy hc hg hm hv ha hn hdb he hpl) fun σ H Q ⟨s, k⟩ => ⟨s, fun vs H1 e1 p1 dvs => hr vs H1 Q dvs p1 fun w H2 e2 p2 dw hn => k w H2 (e1.trans e2) p2 dw fun q => (hn q).back e1⟩
theorem cv_lenS {s : Str} (hz : s.length ≤ sizeLine) : CV K p (fun xs H Q => ∃ z, xs = [.str z] ∧ z.length ≤ sizeLine ∧ Q (.int z.length) H) [.str s] (.int s.length) true c := fun vs H Q dvs hp k => by
  cases dvs with
  | cons h r =>
    cases r
    cases h
    exact ⟨s, rfl, hz, k _ H (Ext.refl p H) hp (.int _) fun _ => New.sc (by intro a h; cases h)⟩
theorem cv_int {i : Int} : CV K p (fun xs H Q => (∃ i, xs = [.int i] ∧ Q (.int i) H) ∨ ∃ k, xs = [.bl k] ∧ Q (.int (if k then 1 else 0)) H) [.int i] (.int i) true c := fun vs H Q dvs hp k => by
  cases dvs with
  | cons h r =>
    cases r
    cases h
    exact .inl ⟨i, rfl, k _ H (Ext.refl p H) hp (.int _) fun _ => New.sc (by intro a h; cases h)⟩
end
end LA

namespace LA
open PySem PySem.Spec PyProof.Rows L2
/-! ### what a def promises -/
abbrev FSpec := List D → PC → EO → Prop
def FO (K : PySem.W.Frag) (p : HD) (H : Hp) (Q : VK) (E : XK) : EO → Prop
  | .val d nw c' => ∀ v H', Ext p H H' → PoolAt K p H' c' → DV K p H' v d → (nw = true → New K p H H' c' v d) → Q v H'
  | .ex C fs c' => ∀ (dx : Addr) (fv : List (Str × V)) (H' : Hp), Ext p H H' → PoolAt K p H' c' → hide p H' dx = some (.xd fv) → DVf K p H' fv fs → E (.ref C) (some dx) H'
def spF (K : PySem.W.Frag) (R : FSpec) : Sp := fun vs H Q E => ∃ (p : HD) (c : PC) (ds : List D) (o : EO), DVs K p H vs ds ∧ PoolAt K p H c ∧ R ds c o ∧ FO K p H Q E o
def startR (N : List Str) (ds : List D) : Rho := ds.map some ++ List.replicate (N.length - ds.length) none
theorem sr_start {K : PySem.W.Frag} {p : HD} {H : Hp} {c : PC} {N : List Str} {vs : List V} {ds : List D} (h : DVs K p H vs ds) (q : PoolAt K p H c) : SR K p H (L2.start N vs) (startR N ds) c := by
  have hl := h.length
  refine ⟨?_, fun i d e => ?_, q⟩
  · unfold L2.start startR
    rw [List.length_append, List.length_append, List.length_map, List.length_map, List.length_replicate, List.length_replicate, hl]
  · unfold startR at e
    by_cases hi : i < ds.length
    · rw [List.getElem?_append_left (by rw [List.length_map]; exact hi), List.getElem?_map] at e
      cases g : ds[i]? with
      | none =>
        rw [g] at e
        cases e
      | some x =>
        rw [g] at e
        have e' : x = d := Option.some.inj (Option.some.inj e)
        subst e'
        obtain ⟨v, h1, h2⟩ := h.get g
        refine ⟨v, ?_, h2⟩
        unfold L2.start
        rw [List.getElem?_append_left (by rw [List.length_map, hl]; exact hi), List.getElem?_map, h1]
        rfl
    · rw [List.getElem?_append_right (by rw [List.length_map]; omega), List.getElem?_replicate] at e
      split at e <;> cases e
section
variable {X : Cx} {W : WX} {p : HD} {ρ ρ1 : Rho} {c c1 c2 c3 : PC} {e a b : Expr} {es : List Expr} {pos : Pos} {d d1 d2 : D} {n1 n2 nw : Bool} {o : EO} {so : SO} {st : Stmt} {rest : List Stmt}
variable {CX : CXT} {k : Nat} {f : Addr} {fd : FuncData} {ps : List Str} {R : FSpec} {x : Str} {xp : Pos} {ds : List D}
/-- a def that raises nothing is called -/
theorem re_call (G : FnOk X.prog X.w X.K X.mg X.base CX0 k f fd ps (spF X.K R)) (hr : Room k X.A) (hm : X.mg x = some (.ref f)) (hk : PySem.W.keepIn X.K (.ref f) = true) (hb : Binds X.K fd ps []) (ha : RA X W p ρ c (e :: es) (.val ds c1)) (ho : R ds c1 (.val d nw c2))
    (hg : Gl X x := by rfl) (hdb : (x == ("__debug__" : Str)) = false := by decide) (he : starEach (e :: es) X.env = (false, eval e X.env) :: starEach es X.env := by rfl) (hpl : (backTo pos (starEach es X.env)).any (·.1) = false := by rfl) :
    RE X W p ρ c (.Call (.Name x xp) (e :: es) [] pos) (.val d nw c2) :=
  pe_imp (pe_call G hr hg hm hk hb .nil pass0 ha hdb he hpl) fun σ H Q ⟨s, kk⟩ => ⟨s, fun vs H1 e1 p1 dvs => by
    show spF X.K R (vs ++ []) H1 Q E0
    rw [List.append_nil]
    exact ⟨p, c1, ds, .val d nw c2, dvs, p1, ho, fun v H2 e2 p2 dv hn => kk v H2 (e1.trans e2) p2 dv fun q => (hn q).back e1⟩⟩
theorem fo_at {K : PySem.W.Frag} {σ : L2.St} {H H1 : Hp} {Q : VK} (h : tE K W p ρ c o σ H Q) (e1 : Ext p H H1) : FO K p H1 Q (WE W σ) o := by
  cases o with
  | val d nw c' => exact fun v H2 e2 p2 dv hn => h.2 v H2 (e1.trans e2) p2 dv fun q => (hn q).back e1
  | ex C fs c' => exact fun dx fv H2 e2 p2 hx hf => h.2 dx fv σ H2 (e1.trans e2) (h.1.mono (e1.trans e2) p2) hx hf
theorem tE_sr {K : PySem.W.Frag} {σ : L2.St} {H : Hp} {Q : VK} (h : tE K W p ρ c o σ H Q) : SR K p H σ ρ c := by
  cases o <;> exact h.1
/-- a def that may raise is called -/
theorem re_callX (tk : Takes X W) (G : FnOk X.prog X.w X.K X.mg X.base (L2.CX X.prog X.w) k f fd ps (spF X.K R)) (hr : Room k X.A) (hm : X.mg x = some (.ref f)) (hk : PySem.W.keepIn X.K (.ref f) = true) (hb : Binds X.K fd ps []) (ha : RA X W p ρ c (e :: es) (.val ds c1)) (ho : R ds c1 o)
    (hg : Gl X x := by rfl) (hdb : (x == ("__debug__" : Str)) = false := by decide) (he : starEach (e :: es) X.env = (false, eval e X.env) :: starEach es X.env := by rfl) (hpl : (backTo pos (starEach es X.env)).any (·.1) = false := by rfl) :
    RE X W p ρ c (.Call (.Name x xp) (e :: es) [] pos) o :=
  pe_imp (pe_callS G hr hg hm hk hb (fun σ => passAt tk σ) ha hdb he hpl) fun σ H Q h => ⟨tE_sr h, fun vs H1 e1 p1 dvs => ⟨p, c1, ds, o, dvs, p1, ho, fo_at h e1⟩⟩
/-! with keywords -/
def tCallKS (n m : Nat) (sp : Sp) (gV : List V → List V → List V) (E : L2.St → XK) (t tk : TA) : TE := fun σ H Q => t σ H fun vs H1 => tk σ H1 fun zs H2 => vs.length = n ∧ zs.length = m ∧ sp (gV vs zs) H2 Q (E σ)
theorem run_fnKS {n : Nat} {ks : List Str} {g : List Value → List Value → List Value} {gV : List V → List V → List V} {sp : Sp} {E : L2.St → XK} {pins : List (Addr × Obj)} {σ : L2.St} {H : Hp} {s : Shared} {Q : VK} {us ws : List Value} {vs zs : List V}
    (F : FnOk X.prog X.w X.K X.mg X.base CX k f fd ps sp) (hr : Room k X.A) (hb : KBn X.K fd ps n ks g gV) (hx : PassesAt CX X σ (E σ))
    (I : Inv X pins σ H s) (r : Vals vs us) (rz : Vals zs ws) (l1 : vs.length = n) (l2 : zs.length = ks.length) (h : sp (gV vs zs) H Q (E σ)) : wpAny (model X.prog X.w) X.A (call (.ref f) us (ks.zip ws)) (EP X pins σ Q) X.xe s := by
  have r2 := hb.rel r rz
  refine wpAny_call (codeAny_mono (F.run X.A X.stack s H ⟨us, ks.zip ws⟩ (g us ws) (gV vs zs) Q (E σ) hr I.env0 (hb.to s us ws I.kIn (r.length.symm.trans l1) (rz.length.symm.trans l2)) r2 h) fun r s' hq => ?_)
  cases r with
  | error e => exact hx pins H s e s' I hq
  | ok fl =>
    cases fl with
    | ret u => exact I.after hq
    | next => exact False.elim hq
    | brk => exact False.elim hq
    | cont => exact False.elim hq
theorem pe_callKS {n : Nat} {ks : List Str} {g : List Value → List Value → List Value} {gV : List V → List V → List V} {sp : Sp} {E : L2.St → XK} {kws : List Keyword} {t tk : TA} (F : FnOk X.prog X.w X.K X.mg X.base CX k f fd ps sp) (hr : Room k X.A) (hg : Gl X x) (hm : X.mg x = some (.ref f)) (hk : PySem.W.keepIn X.K (.ref f) = true) (hb : KBn X.K fd ps n ks g gV) (hx : ∀ σ, PassesAt CX X σ (E σ))
    (ha : PA X (e :: es) t) (hkw : PK X kws tk) (hall : (backToKw pos (keywordEach kws X.env)).all (·.1.isSome) = true := by rfl) (hks : (backToKw pos (keywordEach kws X.env)).filterMap (·.1) = ks := by rfl)
    (hdb : (x == ("__debug__" : Str)) = false := by decide) (he : starEach (e :: es) X.env = (false, eval e X.env) :: starEach es X.env := by rfl)
    (hpl : ((backTo pos (starEach (e :: es) X.env)).any (·.1) || (backToKw pos (keywordEach kws X.env)).any (·.1.isNone)) = false := by rfl) :
    PE X (.Call (.Name x xp) (e :: es) kws pos) (tCallKS n ks.length sp gV E t tk) := by
  refine ⟨fun pins s σ H Q I h => ?_⟩
  refine wpAny_Call_Name_kw (ld_glob I hg hm ?_ hdb)
  refine PySem.W.callWith_KW (h₀ := X.base) I.ok.mod.kin hk hall (thn (ha.run pos pins s σ H _ I h) fun us s1 ⟨vs, H1, I1, r, q⟩ => ?_) hpl he
  refine thn (hkw.run pos pins s1 σ H1 _ I1 q) fun ws s2 ⟨zs, H2, I2, rz, l1, l2, q2⟩ => ⟨I2.kIn, ?_⟩
  rw [hks]
  exact run_fnKS F hr hb (hx σ) I2 r rz l1 l2 q2
theorem pe_callKS0 {ks : List Str} {g : List Value → List Value → List Value} {gV : List V → List V → List V} {sp : Sp} {E : L2.St → XK} {kws : List Keyword} {tk : TA} (F : FnOk X.prog X.w X.K X.mg X.base CX k f fd ps sp) (hr : Room k X.A) (hg : Gl X x) (hm : X.mg x = some (.ref f)) (hk : PySem.W.keepIn X.K (.ref f) = true) (hb : KBn X.K fd ps 0 ks g gV) (hx : ∀ σ, PassesAt CX X σ (E σ))
    (hkw : PK X kws tk) (hall : (backToKw pos (keywordEach kws X.env)).all (·.1.isSome) = true := by rfl) (hks : (backToKw pos (keywordEach kws X.env)).filterMap (·.1) = ks := by rfl)
    (hdb : (x == ("__debug__" : Str)) = false := by decide)
    (hpl : ((backTo pos (starEach [] X.env)).any (·.1) || (backToKw pos (keywordEach kws X.env)).any (·.1.isNone)) = false := by rfl) :
    PE X (.Call (.Name x xp) [] kws pos) (tCallKS 0 ks.length sp gV E tNil tk) := by
  refine ⟨fun pins s σ H Q I h => ?_⟩
  refine wpAny_Call_Name_kw (ld_glob I hg hm ?_ hdb)
  have h : tk σ H fun zs H2 => ([] : List V).length = 0 ∧ zs.length = ks.length ∧ sp (gV [] zs) H2 Q (E σ) := h
  refine PySem.W.callWith_KW0 (h₀ := X.base) I.ok.mod.kin hk hall (thn (hkw.run pos pins s σ H _ I h) fun ws s2 ⟨zs, H2, I2, rz, l1, l2, q2⟩ => ⟨I2.kIn, ?_⟩) hpl
  rw [hks]
  exact run_fnKS F hr hb (hx σ) I2 .nil rz l1 l2 q2
abbrev RK (X : Cx) (W : WX) (p : HD) (ρ : Rho) (c : PC) (ks : List Keyword) (o : AO) : Prop := PK X ks (tA X.K W p ρ c o)
theorem pk_imp {ks : List Keyword} {t t' : TA} (h : PK X ks t) (w : ∀ σ H Q, t' σ H Q → t σ H Q) : PK X ks t' := ⟨fun ps pins s σ H Q I q => h.run ps pins s σ H Q I (w σ H Q q)⟩
theorem rk_nil : RK X W p ρ c [] (.val [] c) := pk_imp pk_nil fun σ H Q ⟨s, k⟩ => k [] H (Ext.refl p H) s.pl .nil
theorem rk_cons {nm : Option Str} {kpos : Pos} {kws : List Keyword} {ds : List D} (ha : RE X W p ρ c e (.val d nw c1)) (hr : RK X W p ρ c1 kws (.val ds c2)) : RK X W p ρ c (⟨nm, e, kpos⟩ :: kws) (.val (d :: ds) c2) :=
  pk_imp (pk_cons ha hr) fun σ H Q ⟨s, k⟩ => ⟨s, fun v H1 e1 p1 dv _ => ⟨s.mono e1 p1, fun vs H2 e2 p2 dvs => k (v :: vs) H2 (e1.trans e2) p2 (.cons (dv.mono e2) dvs)⟩⟩
/-- f(a, .., k = v, ..): one positional value, one keyword, two parameters in that order -/
theorem re_callX1K {n : Nat} {ks : List Str} {g : List Value → List Value → List Value} {gV : List V → List V → List V} {kws : List Keyword} {es' : List D} (tk : Takes X W) (G : FnOk X.prog X.w X.K X.mg X.base (L2.CX X.prog X.w) k f fd ps (spF X.K R)) (hr : Room k X.A) (hm : X.mg x = some (.ref f)) (hk : PySem.W.keepIn X.K (.ref f) = true)
    (hb : KBn X.K fd ps n ks g gV) (ha : RA X W p ρ c (e :: es) (.val ds c1)) (hkw : RK X W p ρ c1 kws (.val es' c2)) (hn1 : ds.length = n) (hn2 : es'.length = ks.length) {gD : List D} (hg' : ∀ {H : Hp} {vs zs : List V}, DVs X.K p H vs ds → DVs X.K p H zs es' → DVs X.K p H (gV vs zs) gD) (ho : R gD c2 o)
    (hg : Gl X x := by rfl) (hall : (backToKw pos (keywordEach kws X.env)).all (·.1.isSome) = true := by rfl) (hks : (backToKw pos (keywordEach kws X.env)).filterMap (·.1) = ks := by rfl)
    (hdb : (x == ("__debug__" : Str)) = false := by decide) (he : starEach (e :: es) X.env = (false, eval e X.env) :: starEach es X.env := by rfl)
    (hpl : ((backTo pos (starEach (e :: es) X.env)).any (·.1) || (backToKw pos (keywordEach kws X.env)).any (·.1.isNone)) = false := by rfl) :
    RE X W p ρ c (.Call (.Name x xp) (e :: es) kws pos) o :=
  pe_imp (pe_callKS G hr hg hm hk hb (fun σ => passAt tk σ) ha hkw hall hks hdb he hpl) fun σ H Q h => ⟨tE_sr h, fun vs H1 e1 p1 dvs => ⟨(tE_sr h).mono e1 p1, fun zs H2 e2 p2 dzs =>
    ⟨by rw [dvs.length]; exact hn1, by rw [dzs.length]; exact hn2, p, c2, gD, o, hg' (dvs.mono e2) dzs, p2, ho, fo_at h (e1.trans e2)⟩⟩⟩
theorem re_callX0K {ks : List Str} {g : List Value → List Value → List Value} {gV : List V → List V → List V} {kws : List Keyword} {es' : List D} (tk : Takes X W) (G : FnOk X.prog X.w X.K X.mg X.base (L2.CX X.prog X.w) k f fd ps (spF X.K R)) (hr : Room k X.A) (hm : X.mg x = some (.ref f)) (hk : PySem.W.keepIn X.K (.ref f) = true)
    (hb : KBn X.K fd ps 0 ks g gV) (hkw : RK X W p ρ c kws (.val es' c2)) (hn2 : es'.length = ks.length) {gD : List D} (hg' : ∀ {H : Hp} {zs : List V}, DVs X.K p H zs es' → DVs X.K p H (gV [] zs) gD) (ho : R gD c2 o)
    (hg : Gl X x := by rfl) (hall : (backToKw pos (keywordEach kws X.env)).all (·.1.isSome) = true := by rfl) (hks : (backToKw pos (keywordEach kws X.env)).filterMap (·.1) = ks := by rfl)
    (hdb : (x == ("__debug__" : Str)) = false := by decide)
    (hpl : ((backTo pos (starEach [] X.env)).any (·.1) || (backToKw pos (keywordEach kws X.env)).any (·.1.isNone)) = false := by rfl) :
    RE X W p ρ c (.Call (.Name x xp) [] kws pos) o :=
  pe_imp (pe_callKS0 G hr hg hm hk hb (fun σ => passAt tk σ) hkw hall hks hdb hpl) fun σ H Q h => ⟨tE_sr h, fun zs H2 e2 p2 dzs =>
    ⟨rfl, by rw [dzs.length]; exact hn2, p, c2, gD, o, hg' dzs, p2, ho, fo_at h e2⟩⟩

/-! ### statements -/
theorem rs_ret (h : RE X W p ρ c e (.val d nw c1)) : RS X W p ρ c (.Return (some e) pos) (.rt d nw c1) := ps_imp (ps_ret h) fun D σ H ⟨s, k⟩ => ⟨s, fun v H1 e1 p1 dv hn => k v H1 e1 p1 dv hn⟩
theorem tS_ex {K : PySem.W.Frag} {C : Addr} {fs : List (Str × D)} {De : Ends} {σ : L2.St} {H : Hp} (h : tSt K W p ρ c (.ex C fs c1) De σ H) (Q : VK) : tE K W p ρ c (.ex C fs c1) σ H Q := ⟨h.1, fun dx fv σ' H1 e1 s1 hx hf => h.2 ρ dx fv σ' H1 e1 s1 rfl hx hf⟩
theorem rs_retX {C : Addr} {fs : List (Str × D)} (h : RE X W p ρ c e (.ex C fs c1)) : RS X W p ρ c (.Return (some e) pos) (.ex C fs c1) := ps_imp (ps_ret h) fun D σ H q => tS_ex q _
theorem rs_exprX {C : Addr} {fs : List (Str × D)} (h : RE X W p ρ c e (.ex C fs c1)) (hs : swapsWith e none pos.line X.env = pure false := by rfl) : RS X W p ρ c (.Expr e pos) (.ex C fs c1) := ps_imp (ps_expr h hs) fun D σ H q => tS_ex q _
theorem rs_expr (h : RE X W p ρ c e (.val d nw c1)) (hs : swapsWith e none pos.line X.env = pure false := by rfl) : RS X W p ρ c (.Expr e pos) (.nx ρ c1) := ps_imp (ps_expr h hs) fun D σ H ⟨s, k⟩ => ⟨s, fun v H1 e1 p1 dv hn => k σ H1 e1 (s.mono e1 p1)⟩
theorem rs_set (i : Nat) {x : Str} {pos' : Pos} (hN : X.N.Nodup) (h : RE X W p ρ c e (.val d nw c1)) (hi : X.N[i]? = some x := by rfl) (hx : Loc X.env.scope x := by first | exact Or.inl rfl | exact Or.inr rfl) (hs : swapsWith e (some (.Name x pos')) pos.line X.env = pure false := by rfl)
    (hf : X.fn x = true ∨ X.env.scope.names.lookup x = some .local := by first | exact .inl rfl | exact .inr rfl) : RS X W p ρ c (.Assign [.Name x pos'] e pos) (.nx (ρ.set i (some d)) c1) :=
  ps_imp (ps_set hN hi hx h hs hf) fun De σ H ⟨s, k⟩ => ⟨s, fun v H1 e1 p1 dv hn => k _ H1 e1 ((s.mono e1 p1).set i dv)⟩
theorem rss_nil : RSs X W p ρ c [] (.nx ρ c) := pss_imp pss_nil fun De σ H ⟨s, k⟩ => k σ H (Ext.refl p H) s
theorem rss_cons (h1 : RS X W p ρ c st (.nx ρ1 c1)) (h2 : RSs X W p ρ1 c1 rest so) (hl : ρ1.length = ρ.length := by rfl) : RSs X W p ρ c (st :: rest) so := by
  refine pss_imp (pss_cons h1 h2) fun De σ H h => ?_
  cases so with
  | nx ρ' c' => exact ⟨h.1, fun σ1 H1 e1 s1 => ⟨s1, fun σ2 H2 e2 s2 => h.2 σ2 H2 (e1.trans e2) s2⟩⟩
  | rt d nw c' => exact ⟨h.1, fun σ1 H1 e1 s1 => ⟨s1, fun v H2 e2 p2 dv hn => h.2 v H2 (e1.trans e2) p2 dv fun q => (hn q).back e1⟩⟩
  | ex C fs c' => exact ⟨h.1, fun σ1 H1 e1 s1 => ⟨s1, fun ρ' dx fv σ2 H2 e2 s2 hl' hx hf => h.2 ρ' dx fv σ2 H2 (e1.trans e2) s2 (hl'.trans hl) hx hf⟩⟩
theorem rss_ret (h1 : RS X W p ρ c st (.rt d nw c1)) : RSs X W p ρ c (st :: rest) (.rt d nw c1) := pss_imp (pss_cons h1 pss_never) fun De σ H h => h
theorem rss_ex {C : Addr} {fs : List (Str × D)} (h1 : RS X W p ρ c st (.ex C fs c1)) : RSs X W p ρ c (st :: rest) (.ex C fs c1) := pss_imp (pss_cons h1 pss_never) fun De σ H h => h
theorem st_at {K : PySem.W.Frag} {De : Ends} {σ : L2.St} {H H1 : Hp} (h : tSt K W p ρ c so De σ H) (e1 : Ext p H H1) (p1 : PoolAt K p H1 c1) : tSt K W p ρ c1 so De σ H1 := by
  cases so with
  | nx ρ' c' => exact ⟨h.1.mono e1 p1, fun σ2 H2 e2 s2 => h.2 σ2 H2 (e1.trans e2) s2⟩
  | rt d nw c' => exact ⟨h.1.mono e1 p1, fun v H2 e2 p2 dv hn => h.2 v H2 (e1.trans e2) p2 dv fun q => (hn q).back e1⟩
  | ex C fs c' => exact ⟨h.1.mono e1 p1, fun ρ' dx fv σ2 H2 e2 s2 hl hx hf => h.2 ρ' dx fv σ2 H2 (e1.trans e2) s2 hl hx hf⟩
theorem st_sr {K : PySem.W.Frag} {De : Ends} {σ : L2.St} {H : Hp} (h : tSt K W p ρ c so De σ H) : SR K p H σ ρ c := by
  cases so <;> exact h.1
theorem rs_if {t : Expr} {A B : List Stmt} {kb : Bool} (ht : RT X W p ρ c t (.val kb c1)) (h1 : kb = true → RSs X W p ρ c1 A so) (h2 : kb = false → RSs X W p ρ c1 B so) : RS X W p ρ c (.If t A B pos) so := by
  cases kb with
  | true => exact ps_imp (ps_if ht (h1 rfl) pss_never) fun De σ H h => ⟨st_sr h, fun H1 e1 p1 => st_at h e1 p1⟩
  | false => exact ps_imp (ps_if ht pss_never (h2 rfl)) fun De σ H h => ⟨st_sr h, fun H1 e1 p1 => iteF (st_at h e1 p1)⟩
theorem rs_ifX {t : Expr} {A B : List Stmt} {C : Addr} {fs : List (Str × D)} (ht : RT X W p ρ c t (.ex C fs c1)) : RS X W p ρ c (.If t A B pos) (.ex C fs c1) :=
  ps_imp (ps_if ht pss_never pss_never) fun De σ H h => ⟨h.1, fun dx fv σ' H1 e1 s1 hx hf => h.2 ρ dx fv σ' H1 e1 s1 rfl hx hf⟩
end

/-! ### a def holds its promise -/
section
variable {P : Program} {w : World} {K : PySem.W.Frag} {mg : Str → Option Value} {base : Heap} {x qual : Str} {st : Stmt} {f : Addr} {fd : FuncData} {N ps : List Str} {k : Nat} {R : FSpec}
abbrev Wf : WX := fun _ _ _ _ => False
def BodyOk (X : Cx) (W : WX) (p : HD) (ρ : Rho) (c : PC) (body : List Stmt) : EO → Prop
  | .val d nw c' => RSs X W p ρ c body (.rt d nw c') ∨ (d = .non ∧ ∃ ρ', RSs X W p ρ c body (.nx ρ' c'))
  | .ex C fs c' => RSs X W p ρ c body (.ex C fs c')
theorem spF_len {vs : List V} {H : Hp} {Q : VK} {E : XK} (hl : ∀ ds c o, R ds c o → ds.length = ps.length) (h : spF K R vs H Q E) : vs.length = ps.length := by
  obtain ⟨p, c, ds, o, h1, _, h3, _⟩ := h
  rw [h1.length]
  exact hl _ _ _ h3
theorem fn_val (F : Fun K x qual st f fd) (S : FnScope N ps (defScope st)) (hl : ∀ ds c o, R ds c o → ds.length = ps.length) (hv : ∀ ds c o, R ds c o → ∃ d nw c', o = .val d nw c')
    (body : ∀ (cdv : Value) (A : Around) (outer : List Env) (s : Shared) (H : Hp) (E : XK), Room k (A.deeper (envOfC qual (defScope st) s.heap.objs.size f cdv)) → ∀ (p : HD) (ds : List D) (c : PC) (o : EO), R ds c o →
      BodyOk (cxOf CX0 P w K mg base N qual (defScope st) f cdv A outer s H E).nox Wf p (startR N ds) c (defBody st) o) : FnOk P w K mg base CX0 (k + 1) f fd ps (spF K R) := by
  refine F.ok S (fun vs H Q E h => spF_len hl h) (fun cdv A outer s H vs Q E hr h => ?_)
  obtain ⟨p, c, ds, o, h1, h2, h3, h4⟩ := h
  have b := body cdv A outer s H E hr p ds c o h3
  obtain ⟨d, nw, c', rfl⟩ := hv _ _ _ h3
  rcases b with b | ⟨rfl, ρ', b⟩
  · exact ⟨_, b, sr_start h1 h2, fun v H1 e1 p1 dv hn => h4 v H1 e1 p1 dv hn⟩
  · exact ⟨_, b, sr_start h1 h2, fun σ' H1 e1 s1 => h4 .non H1 e1 s1.pl .non fun _ => New.sc (by intro a q; cases q)⟩
theorem fn_exc (F : Fun K x qual st f fd) (S : FnScope N ps (defScope st)) (hl : ∀ ds c o, R ds c o → ds.length = ps.length)
    (body : ∀ (cdv : Value) (A : Around) (outer : List Env) (s : Shared) (H : Hp) (E : XK), Room k (A.deeper (envOfC qual (defScope st) s.heap.objs.size f cdv)) → ∀ (p : HD) (ds : List D) (c : PC) (o : EO), R ds c o →
      Takes (cxOf (L2.CX P w) P w K mg base N qual (defScope st) f cdv A outer s H E) (fun cls d _ H => E cls d H) →
      BodyOk (cxOf (L2.CX P w) P w K mg base N qual (defScope st) f cdv A outer s H E) (fun cls d _ H => E cls d H) p (startR N ds) c (defBody st) o) : FnOk P w K mg base (L2.CX P w) (k + 1) f fd ps (spF K R) := by
  refine F.okX S (fun vs H Q E h => spF_len hl h) (fun cdv A outer s H vs Q E hr h => ?_)
  obtain ⟨p, c, ds, o, h1, h2, h3, h4⟩ := h
  have b := body cdv A outer s H E hr p ds c o h3 (takes_of rfl rfl rfl rfl)
  cases o with
  | val d nw c' =>
    rcases b with b | ⟨rfl, ρ', b⟩
    · exact ⟨_, b, sr_start h1 h2, fun v H1 e1 p1 dv hn => h4 v H1 e1 p1 dv hn⟩
    · exact ⟨_, b, sr_start h1 h2, fun σ' H1 e1 s1 => h4 .non H1 e1 s1.pl .non fun _ => New.sc (by intro a q; cases q)⟩
  | ex C fs c' => exact ⟨_, b, sr_start h1 h2, fun ρ' dx fv σ' H1 e1 s1 _ hx hf => h4 dx fv H1 e1 s1.pl hx hf⟩
end
end LA

namespace LA
open PySem PySem.Spec PyProof.Rows L2
/-! ### what is walked -/
/-- pairs, each a new tuple -/
def Itp (n : Nat) (f g : Nat → V) : It :=
  ⟨fun i _ => i < n, fun i H v H' => ∃ T, v = .ref T ∧ H T = none ∧ H' = upd H T (.tup [f i, g i]), fun i _ => i = n⟩
theorem turn_pair {P : Program} {w : World} {K : PySem.W.Frag} {elts : List Expr} {kk : Nat} {tpos : Pos} {it : Addr} {fp wr : List Addr} {n : Nat} {f g : Nat → V} {P1 P2 : Nat → Value → Prop} {St : Nat → Heap → Prop}
    (G : ∀ A : Around, A.handled = none → GoesN P w A (.Tuple elts kk tpos) it fp wr n (fun i h₀ v h => ∃ T x y, v = .ref T ∧ h₀.objs.size ≤ T ∧ P1 i x ∧ P2 i y ∧ h.IsTuple T #[x, y]) St)
    (h1 : ∀ i x, i < n → P1 i x → RelV (f i) x) (h2 : ∀ i x, i < n → P2 i x → RelV (g i) x) (mem : it ∈ fp) (obj : ∀ i h, St i h → ∀ b ∈ fp, ∃ o, h.get? b = some o ∧ ∀ v, o.data ≠ .cell v)
    (hself : ∀ (A : Around) (i : Nat) (s : Shared) (Q : Value → Shared → Prop) (E : Value → Shared → Prop), St i s.heap → Q (.ref it) s → wpAny (model P w) A (pyIter (.ref it)) Q E s) :
    Turn P w K (.Tuple elts kk tpos) (Itp n f g) fp it St where
  mem := mem
  obj := obj
  keep := fun i h h' st k => (G { handled := none, frames := none, guards := none, depth := 0, units := 0 } rfl).frame i h h' st k
  item := by
    intro X hP hw hK hc i pins s σ H E I hf st hg
    subst hP hw hK
    have GA := G X.A (I.ok.hd hc)
    refine wpAny_mono (GA.goes i s (fun v s₂ => ∃ x H', Inv X pins σ H' s₂ ∧ RelV x v ∧ (Itp n f g).yld i H x H' ∧ St (i + 1) s₂.heap ∧ ∀ b ∈ fp, H' b = none) E hg st fun v h' tk hY st' hk _ => ?_) (fun r s1 ⟨v, e, q⟩ => ⟨v, e, q⟩) fun _ _ z => z
    obtain ⟨T, x, y, rfl, hT, p1, p2, ht⟩ := hY
    have new : ObjOk X.prog X.w (upd H T (.tup [f i, g i])) h' T (.tup [f i, g i]) := ⟨by show 2 ≤ sizeLine; decide, [x, y], .cons (h1 i x hg p1) (.cons (h2 i y hg p2) .nil), ht⟩
    have I1 : Inv X pins σ (upd H T (.tup [f i, g i])) { s with heap := h', toks := tk } := I.turnedNew (ch := wr) hk (fun b hb => hf b (GA.sub b hb)) hT new
    refine ⟨.ref T, _, I1, rfl, ⟨T, rfl, I.hok.fresh hT, rfl⟩, st', fun b hb => ?_⟩
    obtain ⟨o, e, _⟩ := obj i s.heap st b hb
    rw [upd_ne (Nat.ne_of_lt (Nat.lt_of_lt_of_le (Heap.lt_size e) hT))]
    exact (hf b hb).1
  done := by
    intro X hP hw hK hc i pins s σ H E I hf st hg
    subst hP hw hK
    have GA := G X.A (I.ok.hd hc)
    have e : i = n := hg
    subst e
    exact wpAny_mono (GA.stops s (fun s1 => Inv X pins σ H s1) E st fun h' tk hk _ => I.turnedL hk fun b hb => hf b (GA.sub b hb)) (fun r s1 q => q) fun _ _ z => z
  self := hself
/-- the i-th sign of a text, as a value -/
def sgn (z : Str) (i : Nat) : V := .str ⟨#[z.cps.toList.getD i 0]⟩
theorem sgn_of {z : Str} {i : Nat} {x : Value} (h : ∃ c u, z.cps[i]? = some c ∧ x = .str ⟨#[c]⟩ u) : RelV (sgn z i) x := by
  obtain ⟨c, u, h1, rfl⟩ := h
  have e : z.cps.toList.getD i 0 = c := by
    rw [List.getD_eq_getElem?_getD, Array.getElem?_toList, h1]
    rfl
  exact ⟨u, by rw [e]⟩
def iZipS (ta : TA) : TI := fun σ H R => ta σ H fun vs H1 => ∃ a b : Str, vs = [.str a, .str b] ∧ R (Itp (min a.cps.size b.cps.size) (sgn a) (sgn b)) H1
theorem pi_zipS {X : Cx} {e e2 : Expr} {ta : TA} {p pos tpos : Pos} {elts : List Expr} {kk : Nat} (hg : Gl X "zip") (hm : X.mg "zip" = none) (ha : PA X [e, e2] ta)
    (hs : starEach [e, e2] X.env = (false, eval e X.env) :: starEach [e2] X.env := by rfl) (hpl : (backTo pos (starEach [e2] X.env)).any (·.1) = false := by rfl) :
    PI X (.Tuple elts kk tpos) (.Call (.Name "zip" p) [e, e2] [] pos) (iZipS ta) := by
  refine ⟨fun pins s σ H R I h => ?_⟩
  refine Call_ (ld_blt I hg hm PyProof.Rows.boot_zip (PyProof.Rows.callWith_type1 (thn (ha.run pos pins s σ H _ I h) fun us s1 ⟨vs, H1, I1, r1, q1⟩ => ?_) hs hpl))
  obtain ⟨a, b, ex, q⟩ := q1
  subst ex
  cases r1 with
  | cons r rr =>
    cases rr with
    | cons r' rr =>
      cases rr
      obtain ⟨t, rfl⟩ := r
      obtain ⟨t', rfl⟩ := r'
      refine zip_begins2 (begins_text a t) (begins_text b t') trivial trivial fun h' hz hTI hTO o1 o2 hsz hk => wpAny_pyIter_zip hz ?_
      have I2 : Inv X pins σ H1 { s1 with heap := h' } := I1.kept (t' := s1.toks) hk
      have SZ := zip_sep2 (N := s1.heap.objs.size) (fp1 := []) (fp2 := []) (fun b hb => by cases hb) (fun b hb => by cases hb)
      refine ⟨s1.heap.objs.size + 4, _, _, _, H1, rfl, I2, turn_pair (fun A hA => GoesN.zip2 SZ (Draws.text (A := A.in1) hA _ a t) (Draws.text (A := A.in1) hA _ b t')) (fun i x _ hx => sgn_of hx) (fun i x _ hx => sgn_of hx) (List.mem_cons_self ..) (fun i h st c hc => ?_) (fun A i s Q E st h => wpAny_pyIter_zip st.1 h),
        ⟨hz, hTI, ⟨_, _, hTO⟩, ⟨_, o1, rfl, rfl⟩, ⟨_, o2, rfl, rfl⟩⟩, fun c hc => ?_, q⟩
      · obtain ⟨hz, hTI, ⟨x, y, hTO⟩, ⟨p1, e1, _, d1⟩, ⟨p2, e2, _, d2⟩⟩ := st
        have e' : c = s1.heap.objs.size + 4 ∨ c = s1.heap.objs.size + 2 ∨ c = s1.heap.objs.size + 3 ∨ c = s1.heap.objs.size ∨ c = s1.heap.objs.size + 1 := by simpa using hc
        rcases e' with q | q | q | q | q
        · rw [q]; exact ⟨_, hz, fun v q => nomatch q⟩
        · rw [q]; exact ⟨_, hTI, fun v q => nomatch q⟩
        · rw [q]; exact ⟨_, hTO, fun v q => nomatch q⟩
        · rw [q]; exact ⟨p1, e1, fun v q => by rw [d1] at q; cases q⟩
        · rw [q]; exact ⟨p2, e2, fun v q => by rw [d2] at q; cases q⟩
      · have e' : c = s1.heap.objs.size + 4 ∨ c = s1.heap.objs.size + 2 ∨ c = s1.heap.objs.size + 3 ∨ c = s1.heap.objs.size ∨ c = s1.heap.objs.size + 1 := by simpa using hc
        have hle : s1.heap.objs.size ≤ c := by
          rcases e' with z | z | z | z | z
          · rw [z]; exact Nat.le_add_right _ _
          · rw [z]; exact Nat.le_add_right _ _
          · rw [z]; exact Nat.le_add_right _ _
          · rw [z]; exact Nat.le_refl _
          · rw [z]; exact Nat.le_add_right _ _
        exact I1.fpOk hle (I1.hok.fresh hle)
end LA

namespace LA
open PySem PySem.Spec PyProof.Rows L2
/-- an iterator that yields the data xs, whatever else is made meanwhile -/
def Yields (K : PySem.W.Frag) (p : HD) (J : It) (xs : List D) (H0 : Hp) : Prop :=
  ∀ (q : HD) (c : PC) (H1 : Hp), q.m = p.m → Sub (hide p H0) (hide q H1) → PoolAt K q H1 c →
    J.stop xs.length H1 ∧ ∀ i d, xs[i]? = some d → J.go i H1 ∧ ∀ x H2, J.yld i H1 x H2 → Ext q H1 H2 ∧ PoolAt K q H2 c ∧ DV K q H2 x d
def tI (K : PySem.W.Frag) (W : WX) (p : HD) (ρ : Rho) (c : PC) (xs : List D) (c' : PC) : TI := fun σ H R => SR K p H σ ρ c ∧ ∀ J H', Ext p H H' → PoolAt K p H' c' → Yields K p J xs H' → R J H'
abbrev RI (X : Cx) (W : WX) (p : HD) (ρ : Rho) (c : PC) (tg it : Expr) (xs : List D) (c' : PC) : Prop := PI X tg it (tI X.K W p ρ c xs c')
theorem pi_imp {X : Cx} {tg e : Expr} {t t' : TI} (h : PI X tg e t) (w : ∀ σ H R, t' σ H R → t σ H R) : PI X tg e t' := ⟨fun pins s σ H Q I q => h.run pins s σ H Q I (w σ H Q q)⟩
section
variable {X : Cx} {W : WX} {p : HD} {ρ ρ1 : Rho} {c c1 c2 c3 : PC} {e e2 tg : Expr} {es : List Expr} {pos : Pos} {d d1 d2 : D} {n1 n2 nw : Bool} {K : PySem.W.Frag}
def chars (z : Str) : List D := z.cps.toList.map fun ch => D.str ⟨#[ch]⟩
theorem ri_str {z : Str} (h : RE X W p ρ c e (.val (.str z) nw c1)) : RI X W p ρ c tg e (chars z) c1 :=
  pi_imp (pi_str h) fun σ H R ⟨s, k⟩ => ⟨s, fun v H1 e1 p1 dv _ => by
    cases dv
    refine ⟨z, rfl, k _ H1 e1 p1 fun q c' H2 _ _ p2 => ⟨?_, fun i d hd => ⟨?_, fun x H3 y => ?_⟩⟩⟩
    · show z.cps.size ≤ (chars z).length
      unfold chars
      rw [List.length_map, Array.length_toList]
      exact Nat.le_refl _
    · have hl := (List.getElem?_eq_some_iff.mp hd).1
      unfold chars at hl
      rw [List.length_map, Array.length_toList] at hl
      exact hl
    · obtain ⟨rfl, ch, h1, rfl⟩ := y
      refine ⟨Ext.refl _ _, p2, ?_⟩
      unfold chars at hd
      rw [List.getElem?_map, Array.getElem?_toList, h1] at hd
      have e' := Option.some.inj hd
      rw [← e']
      exact .str _⟩
theorem ri_lst {g : G} {xs : List D} (h : RE X W p ρ c e (.val (.lst g xs) nw c1)) : RI X W p ρ c tg e xs c1 :=
  pi_imp (pi_list h) fun σ H R ⟨s, k⟩ => ⟨s, fun v H1 e1 p1 dv _ => by
    cases dv with
    | @lst a vs _ _ hb hq r =>
      refine ⟨a, rfl, ⟨vs, un_sqL hq⟩, k _ H1 e1 p1 fun q c' H2 qe qs p2 => ?_⟩
      have hq2 : SqL X.K H2 a vs := un_sqL (qs.sqL hq)
      refine ⟨⟨vs, hq2, Nat.le_of_eq r.length⟩, fun i d hd => ?_⟩
      obtain ⟨v, h1, h2⟩ := r.get hd
      refine ⟨⟨vs, v, hq2, h1⟩, fun x H3 y => ?_⟩
      obtain ⟨rfl, h3⟩ := y
      have e' : x = v := Option.some.inj ((h3 vs hq2).symm.trans h1)
      subst e'
      exact ⟨Ext.refl _ _, p2, h2.sub qs (fun i a z => by rw [qe]; exact z)⟩⟩
def intsD (n : Nat) : List D := (List.range n).map fun i => D.int ((i : Nat) : Int)
theorem ri_range {ps : Pos} {n : Int} (hm : X.mg "range" = none) (h : RE X W p ρ c e (.val (.int n) nw c1)) (h1 : -(2 ^ 62) ≤ n) (h2 : n < 2 ^ 62) (hg : Gl X "range" := by rfl) (hs : starEach [e] X.env = [(false, eval e X.env)] := by rfl) : RI X W p ρ c tg (.Call (.Name "range" ps) [e] [] pos) (intsD n.toNat) c1 :=
  pi_imp (pi_range1 hg hm (ra_cons (W := W) h (ra_nil (W := W)) (by rw [hs]; rfl)) hs) fun σ H R ⟨s, k⟩ => ⟨s, fun vs H1 e1 p1 dvs => by
    cases dvs with
    | cons hv hr =>
      cases hr
      cases hv
      refine ⟨n, rfl, h1, h2, k _ H1 e1 p1 fun q c' H2 qe qs p2 => ⟨?_, fun i d hd => ⟨?_, fun x H3 y => ?_⟩⟩⟩
      · show n.toNat ≤ (intsD n.toNat).length
        unfold intsD
        rw [List.length_map, List.length_range]
        exact Nat.le_refl _
      · have hl := (List.getElem?_eq_some_iff.mp hd).1
        unfold intsD at hl
        rw [List.length_map, List.length_range] at hl
        exact hl
      · obtain ⟨rfl, rfl⟩ := y
        refine ⟨Ext.refl _ _, p2, ?_⟩
        have hl := (List.getElem?_eq_some_iff.mp hd).1
        unfold intsD at hd hl
        rw [List.length_map, List.length_range] at hl
        rw [List.getElem?_map, List.getElem?_range hl] at hd
        have e' := Option.some.inj hd
        rw [← e', Int.zero_add]
        exact .int _⟩
/-- pairs of signs -/
def zips (a b : Str) : List D := (List.range (min a.cps.size b.cps.size)).map fun i => D.tup [.str ⟨#[a.cps.toList.getD i 0]⟩, .str ⟨#[b.cps.toList.getD i 0]⟩]
theorem ri_zipS {ps tpos : Pos} {elts : List Expr} {kk : Nat} {a b : Str} (hm : X.mg "zip" = none) (h : RA X W p ρ c [e, e2] (.val [.str a, .str b] c1)) (hg : Gl X "zip" := by rfl)
    (hs : starEach [e, e2] X.env = (false, eval e X.env) :: starEach [e2] X.env := by rfl) (hpl : (backTo pos (starEach [e2] X.env)).any (·.1) = false := by rfl) :
    RI X W p ρ c (.Tuple elts kk tpos) (.Call (.Name "zip" ps) [e, e2] [] pos) (zips a b) c1 :=
  pi_imp (pi_zipS hg hm h hs hpl) fun σ H R ⟨s, k⟩ => ⟨s, fun vs H1 e1 p1 dvs => by
    cases dvs with
    | cons hv hr =>
      cases hr with
      | cons hv2 hr =>
        cases hr
        cases hv
        cases hv2
        refine ⟨a, b, rfl, k _ H1 e1 p1 fun q c' H2 qe qs p2 => ⟨?_, fun i d hd => ⟨?_, fun x H3 y => ?_⟩⟩⟩
        · show (zips a b).length = min a.cps.size b.cps.size
          unfold zips
          rw [List.length_map, List.length_range]
        · have hl := (List.getElem?_eq_some_iff.mp hd).1
          unfold zips at hl
          rw [List.length_map, List.length_range] at hl
          exact hl
        · obtain ⟨T, rfl, hT, rfl⟩ := y
          have hl := (List.getElem?_eq_some_iff.mp hd).1
          unfold zips at hd hl
          rw [List.length_map, List.length_range] at hl
          rw [List.getElem?_map, List.getElem?_range hl] at hd
          have e' := Option.some.inj hd
          rw [← e']
          exact ⟨Ext.new hT, p2.upd hT, .tup (.inl (.inl (hide_upd p2 hT))) (.cons (.str _) (.cons (.str _) .nil))⟩⟩

/-! ### list comprehensions -/
theorem wipe_get {σ : L2.St} {i : Nat} : ∀ {vs : List Nat}, i ∈ vs → i < σ.length → (wipe σ vs)[i]? = some none
  | v :: vs, h, hl => by
    unfold wipe
    by_cases e : v = i
    · subst e
      rw [List.getElem?_set_self (by rw [wipe_length]; exact hl)]
    · rw [List.getElem?_set_ne e]
      exact wipe_get ((List.mem_cons.mp h).resolve_left fun z => e z.symm) hl
theorem wipe_ext {σ τ : L2.St} {vs : List Nat} (hl : σ.length = τ.length) (h : ∀ i, i ∉ vs → σ[i]? = τ[i]?) : wipe σ vs = wipe τ vs := by
  refine List.ext_getElem? fun i => ?_
  by_cases hi : i ∈ vs
  · by_cases hn : i < σ.length
    · rw [wipe_get hi hn, wipe_get hi (by rw [← hl]; exact hn)]
    · rw [List.getElem?_eq_none (by rw [wipe_length]; omega), List.getElem?_eq_none (by rw [wipe_length]; omega)]
  · rw [wipe_out hi, wipe_out hi, h i hi]
theorem wipe_wipe {σ : L2.St} {vs : List Nat} : wipe (wipe σ vs) vs = wipe σ vs := wipe_ext (wipe_length σ vs) fun i hi => wipe_out hi
theorem wipe_set {σ : L2.St} {vs : List Nat} {j : Nat} {x : Option V} (hj : j ∈ vs) : wipe (σ.set j x) vs = wipe σ vs := wipe_ext (List.length_set) fun i hi => List.getElem?_set_ne (fun z => hi (by rw [← z]; exact hj))
/-- the slots vs of the frame forgotten -/
def wipeR (ρ : Rho) : List Nat → Rho
  | [] => ρ
  | v :: vs => (wipeR ρ vs).set v none
theorem wipeR_len (ρ : Rho) : ∀ vs : List Nat, (wipeR ρ vs).length = ρ.length
  | [] => rfl
  | v :: vs => by unfold wipeR; rw [List.length_set, wipeR_len ρ vs]
theorem wipeR_some {ρ : Rho} {i : Nat} {d : D} : ∀ {vs : List Nat}, (wipeR ρ vs)[i]? = some (some d) → ρ[i]? = some (some d) ∧ i ∉ vs
  | [], h => ⟨h, by simp⟩
  | v :: vs, h => by
    unfold wipeR at h
    by_cases hi : v = i
    · subst hi
      rw [List.getElem?_set] at h
      split at h
      · split at h <;> cases h
      · exact absurd rfl ‹¬ _›
    · rw [List.getElem?_set_ne hi] at h
      obtain ⟨h1, h2⟩ := wipeR_some h
      exact ⟨h1, fun m => (List.mem_cons.mp m).elim (fun z => hi z.symm) h2⟩
theorem SR.wipe {H : Hp} {σ : L2.St} (s : SR K p H σ ρ c) (vs : List Nat) : SR K p H (L2.wipe σ vs) (wipeR ρ vs) c :=
  s.weak (by rw [wipe_length, wipeR_len]; exact s.len) (fun i d h => (wipeR_some h).1) fun i v d h1 h2 => by
    rw [wipe_out (wipeR_some h1).2]
    exact h2
/-- what a target does with a datum: the slots it sets -/
structure TgOk (K : PySem.W.Frag) (g : TG) (vs : List Nat) (d : D) (ρ ρ' : Rho) : Prop where
  run : ∀ (q : HD) (c : PC) (x : V) (σ : L2.St) (H : Hp) (Q : L2.St → Hp → Prop), DV K q H x d → SR K q H σ ρ c → PoolAt K q H c → (∀ σ2, SR K q H σ2 ρ' c → L2.wipe σ2 vs = L2.wipe σ vs → Q σ2 H) → g x σ H Q
theorem tg_name {j : Nat} {vs : List Nat} (hj : j ∈ vs) : TgOk K (gName j) vs d ρ (ρ.set j (some d)) := ⟨fun q c x σ H Q dv s hp k => k _ (s.set j dv) (wipe_set hj)⟩
theorem tg_two {i j : Nat} {vs : List Nat} (hi : i ∈ vs) (hj : j ∈ vs) : TgOk K (gTup K 2 (gCons (gName i) (gCons (gName j) gNil))) vs (.tup [d1, d2]) ρ ((ρ.set i (some d1)).set j (some d2)) :=
  ⟨fun q c x σ H Q dv s hp k => by
    cases dv with
    | tup hq r =>
      cases r with
      | cons h1 r =>
        cases r with
        | cons h2 r =>
          cases r
          exact ⟨_, _, rfl, un_sqT hq, rfl, _, _, rfl, _, _, rfl, rfl, k _ ((s.set i h1).set j h2) ((wipe_set hj).trans (wipe_set hi))⟩⟩
/-- what is collected over n turns -/
def coll (b : Nat → Bool) (y : Nat → D) : Nat → List D
  | 0 => []
  | n + 1 => coll b y n ++ if b n then [y n] else []
theorem coll_len (b : Nat → Bool) (y : Nat → D) : ∀ n, (coll b y n).length ≤ n
  | 0 => Nat.le_refl _
  | n + 1 => by
    have h := coll_len b y n
    show (coll b y n ++ if b n then [y n] else []).length ≤ n + 1
    rw [List.length_append]
    split
    · show _ + 1 ≤ _
      omega
    · show _ + 0 ≤ _
      omega
theorem ext_also {p : HD} {a : Addr} {H H' : Hp} (e : Ext p H H') : Ext (p.also a) H H' := e
/-- what the tests and the element of a list comprehension are read by -/
def ttU (K : PySem.W.Frag) (xs : List D) (b : Nat → Bool) (cs cm : Nat → PC) (ρt : Nat → Rho) : TT := fun σ H Q => ∃ (q : HD) (i : Nat) (d : D), xs[i]? = some d ∧ tT K Wf q (ρt i) (cs i) (.val (b i) (cm i)) σ H Q
def teU (K : PySem.W.Frag) (xs : List D) (b : Nat → Bool) (y : Nat → D) (cs cm : Nat → PC) (ρt : Nat → Rho) (nws : Nat → Bool) : TE := fun σ H Q => ∃ (q : HD) (i : Nat) (d : D), xs[i]? = some d ∧ b i = true ∧ tE K Wf q (ρt i) (cm i) (.val (y i) (nws i) (cs (i + 1))) σ H Q
theorem lc_read {xs : List D} {g : TG} {vs : List Nat} {b : Nat → Bool} {y : Nat → D} {cs cm : Nat → PC} {ρt : Nat → Rho} {nws : Nat → Bool}
    (htg : ∀ i d, xs[i]? = some d → TgOk K g vs d (wipeR ρ vs) (ρt i))
    (hno : ∀ i d, xs[i]? = some d → b i = false → cs (i + 1) = cm i) (hz : xs.length ≤ 100000) : ∀ σ H Q, tE K W p ρ c (.val (.lst ⟨false, true⟩ (coll b y xs.length)) true (cs xs.length)) σ H Q → tLc (tI K W p ρ c xs (cs 0)) g (ttU K xs b cs cm ρt) (teU K xs b y cs cm ρt nws) vs σ H Q := by
  refine fun σ H Q ⟨s, k⟩ => ⟨s, fun J H1 e1 p1 yl L nL => ?_⟩
  -- the invariant
  have yl' := yl (p.also L)
  have hsub : Sub (hide p H1) (hide (p.also L) H1) := also_sub nL
  have s1 : SR K p H1 σ ρ (cs 0) := s.mono e1 p1
  have s2 : SR K (p.also L) H1 σ ρ (cs 0) → True := fun _ => trivial
  refine ⟨fun i m H2 => m = xs.length - i ∧ i ≤ xs.length ∧ Ext p H1 H2 ∧ (∃ vs, H2 L = some (.lst vs) ∧ DVs K (p.also L) H2 vs (coll b y i)) ∧ PoolAt K (p.also L) H2 (cs i), ⟨xs.length, by simp, Nat.zero_le _, Ext.new nL, ⟨[], upd_same, .nil⟩, p1.also nL⟩, ?_⟩
  rintro i m H2 ⟨rfl, hi', e2, ⟨vs, hL, dvs⟩, pq⟩
  have p2 := pq.less
  have nLp : L ∉ p.m := fun z => p1.not nL (.inl z)
  obtain ⟨hstop, hgo⟩ := yl' (cs i) H2 rfl (fun b o y => (ext_also e2).hide b o (hsub b o y)) pq
  by_cases hlt : i < xs.length
  · have hd : xs[i]? = some xs[i] := List.getElem?_eq_getElem hlt
    obtain ⟨g1, g2⟩ := hgo i _ hd
    refine .inr ⟨g1, fun H' => ∃ vs, H' L = some (.lst vs) ∧ DVs K (p.also L) H' vs (coll b y (i + 1)) ∧ Ext p H1 H' ∧ PoolAt K (p.also L) H' (cs (i + 1)), fun H' ⟨vs', a1, a2, a3, a4⟩ => ⟨xs.length - (i + 1), by omega, rfl, hlt, a3, ⟨vs', a1, a2⟩, a4⟩, fun x H3 hy => ?_⟩
    obtain ⟨e3, p3, dx⟩ := g2 x H3 hy
    have sH : SR K (p.also L) H3 σ ρ (cs i) := ⟨s.len, fun j d hj => by
      obtain ⟨v, h1, h2⟩ := s1.at' j d hj
      exact ⟨v, h1, ((h2.also nL).mono (ext_also e2)).mono e3⟩, p3⟩
    refine (htg i _ hd).run (p.also L) (cs i) x _ H3 _ dx (sH.wipe _) p3 fun σ2 s2 hw => ⟨hw.trans wipe_wipe, p.also L, i, _, hd, s2, fun H4 e4 p4 => ?_⟩
    have hL4 : H4 L = some (.lst vs) := e4 L _ nLp (e3 L _ nLp hL)
    have e24 : Ext p H2 H4 := fun a o n h => e4 a o n (e3 a o n h)
    cases hb : b i with
    | false =>
      refine iteF ⟨vs, hL4, ?_, e2.trans e24, ?_⟩
      · show DVs K (p.also L) H4 vs (coll b y i ++ if b i then [y i] else [])
        rw [hb, if_neg Bool.false_ne_true, List.append_nil]
        exact dvs.mono (ext_also e24)
      · rw [hno i _ hd hb]
        exact p4
    | true =>
      refine iteT ⟨p.also L, i, _, hd, hb, s2.mono e4 p4, fun v H5 e5 p5 dv _ => ?_⟩
      have hL5 : H5 L = some (.lst vs) := e5 L _ nLp hL4
      have e25 : Ext p H2 H5 := fun a o n h => e5 a o n (e24 a o n h)
      have up : ∀ a o, a ≠ L → H5 a = some o → upd H5 L (.lst (vs ++ [v])) a = some o := fun a o n h => by
        rw [upd_ne n]
        exact h
      have sb : Sub (hide (p.also L) H5) (hide (p.also L) (upd H5 L (.lst (vs ++ [v])))) := fun a o h => by
        obtain ⟨h1, h2⟩ := hide_some h
        have hn : a ≠ L := fun z => h2 (.inr (by rw [z]; exact List.mem_cons_self))
        rw [hide_ne h2]
        exact up a o hn h1
      refine ⟨vs, hL5, ?_, vs ++ [v], upd_same, ?_, ?_, ?_⟩
      · have := coll_len b y i
        rw [dvs.length]
        exact sz_lt (by omega)
      · show DVs K (p.also L) _ (vs ++ [v]) (coll b y i ++ if b i then [y i] else [])
        rw [hb, if_pos rfl]
        exact DVs.app ((dvs.mono (ext_also e25)).sub sb fun _ _ z => z) (.cons (dv.sub sb fun _ _ z => z) .nil)
      · refine fun a o n h => ?_
        have hn : a ≠ L := ne_of_none h nL
        exact up a o hn (e25 a o n (e2 a o n h))
      · exact p5.other List.mem_cons_self nLp
  · have e : i = xs.length := by omega
    subst e
    have hh : hide p H2 L = some (.lst vs) := by
      rw [hide_ne (p1.not nL)]
      exact hL
    exact .inl ⟨hstop, k (.ref L) H2 (e1.trans e2) p2 (.lst ⟨(fun z => nomatch z), fun _ => hh⟩ (.inl (.inl hh)) (dvs.sub sub_also fun _ _ z => z)) fun _ => New.back e1 fun b z => by
      cases z
      exact ⟨⟨nL, nLp⟩, pq, fun g ds z => by
        cases z
        exact ⟨vs, hL, dvs⟩⟩⟩
theorem re_lc {elt iter : Expr} {ifs : List Expr} {scope : Scope} {own : List (Str × Nat)} {xs : List D} {g : TG} (b : Nat → Bool) (y : Nat → D) (cs cm : Nat → PC) (ρt : Nat → Rho) (nws : Nat → Bool) (hc : X.calm = true) (hN : X.N.Nodup) (hi : RI X W p ρ c tg iter xs (cs 0)) (ok : BlkOk X.N X.env.scope scope own)
    (hg : ∀ (s : Shared) (H : Hp) (C : Addr) (cl : List (Str × Addr)) (fp : List Addr), PG (X.blk s H scope (compEnvC scope cl C X.env) fp) tg g)
    (htg : ∀ i d, xs[i]? = some d → TgOk X.K g (own.map (·.2)) d (wipeR ρ (own.map (·.2))) (ρt i))
    (ht : ∀ i d, xs[i]? = some d → ∀ (q : HD) (s : Shared) (H : Hp) (C : Addr) (cl : List (Str × Addr)) (fp : List Addr), PTs (X.blk s H scope (compEnvC scope cl C X.env) fp) ifs (tT X.K Wf q (ρt i) (cs i) (.val (b i) (cm i))))
    (he : ∀ i d, xs[i]? = some d → b i = true → ∀ (q : HD) (s : Shared) (H : Hp) (C : Addr) (cl : List (Str × Addr)) (fp : List Addr), RE (X.blk s H scope (compEnvC scope cl C X.env) fp) Wf q (ρt i) (cm i) elt (.val (y i) (nws i) (cs (i + 1))))
    (hno : ∀ i d, xs[i]? = some d → b i = false → cs (i + 1) = cm i) (hz : xs.length ≤ 100000)
    (hs : ∀ x, foldedSetIterable iter X.env x = pure x := by intro _; rfl) : RE X W p ρ c (.ListComp elt [⟨tg, iter, ifs, 0⟩] scope pos) (.val (.lst ⟨false, true⟩ (coll b y xs.length)) true (cs xs.length)) :=
  pe_imp (pe_lc (tt := ttU X.K xs b cs cm ρt) (te := teU X.K xs b y cs cm ρt nws) hc hN hi ok hg (fun s H C cl fp => ⟨fun pins s' σ H' Q I ⟨q, i, d, hd, h⟩ => (ht i d hd q s H C cl fp).run pins s' σ H' Q I h⟩)
    (fun s H C cl fp => ⟨fun pins s' σ H' Q I ⟨q, i, d, hd, hb, h⟩ => (he i d hd hb q s H C cl fp).run pins s' σ H' Q I h⟩) hs) (lc_read htg hno hz)
/-- name = [..] -/
theorem rs_lc {elt iter : Expr} {ifs : List Expr} {scope : Scope} {own : List (Str × Nat)} {xs : List D} {g : TG} {yn : Str} {py spos : Pos} (j : Nat) (b : Nat → Bool) (y : Nat → D) (cs cm : Nat → PC) (ρt : Nat → Rho) (nws : Nat → Bool) (hc : X.calm = true) (hN : X.N.Nodup) (hi : RI X W p ρ c tg iter xs (cs 0)) (ok : BlkOk X.N X.env.scope scope own)
    (hg : ∀ (s : Shared) (H : Hp) (C : Addr) (cl : List (Str × Addr)) (fp : List Addr), PG (X.blk s H scope (compEnvC scope cl C X.env) fp) tg g)
    (htg : ∀ i d, xs[i]? = some d → TgOk X.K g (own.map (·.2)) d (wipeR ρ (own.map (·.2))) (ρt i))
    (ht : ∀ i d, xs[i]? = some d → ∀ (q : HD) (s : Shared) (H : Hp) (C : Addr) (cl : List (Str × Addr)) (fp : List Addr), PTs (X.blk s H scope (compEnvC scope cl C X.env) fp) ifs (tT X.K Wf q (ρt i) (cs i) (.val (b i) (cm i))))
    (he : ∀ i d, xs[i]? = some d → b i = true → ∀ (q : HD) (s : Shared) (H : Hp) (C : Addr) (cl : List (Str × Addr)) (fp : List Addr), RE (X.blk s H scope (compEnvC scope cl C X.env) fp) Wf q (ρt i) (cm i) elt (.val (y i) (nws i) (cs (i + 1))))
    (hno : ∀ i d, xs[i]? = some d → b i = false → cs (i + 1) = cm i) (hz : xs.length ≤ 100000) (hy : X.N[j]? = some yn := by rfl) (hyl : X.env.scope.names.lookup yn = some .local := by rfl) (hsw : swapsWith (.ListComp elt [⟨tg, iter, ifs, 0⟩] scope pos) (some (.Name yn py)) spos.line X.env = pure true := by exact sw_true rfl rfl rfl (by decide +kernel))
    (hs : ∀ x, foldedSetIterable iter X.env x = pure x := by intro _; rfl) : RS X W p ρ c (.Assign [.Name yn py] (.ListComp elt [⟨tg, iter, ifs, 0⟩] scope pos) spos) (.nx (ρ.set j (some (.lst ⟨false, true⟩ (coll b y xs.length)))) (cs xs.length)) :=
  ps_imp (ps_setLc (tt := ttU X.K xs b cs cm ρt) (te := teU X.K xs b y cs cm ρt nws) hc hN hy hyl hsw hi ok hg (fun s H C cl fp => ⟨fun pins s' σ H' Q I ⟨q, i, d, hd, h⟩ => (ht i d hd q s H C cl fp).run pins s' σ H' Q I h⟩)
    (fun s H C cl fp => ⟨fun pins s' σ H' Q I ⟨q, i, d, hd, hb, h⟩ => (he i d hd hb q s H C cl fp).run pins s' σ H' Q I h⟩) hs) fun De σ H h => lc_read htg hno hz σ H _ ⟨h.1, fun v H1 e1 p1 dv _ => h.2 _ H1 e1 ((h.1.mono e1 p1).set j dv)⟩
end
end LA

namespace LA
open PySem PySem.Spec PyProof.Rows L2
/-! ### data as the model's own data; repr -/
mutual
def toPy : D → PyData
  | .non => .none
  | .bl b => .bool b
  | .int i => .int i
  | .str s => .str s
  | .lst _ xs => .list (toPys xs)
  | .tup xs => .tuple (toPys xs)
  | .dct kvs => .dict (toPyk kvs)
  | .mut _ => .none
  | .ty _ => .none
  | .cls _ => .none
  | .exn _ _ _ => .none
  | .obj _ _ => .none
def toPys : List D → List PyData
  | [] => []
  | d :: r => toPy d :: toPys r
def toPyk : List (Key × D) → List (PyData × PyData)
  | [] => []
  | (k, d) :: r => ((match k with | .inl i => .int i | .inr x => .str x), toPy d) :: toPyk r
end
/-! no pool within, and every list, if big, behind the run's own objects -/
mutual
def okD (big : Bool) : D → Bool
  | .lst g xs => (g.s || !big) && okDs big xs
  | .tup xs => okDs big xs
  | .dct kvs => okDk big kvs
  | .mut _ => false
  | .ty _ => false
  | .cls _ => false
  | .exn _ _ _ => false
  | .obj _ _ => false
  | _ => true
def okDs (big : Bool) : List D → Bool
  | [] => true
  | d :: r => okD big d && okDs big r
def okDk (big : Bool) : List (Key × D) → Bool
  | [] => true
  | (_, d) :: r => okD big d && okDk big r
end
def NoSys (big : Bool) (as : List Addr) : Prop := big = true → sysModules ∉ as
theorem NoSys.app {big : Bool} {as bs : List Addr} (h1 : NoSys big as) (h2 : NoSys big bs) : NoSys big (as ++ bs) := fun b m => (List.mem_append.mp m).elim (h1 b) (h2 b)
section
variable {X : Cx} {pins : List (Addr × Obj)} {σ : L2.St} {H : Hp} {s : Shared} {p : HD}
theorem keys_read {P : Program} {w : World} {h : Heap} : ∀ {es : List DictEntry} {vs : List (Key × Value)}, Pairs (mixKind P w) es vs → ∀ {kvs : List (Key × V)} {ds : List (Key × D)} {K : PySem.W.Frag}, KV kvs vs → DVk K p H kvs ds → ReadsAll h (es.map (·.key)) ((toPyk ds).map (·.1)) [] ∧ Vals (kvs.map (·.2)) (es.map (·.val))
  | _, _, .nil, _, _, _, .nil, .nil => ⟨.nil, .nil⟩
  | e :: es, (k, u) :: vs, .cons h1 h2 h3, (k', v) :: kvs, _, _, .cons r t, .cons (d := d) hd hk => by
    obtain ⟨a1, a2⟩ := keys_read (h := h) h3 t hk
    obtain ⟨r1, r2⟩ := r
    have r1 : k' = k := r1
    have h2 : e.val = u := h2
    subst r1 h2
    refine ⟨?_, .cons r2 a2⟩
    have hkey : keyIs k' e.key = true := h1
    rcases keyIs_shape hkey with ⟨i, t, e1, e2⟩ | ⟨x, t, e1, e2⟩
    · subst e1
      show ReadsAll _ (e.key :: es.map (·.key)) (.int i :: (toPyk _).map (·.1)) ([] ++ [])
      rw [e2]
      exact .cons (.int i t) a1
    · subst e1
      show ReadsAll _ (e.key :: es.map (·.key)) (.str x :: (toPyk _).map (·.1)) ([] ++ [])
      rw [e2]
      exact .cons (.str x t) a1
mutual
theorem reads_of {big : Bool} (I : Inv X pins σ H s) : ∀ (d : D) (v : V) (u : Value), DV X.K p H v d → okD big d = true → RelV v u → ∃ as, Reads s.heap u (toPy d) as ∧ NoSys big as
  | .non, _, _, h, _, r => by
    cases h
    cases r
    exact ⟨[], by unfold toPy; exact .none, fun _ m => nomatch m⟩
  | .bl b, _, _, h, _, r => by
    cases h
    cases r
    exact ⟨[], by unfold toPy; exact .bool b, fun _ m => nomatch m⟩
  | .int i, _, _, h, _, r => by
    cases h
    obtain ⟨t, rfl⟩ := r
    exact ⟨[], by unfold toPy; exact .int i t, fun _ m => nomatch m⟩
  | .str x, _, _, h, _, r => by
    cases h
    obtain ⟨t, rfl⟩ := r
    exact ⟨[], by unfold toPy; exact .str x t, fun _ m => nomatch m⟩
  | .lst g ds, _, _, .lst (a := a) hb hq ha, o, r => by
    obtain rfl := (show _ = Value.ref a from r)
    unfold okD at o
    obtain ⟨o1, o2⟩ := Bool.and_eq_true_iff.mp o
    obtain ⟨its, rv, ⟨ob, n, ho, hc, _, hd⟩, _⟩ := I.list (un_sqL hq)
    obtain ⟨as, q1, q2⟩ := readss_of (big := big) I ds _ its ha o2 rv
    refine ⟨_, by unfold toPy; exact Reads.list ho hc hd q1, fun b m => ?_⟩
    rcases List.mem_cons.mp m with m | m
    · subst b
      have hg : g.s = true := by simpa using o1
      exact hb.1 hg m.symm
    · exact q2 b m
  | .tup ds, _, _, .tup (a := a) hq ha, o, r => by
    obtain rfl := (show _ = Value.ref a from r)
    unfold okD at o
    obtain ⟨its, rv, ⟨ob, ho, hc, n, hd⟩, _⟩ := I.tuple (un_sqT hq)
    obtain ⟨as, q1, q2⟩ := readss_of (big := big) I ds _ its ha o rv
    exact ⟨_, by unfold toPy; exact Reads.tuple ho hc hd q1, q2⟩
  | .dct ds, _, _, .dct (a := a) hq hk, o, r => by
    obtain rfl := (show _ = Value.ref a from r)
    unfold okD at o
    obtain ⟨hz, hs, vs, rel, ob, es, ep, ho, hx, hd, _, hp, _⟩ := dk_rd I.hok (un_rd hq)
    obtain ⟨k1, k2⟩ := keys_read (h := s.heap) hp rel hk
    obtain ⟨bs, q1, q2⟩ := readsk_of (big := big) I ds _ _ hk o k2
    refine ⟨_, by unfold toPy; exact Reads.dict ho hx.1 hd k1 q1, fun b m => ?_⟩
    rcases List.mem_cons.mp m with m | m
    · rw [← m] at hs
      exact absurd hs (by decide)
    · exact q2 b m
  | .mut _, _, _, _, o, _ => by cases o
  | .ty _, _, _, _, o, _ => by cases o
  | .cls _, _, _, _, o, _ => by cases o
  | .exn _ _ _, _, _, _, o, _ => by cases o
  | .obj _ _, _, _, _, o, _ => by cases o
theorem readss_of {big : Bool} (I : Inv X pins σ H s) : ∀ (ds : List D) (vs : List V) (us : List Value), DVs X.K p H vs ds → okDs big ds = true → Vals vs us → ∃ as, ReadsAll s.heap us (toPys ds) as ∧ NoSys big as
  | [], _, _, h, _, r => by
    cases h
    cases r
    exact ⟨[], by unfold toPys; exact .nil, fun _ m => nomatch m⟩
  | d :: ds, _, _, .cons h1 h2, o, r => by
    unfold okDs at o
    obtain ⟨o1, o2⟩ := Bool.and_eq_true_iff.mp o
    cases r with
    | cons r1 r2 =>
      obtain ⟨as, q1, n1⟩ := reads_of (big := big) I d _ _ h1 o1 r1
      obtain ⟨bs, q2, n2⟩ := readss_of (big := big) I ds _ _ h2 o2 r2
      exact ⟨_, by unfold toPys; exact .cons q1 q2, n1.app n2⟩
theorem readsk_of {big : Bool} (I : Inv X pins σ H s) : ∀ (ds : List (Key × D)) (kvs : List (Key × V)) (us : List Value), DVk X.K p H kvs ds → okDk big ds = true → Vals (kvs.map (·.2)) us → ∃ as, ReadsAll s.heap us ((toPyk ds).map (·.2)) as ∧ NoSys big as
  | [], _, _, h, _, r => by
    cases h
    cases r
    exact ⟨[], by unfold toPyk; exact .nil, fun _ m => nomatch m⟩
  | (k, d) :: ds, _, _, .cons h1 h2, o, r => by
    unfold okDk at o
    obtain ⟨o1, o2⟩ := Bool.and_eq_true_iff.mp o
    cases r with
    | cons r1 r2 =>
      obtain ⟨as, q1, n1⟩ := reads_of (big := big) I d _ _ h1 o1 r1
      obtain ⟨bs, q2, n2⟩ := readsk_of (big := big) I ds _ _ h2 o2 r2
      exact ⟨_, by unfold toPyk; exact .cons q1 q2, n1.app n2⟩
end
/-- what repr asks of a datum: big where a dict stands within -/
structure Shows (d : D) : Prop where
  ok : okD (toPy d).hasDict d = true
  sh : (toPy d).showable = true
  dp : (toPy d).depth ≤ 60
  sz : (toPy d).shown.length ≤ sizeLine
theorem shown_int (i : Int) : PyData.shown (.int i) = toString i := by unfold PyData.shown; rfl
def rRep (K : PySem.W.Frag) : List V → Hp → VK → Prop := fun xs H Q => ∃ (p : HD) (v : V) (d : D), xs = [v] ∧ DV K p H v d ∧ Shows d ∧ Q (.str (toPy d).shown) H
theorem call_repr (hg : X.A.guards = some []) (hu : X.A.units + 70 < cLine) : CallR X (.builtin "repr") (rRep X.K) := by
  intro pins s σ H xs us Q I r h
  obtain ⟨p, v, d, rfl, dv, S, q⟩ := h
  obtain ⟨u, rfl, ru⟩ := vals1 r
  have sz := S.sz
  have byref : ∀ a, v = .ref a → wpAny (model X.prog X.w) X.A (call (.builtin "repr") [u]) (EP X pins σ Q) X.xe s := fun a e => by
    subst e
    obtain rfl : u = Value.ref a := ru
    obtain ⟨as, q1, q2⟩ := reads_of (big := (toPy d).hasDict) I d _ _ dv S.ok rfl
    exact repr_of_reads' q1 S.sh q2 hg (by have := S.dp; omega) (fun _ _ e => e) (fun h' u tk hk => ⟨.str _, H, I.kept (t' := tk) hk, ⟨u, rfl⟩, q⟩) sz
  cases dv with
  | non =>
    cases ru
    refine PySem.P.repr_of_none ⟨.str _, H, I.tok _, ⟨_, rfl⟩, ?_⟩
    unfold toPy PyData.shown at q
    exact q
  | bl b =>
    cases ru
    refine PySem.P.repr_of_bool ⟨.str _, H, I.tok _, ⟨_, rfl⟩, ?_⟩
    unfold toPy PyData.shown at q
    exact q
  | int i =>
    obtain ⟨t, rfl⟩ := ru
    have hs := S.sh
    unfold toPy PyData.showable at hs
    refine PySem.P.repr_of_int (of_decide_eq_true hs) ⟨.str _, H, I.tok _, ⟨_, rfl⟩, ?_⟩
    unfold toPy PyData.shown at q
    exact q
  | str x =>
    obtain ⟨t, rfl⟩ := ru
    unfold toPy PyData.shown at sz
    refine PySem.P.repr_of_str ⟨.str _, H, I.tok _, ⟨_, rfl⟩, ?_⟩ sz
    unfold toPy PyData.shown at q
    exact q
  | lst _ _ _ => exact byref _ rfl
  | tup _ _ => exact byref _ rfl
  | dct _ _ => exact byref _ rfl
  | «mut» _ => exact absurd S.ok (by unfold okD; exact Bool.false_ne_true)
  | ty _ => exact absurd S.ok (by unfold okD; exact Bool.false_ne_true)
  | cls _ => exact absurd S.ok (by unfold okD; exact Bool.false_ne_true)
  | exn _ _ => exact absurd S.ok (by unfold okD; exact Bool.false_ne_true)
  | obj _ _ => exact absurd S.ok (by unfold okD; exact Bool.false_ne_true)
end
section
variable {K : PySem.W.Frag} {p : HD} {c : PC}
theorem cv_repr {d : D} (h : Shows d) : CV K p (rRep K) [d] (.str (toPy d).shown) true c := fun vs H Q dvs hp k => by
  cases dvs with
  | cons hv r =>
    cases r
    exact ⟨p, _, d, rfl, hv, h, k _ H (Ext.refl p H) hp (.str _) fun _ => New.sc (by intro a h; cases h)⟩
/-! ### all, isinstance, join, list(range) -/
theorem of_bools {H : Hp} : ∀ {vs : List V} {bs : List Bool}, DVs K p H vs (bs.map D.bl) → vs = bs.map V.bl
  | _, [], .nil => rfl
  | _, b :: r, .cons h t => by
    cases h
    rw [of_bools t]
    rfl
theorem cv_all {g : G} {bs : List Bool} : CV K p (rAll K) [.lst g (bs.map D.bl)] (.bl (bs.all id)) true c := fun vs H Q dvs hp k => by
  cases dvs with
  | cons hv r =>
    cases r
    cases hv with
    | lst _ hq ha =>
      rw [of_bools ha] at hq
      exact ⟨_, bs, rfl, un_sqL hq, k _ H (Ext.refl p H) hp (.bl _) fun _ => New.sc (by intro a h; cases h)⟩
/-- the built-in type of a datum -/
def tyD : D → Option String
  | .non => some "NoneType"
  | .bl _ => some "bool"
  | .int _ => some "int"
  | .str _ => some "str"
  | .lst _ _ => some "list"
  | .tup _ => some "tuple"
  | .dct _ => some "dict"
  | .mut _ => none
  | .ty _ => none
  | .cls _ => none
  | .exn _ _ _ => none
  | .obj _ _ => none
end
end LA

namespace LA
open PySem PySem.Spec PyProof.Rows L2
section
variable {X : Cx} {W : WX} {p : HD} {ρ ρ1 : Rho} {c c1 c2 c3 : PC} {e e2 a b o tg : Expr} {es : List Expr} {pos apos : Pos} {d d1 d2 : D} {n1 n2 nw : Bool} {K : PySem.W.Frag}
/-! ### isinstance -/
theorem tyx_of {H : Hp} {v : V} {d : D} {t : String} (h : DV K p H v d) (e : tyD d = some t) : TyX K H v (.type t) := by
  cases h with
  | non => cases e; exact .base .non
  | bl b => cases e; exact .base (.bl b)
  | int i => cases e; exact .base (.int i)
  | str x => cases e; exact .base (.str x)
  | lst _ hq _ =>
    cases e
    rcases un_sqL hq with (h | ⟨o, h⟩) | ⟨o, its, n, hk, hc, _⟩
    · exact .base (.lst h)
    · exact .base (.frz h)
    · exact .kList hk hc
  | tup hq _ =>
    cases e
    rcases un_sqT hq with (h | ⟨o, h⟩) | ⟨o, its, n, hk, hc, _⟩
    · exact .base (.tup h)
    · exact .fTuple h
    · exact .kTuple hk hc
  | dct hq _ =>
    cases e
    rcases un_rd hq with h | ⟨o, h⟩
    · exact .base (.dK h)
    · exact .fDict h
  | «mut» _ => cases e
  | obj _ _ => cases e
  | ty _ => cases e
  | cls _ => cases e
  | exn _ _ => cases e
theorem cv_isi {t n : String} {k : Bool} (hd : tyD d = some t) (hk : kitB t n = some k) : CV K p (rIsi K) [d, .ty n] (.bl k) true c := fun vs H Q dvs hp kk => by
  cases dvs with
  | cons hv r =>
    cases r with
    | cons hv2 r =>
      cases r
      cases hv2
      exact ⟨_, _, _, _, k, rfl, .ty n, tyx_of hv hd, kit_ty hk, kk _ H (Ext.refl p H) hp (.bl _) fun _ => New.sc (by intro a h; cases h)⟩
theorem re_ty {x : Str} {n : String} (hm : X.mg x = none) (hv : bootBuiltins x = some (.type n)) (hg : Gl X x := by rfl) (hn : x ≠ "__name__" := by decide) (hd : (x == ("__debug__" : Str)) = false := by decide) : RE X W p ρ c (.Name x pos) (.val (.ty n) true c) :=
  re_c (pe_bltn (v := .ty n) hg hm hv rfl hn hd) (fun _ => .ty n) (by intro a h; cases h)
/-! ### sep.join(list of texts) -/
theorem re_join {g : G} {sep : Str} {ss : List Str} (ho : RE X W p ρ c o (.val (.str sep) n1 c1)) (he : RE X W p ρ c1 e (.val (.lst g (ss.map D.str)) n2 c2)) (hz : (ss.map (·.length)).sum + ss.length * sep.length ≤ 16777216)
    (hs : starEach [e] X.env = [(false, eval e X.env)] := by rfl) (hbase : attributeBase o "join" X.env (eval o X.env) = eval o X.env := by rfl) (hline : (apos.endLine == pos.line) = true := by rfl) :
    RE X W p ρ c (.Call (.Attribute o "join" apos) [e] [] pos) (.val (.str (Txt.join sep ss)) true c2) :=
  pe_imp (pe_join ho he hs hbase hline) fun σ H Q ⟨s, k⟩ => ⟨s, fun v H1 e1 p1 dv _ => by
    cases dv
    refine ⟨⟨sep, rfl⟩, s.mono e1 p1, fun u H2 e2 p2 du _ => ?_⟩
    cases du with
    | lst _ hq ha =>
      rw [of_strs ha] at hq
      exact ⟨sep, _, ss, rfl, rfl, .inl (un_sqL hq), hz, k _ H2 (e1.trans e2) p2 (.str _) fun _ => New.sc (by intro a h; cases h)⟩⟩
/-! ### list(range(n)) -/
theorem dvs_ints {H : Hp} : ∀ (l : List Nat), DVs K p H (l.map fun i => V.int ((0 : Int) + (i : Nat))) (l.map fun i => D.int ((i : Nat) : Int))
  | [] => .nil
  | i :: r => .cons (by
    show DV K p H (.int ((0 : Int) + (i : Nat))) (.int ((i : Nat) : Int))
    rw [Int.zero_add]
    exact .int _) (dvs_ints r)
theorem re_listRg {pl pr : Pos} {n : Int} (hc : X.calm = true) (ha : RE X W p ρ c e (.val (.int n) nw c1)) (h0 : 0 ≤ n) (h1 : n ≤ 100000) (hm : X.mg "range" = none) (hml : X.mg "list" = none) (hg : Gl X "range" := by rfl) (hgl : Gl X "list" := by rfl)
    (na : starEach [e] X.env = (false, eval e X.env) :: starEach [] X.env := by rfl)
    (nb : starEach [.Call (.Name "range" pr) [e] [] pos] X.env = (false, eval (.Call (.Name "range" pr) [e] [] pos) X.env) :: starEach [] X.env := by rfl) :
    RE X W p ρ c (.Call (.Name "list" pl) [.Call (.Name "range" pr) [e] [] pos] [] apos) (.val (.lst ⟨false, true⟩ (intsD n.toNat)) true c1) :=
  pe_imp (pe_listRg hc hgl hml (prg_1 hg hm ha na) nb) fun σ H Q ⟨s, k⟩ => ⟨s, fun v H1 e1 p1 dv _ => by
    cases dv
    refine ⟨n, rfl, RgOk.of_le (by decide) (by omega) (by decide) h0, fun q hq => ?_⟩
    have dv : DVs X.K p H1 (rgV 0 n) (intsD n.toNat) := by
      unfold rgV intsD
      rw [Int.sub_zero]
      exact dvs_ints _
    exact k _ _ (e1.trans (Ext.new hq)) (p1.upd hq) (.lst ⟨(fun z => nomatch z), fun _ => hide_upd p1 hq⟩ (.inl (.inl (hide_upd p1 hq))) (dv.mono (Ext.new hq))) fun _ => (New.lst p1 hq dv).back e1⟩
/-! ### {k: v}, the key a written text -/
theorem re_dct1 {x : Str} {j : Nat} {kp : Pos} (hv : ∀ q : HD, RE X W q ρ c e (.val d nw c1)) : RE X W p ρ c (.Dict [some (.Constant (.str x) j kp)] [e] pos) (.val (.dct [(.inr x, d)]) true c1) := by
  have N : ∀ (trs : List (TE × TE)), trs = [(tC (.str x), fun σ H Q => ∃ q : HD, tE X.K W q ρ c (.val d nw c1) σ H Q)] → PPs X pos [some (.Constant (.str x) j kp)] [e] trs := fun trs h => by
    subst h
    exact pps_cons pe_str ⟨fun pins s σ H Q I ⟨q, h⟩ => (hv q).run pins s σ H Q I h⟩ pps_nil
  refine pe_imp (pe_disp (N _ rfl) (by rfl) (by rfl) (fun z => by cases z) (by show 1 ≤ 15; decide)) fun σ H Q ⟨s, k⟩ => ?_
  intro L nL
  have pq : PoolAt X.K (p.also L) (upd H L (.dK [])) c := s.pl.also nL
  have nLp : L ∉ p.m := fun z => s.pl.not nL (.inl z)
  refine ⟨p.also L, ⟨s.len, fun i d hd => ?_, pq⟩, fun v H2 e2 p2 dv _ => ?_⟩
  · obtain ⟨v, h1, h2⟩ := s.at' i d hd
    exact ⟨v, h1, (h2.also nL).mono (Ext.new nL)⟩
  · have hL : H2 L = some (.dK []) := e2 L _ nLp upd_same
    have sb : Sub (hide (p.also L) H2) (hide p (upd H2 L (.dK (mergeK [] [(.inr x, v)])))) := fun a o h => by
      obtain ⟨h1, h2⟩ := hide_some h
      have hn : a ≠ L := fun z => h2 (.inr (by rw [z]; exact List.mem_cons_self))
      rw [hide_ne (show ¬ p.hid a from fun z => h2 (z.elim .inl fun m => .inr (List.mem_cons_of_mem _ m))), upd_ne hn]
      exact h1
    refine ⟨hL, [(.inr x, v)], rfl, by show 1 ≤ 15; decide, ?_⟩
    have e1 : Ext p H (upd H2 L (.dK (mergeK [] [(.inr x, v)]))) := fun a o n h => by
      rw [upd_ne (ne_of_none h nL)]
      exact e2 a o n (by rw [upd_ne (ne_of_none h nL)]; exact h)
    refine k _ _ e1 (p2.other List.mem_cons_self nLp).less (.dct (.inl ?_) (.cons (dv.sub sb fun _ _ z => z) .nil)) fun _ => (fun b z => by
      cases z
      exact ⟨⟨nL, nLp⟩, p2.other List.mem_cons_self nLp, fun g ds z => nomatch z⟩)
    rw [hide_ne (s.pl.not nL), upd_same]
    rfl
end
end LA

namespace LA
open PySem PySem.Spec PyProof.Rows L2
/-! ### try with several clauses, each with or without a name -/
/-- a clause: its class, the slot of its name, what its suite reads -/
structure Cl where
  c : Value
  i : Option Nat
  ts : Addr → Value → Option Addr → TS
def inSlot : Option Nat → V → L2.St → L2.St
  | none, _, σ => σ
  | some i, v, σ => σ.set i (some v)
def outSlot : Option Nat → L2.St → L2.St
  | none, σ => σ
  | some i, σ => σ.set i none
def Ends.behind (D : Ends) (i : Option Nat) : Ends := { nx := fun σ' H' => D.nx (outSlot i σ') H', rt := D.rt, bk := fun σ' H' => D.bk (outSlot i σ') H', ct := fun σ' H' => D.ct (outSlot i σ') H' }
def wCl (K : PySem.W.Frag) (Wo : WX) (D : Ends) : List Cl → WX
  | [] => Wo
  | l :: r => fun cls d σ H => ∃ b, PySem.W.exmOne K cls l.c = some b ∧ (b = true → ∀ a, H a = none → l.ts a cls d (Ends.behind D l.i) (inSlot l.i (.ref a) σ) H) ∧ (b = false → wCl K Wo D r cls d σ H)
inductive ClsOk (X : Cx) : List ExceptHandler → List Cl → Prop
  | nil : ClsOk X [] []
  | bare {x : Str} {c : Value} {ts : Addr → Value → Option Addr → TS} {b0 : Stmt} {su : List Stmt} {np hp : Pos} {hs : List ExceptHandler} {l : List Cl} (nm : Names X x c)
      (run : ∀ (a : Addr) (oe : Obj) (cls : Value) (d : Option Addr) (pn : List (Addr × Obj)), Zc cls d oe → (∃ vs, oe.data = .fields vs) → PSs (X.suite a ((a, oe) :: pn)) (b0 :: su) (ts a cls d)) (r : ClsOk X hs l) :
      ClsOk X (.ExceptHandler (some (.Name x np)) none (b0 :: su) hp :: hs) (⟨c, none, ts⟩ :: l)
  | named {x n : Str} {c : Value} {i : Nat} {ts : Addr → Value → Option Addr → TS} {b0 : Stmt} {su : List Stmt} {np hp : Pos} {hs : List ExceptHandler} {l : List Cl} (nm : Names X x c) (hi : X.N[i]? = some n) (hl : X.env.kindOf n = some .local)
      (run : ∀ (a : Addr) (oe : Obj) (cls : Value) (d : Option Addr) (pn : List (Addr × Obj)), Zc cls d oe → (∃ vs, oe.data = .fields vs) → PSs (X.suite a ((a, oe) :: pn)) (b0 :: su) (ts a cls d)) (r : ClsOk X hs l) :
      ClsOk X (.ExceptHandler (some (.Name x np)) (some n) (b0 :: su) hp :: hs) (⟨c, some i, ts⟩ :: l)
section
variable {X : Cx} {body : List Stmt} {h0 : ExceptHandler} {hs : List ExceptHandler} {l : List Cl} {pos : Pos} {tb : WX → TS} {Wo : WX}
theorem ps_tryCl (hst : X.stack = X.env :: X.outer) (hfr : X.env.frame = some X.env.locals) (hN : X.N.Nodup) (tk : Takes X Wo)
    (hb : ∀ (W : WX) (pn : List (Addr × Obj)) (xe : Value → Shared → Prop), Takes (X.tr pn xe) W → PassesOwn (model X.prog X.w) X.A X.env xe → PSs (X.tr pn xe) body (tb W))
    (hh : ClsOk X (h0 :: hs) l) : PS X (.Try body (h0 :: hs) [] [] pos) (fun D σ H => tb (wCl X.K Wo D l) D σ H) := by
  refine ⟨fun pins s σ H D I hw => ?_⟩
  have OK := I.ok
  have fr2 : X.A.frames = some (X.env :: X.outer) := OK.frames.trans (by rw [hst])
  refine wpAny_Try_except (wpAny_mono ((hb (wCl X.K Wo D l) (X.pn ++ pins) (fun ev sa => wpAny (model X.prog X.w) X.A (noteFrame ev X.env) (fun _ sb => wpAny (model X.prog X.w) X.A (setFlight ev none) (fun _ sc =>
    wpAny (model X.prog X.w) X.A (handleBy ev X.env (h0 :: hs)) (SP X pins D) X.xe sc) X.xe sb) X.xe sa) (fun u sr xx => ?_) PassesOwn.looking).run [] s σ H D (I.toTry _) hw) (fun fl sr q => ?_) fun ev sr q => q)
  · obtain ⟨a, B, sI, pins', σ1, H1, cls, d, rfl, J1, nb, up, sky, na, os, ag, wish⟩ := xx
    have JA : Inv X pins σ1 H1 sI := J1.ofTry OK
    have skyA : Sky B (X.env :: X.outer) a (Zc cls d) X.env.locals sr.heap := by
      rw [← hst]
      exact sky
    show wpAny (model X.prog X.w) X.A (noteFrame (.ref a) X.env) _ _ _
    refine Sky.land Zc.steady fr2 hfr skyA fun hp3 fly upB => ?_
    have JB : Inv X pins σ1 H1 { sr with heap := hp3 } := JA.landed nb fly.1 (up.trans upB) os ag
    obtain ⟨ob, fv, g1, g2, g3⟩ := fly.there
    have notIn : ∀ {hp : Heap} {o : Obj} {ws : Array Value}, hp.FunFrames B (X.env :: X.outer) → hp.get? a = some o → o.data = .fields ws → a ∉ frs (X.env :: X.outer) := fun {hp o ws} ff y z m => by
      obtain ⟨_, o2, y2, nf⟩ := ff.mem m
      rw [y] at y2
      cases y2
      exact nf _ z
    have nAll := notIn fly.2.2.1 g1 g3
    have nLoc : a ≠ X.env.locals := fun z => nAll (List.mem_filterMap.mpr ⟨X.env, List.mem_cons_self, by rw [hfr, z]⟩)
    have nFs : a ∉ X.fs := fun m => by
      obtain ⟨en, hen, z⟩ := List.mem_filterMap.mp m
      exact nAll (List.mem_filterMap.mpr ⟨en, List.mem_cons_of_mem _ hen, z⟩)
    have SB := JB.suite g1 g3 na nLoc nFs
    have seen : ∀ {x : Str} {np : Pos} {c : Value} {Q : Value → Shared → Prop} {E : Value → Shared → Prop}, Names X x c → Q c { sr with heap := hp3 } → wpAny (model X.prog X.w) (X.A.mark (some (.ref a))) (eval (.Name x np) X.env) Q E { sr with heap := hp3 } := fun {x np c Q E} nm q => by
      obtain ⟨hg, hd, hm | ⟨hm, hv, hnn⟩⟩ := nm
      · exact ld_glob (X := X.suite a ((a, ob) :: (X.pn ++ pins))) SB hg hm q hd
      · exact ld_blt (X := X.suite a ((a, ob) :: (X.pn ++ pins))) SB hg hm hv q hnn hd
    have walk : ∀ {hs' : List ExceptHandler} {l' : List Cl}, ClsOk X hs' l' → wCl X.K Wo D l' cls d σ1 H1 → wpAny (model X.prog X.w) X.A (handleBy (.ref a) X.env hs') (SP X pins D) X.xe { sr with heap := hp3 } := by
      intro hs' l' ck
      induction ck with
      | nil =>
        intro wz
        refine wpAny_handleBy_nil ?_
        obtain ⟨z1, z2, z3, oe, vs, T, oT, tz, ho, hz, hdat, hf1, hrst⟩ := id fly
        unfold PySem.passOn
        refine wpAny_bind (wpAny_field ho hdat hf1 ?_)
        rw [if_neg (show ¬ ((Value.ref T == Value.none) = true) by simp)]
        have onw : wpAny (model X.prog X.w) X.A (setFlight (.ref a) X.env.frame) (fun _ sd => wpAny (model X.prog X.w) X.A (throw (.ref a) : Sem Flow) (SP X pins D) X.xe sd) X.xe { sr with heap := hp3 } := by
          rw [hfr]
          refine HandSPX.setFlight_upZ fly fun hp4 held upC => wpAny_throw (tk _ _ ?_)
          exact ⟨a, B, sI, pins, σ1, H1, cls, d, rfl, JA, nb, (up.trans upB).trans upC, .inr (.inr (by rw [hst]; exact held)), na, os, ag, wz⟩
        first
          | exact wpAny_bind (wpAny_pure (wpAny_bind onw))
          | exact wpAny_bind onw
      | @bare x c ts b0 su np hp hs2 l2 nm run r ih =>
        intro wz
        obtain ⟨b, hb1, yes, no⟩ := wz
        refine wpAny_handleBy_cons (codeAny_handlers_test ?_) (by intro z; cases z)
        have LT : PySem.W.Looks (model X.prog X.w) hp3 (typeOf (.ref a)) cls := fun A Q E s' kp q => wpAny_typeOf_ref (kp _ _ g1) (by rw [g2.1]; exact q)
        refine seen nm ((PySem.W.exm_one (M := model X.prog X.w) JB.kIn LT hb1).here ?_)
        cases b with
        | false =>
          show wpAny _ X.A (handleBy (.ref a) X.env hs2) _ _ _
          exact ih (no rfl)
        | true =>
          refine codeAny_handlers_suite ?_
          refine HandSPX.lands_againZ fly fun hp4 fly4 upC => ?_
          have JC : Inv X pins σ1 H1 { sr with heap := hp4 } := JA.landed nb fly4.1 ((up.trans upB).trans upC) os ag
          obtain ⟨o4, w4, y4, z4, d4⟩ := fly4.there
          refine wpAny_mono ((run a o4 cls d (X.pn ++ pins) z4 ⟨_, d4⟩).run [] _ _ H1 _ (JC.suite y4 d4 na nLoc nFs) (yes rfl a na)) (fun fl st q => ?_) fun _ _ z => False.elim z
          cases fl with
          | next => obtain ⟨σ6, H6, S6, q6⟩ := q; exact ⟨σ6, H6, S6.unsuite OK, q6⟩
          | brk => obtain ⟨σ6, H6, S6, q6⟩ := q; exact ⟨σ6, H6, S6.unsuite OK, q6⟩
          | cont => obtain ⟨σ6, H6, S6, q6⟩ := q; exact ⟨σ6, H6, S6.unsuite OK, q6⟩
          | ret u => obtain ⟨v6, σ6, H6, S6, r6, q6⟩ := q; exact ⟨v6, σ6, H6, S6.unsuite OK, r6, q6⟩
      | @named x n c i ts b0 su np hp hs2 l2 nm hi hl run r ih =>
        intro wz
        obtain ⟨b, hb1, yes, no⟩ := wz
        refine wpAny_handleBy_cons (codeAny_handlers_test ?_) (by intro z; cases z)
        have LT : PySem.W.Looks (model X.prog X.w) hp3 (typeOf (.ref a)) cls := fun A Q E s' kp q => wpAny_typeOf_ref (kp _ _ g1) (by rw [g2.1]; exact q)
        refine seen nm ((PySem.W.exm_one (M := model X.prog X.w) JB.kIn LT hb1).here ?_)
        cases b with
        | false =>
          show wpAny _ X.A (handleBy (.ref a) X.env hs2) _ _ _
          exact ih (no rfl)
        | true =>
          refine codeAny_handlers_suite_as ?_
          refine HandSPX.lands_againZ fly fun hp4 fly4 upC => ?_
          have JC : Inv X pins σ1 H1 { sr with heap := hp4 } := JA.landed nb fly4.1 ((up.trans upB).trans upC) os ag
          obtain ⟨o4, w4, y4, z4, d4⟩ := fly4.there
          refine store_ok (X := X.suite a ((a, o4) :: (X.pn ++ pins))) (v := .ref a) (JC.suite y4 d4 na nLoc nFs) hN hi (.inl hl) rfl (fun s5 S5 => ?_) (.inr hl)
          refine wpAny_mono ((run a o4 cls d (X.pn ++ pins) z4 ⟨_, d4⟩).run [] s5 _ H1 _ S5 (yes rfl a na)) (fun fl st q => ?_) fun _ _ z => False.elim z
          have close : ∀ {σ6 : L2.St} {H6 : Hp} {Q : Shared → Prop}, Inv (X.suite a ((a, o4) :: (X.pn ++ pins))) [] σ6 H6 st → (∀ s7, Inv X pins (σ6.set i none) H6 s7 → Q s7) →
              wpAny (model X.prog X.w) X.A (do bindName X.env n .none; unbindBehindTheSuite X.env n hp) (fun _ s7 => Q s7) X.xe st := fun {σ6 H6 Q} S6 hq => gone_ok (S6.unsuite OK) hN hi hl hq
          cases fl with
          | next => obtain ⟨σ6, H6, S6, q6⟩ := q; exact close S6 fun s7 J7 => ⟨_, H6, J7, q6⟩
          | brk => obtain ⟨σ6, H6, S6, q6⟩ := q; exact close S6 fun s7 J7 => ⟨_, H6, J7, q6⟩
          | cont => obtain ⟨σ6, H6, S6, q6⟩ := q; exact close S6 fun s7 J7 => ⟨_, H6, J7, q6⟩
          | ret u => obtain ⟨v6, σ6, H6, S6, r6, q6⟩ := q; exact close S6 fun s7 J7 => ⟨v6, _, H6, J7, r6, q6⟩
    exact walk hh wish
  · cases fl with
    | next => obtain ⟨σ6, H6, J6, q6⟩ := q; exact wpAny_execs_nil ⟨σ6, H6, J6.ofTry OK, q6⟩
    | brk => obtain ⟨σ6, H6, J6, q6⟩ := q; exact ⟨σ6, H6, J6.ofTry OK, q6⟩
    | cont => obtain ⟨σ6, H6, J6, q6⟩ := q; exact ⟨σ6, H6, J6.ofTry OK, q6⟩
    | ret u => obtain ⟨v6, σ6, H6, J6, r6, q6⟩ := q; exact ⟨v6, σ6, H6, J6.ofTry OK, r6, q6⟩
end
end LA

namespace LA
open PySem PySem.Spec PyProof.Rows L2
/-! ### exceptions with fields -/
/-- __init__(self, y): self.f = y -/
def spIni1 (K : PySem.W.Frag) (f : Str) : Sp := fun vs H Q _ => ∃ (a C : Addr) (y : V), vs = [.ref a, y] ∧ OexC K C ∧ PySem.W.findIn K (.ref C) f = some none ∧ H a = some (exo a C none) ∧
  ∀ dx, H dx = none → dx ≠ a → Q .non (upd (upd H dx (exd dx [(f, y)])) a (exo a C (some dx)))
/-- __init__(self, y, z): self.f = y; self.g = z -/
def spIni2 (K : PySem.W.Frag) (f g : Str) : Sp := fun vs H Q _ => ∃ (a C : Addr) (y z : V), vs = [.ref a, y, z] ∧ OexC K C ∧ PySem.W.findIn K (.ref C) f = some none ∧ PySem.W.findIn K (.ref C) g = some none ∧ H a = some (exo a C none) ∧
  ∀ dx, H dx = none → dx ≠ a → Q .non (upd (upd (upd H dx (exd dx [(f, y)])) a (exo a C (some dx))) dx (exd dx [(g, z), (f, y)]))
section
variable {P : Program} {w : World} {K : PySem.W.Frag} {mg : Str → Option Value} {base : Heap} {qual : Str} {st : Stmt} {fI : Addr} {fd : FuncData}
theorem vis_of {N ps : List Str} {sc : Scope} (S : FnScope N ps sc) {x : Str} (h : x ∈ ps) : Vis sc x := (S.par x h).elim .inl fun z => .inr (.inl z)
theorem ok_ini1 {f pn : Str} {q1 q2 q3 q4 : Pos} (F : Fun K "__init__" qual st fI fd) (S : FnScope ["self", pn] ["self", pn] (defScope st)) (hb : defBody st = [.Assign [.Attribute (.Name "self" q1) f q2] (.Name pn q3) q4])
    (h1 : (pn == ("__debug__" : Str)) = false) (h2 : (pn == ("__classdict__" : Str)) = false) : FnOk P w K mg base CX0 1 fI fd ["self", pn] (spIni1 K f) := by
  refine F.ok S (fun vs H Q E h => ?_) (fun cdv A outer s H vs Q E hr h => ?_)
  · obtain ⟨a, C, y, rfl, _⟩ := h
    rfl
  · obtain ⟨a, C, y, rfl, T, hno, ha, k⟩ := h
    rw [hb]
    refine ⟨_, pss_one (ps_ost (pv 0 (hv := vis_of S (List.mem_cons_self ..))) (pv 1 (hN := rfl) (hv := vis_of S (List.mem_cons_of_mem _ (List.mem_cons_self ..))) (hd := h1) (hcd := h2))), ?_⟩
    exact ⟨y, rfl, .ref a, rfl, a, C, rfl, T, hno, .inl ⟨ha, fun dx n ne => k dx n ne⟩⟩
theorem ok_ini2 {f g pn pm : Str} {q1 q2 q3 q4 r1 r2 r3 r4 : Pos} (F : Fun K "__init__" qual st fI fd) (S : FnScope ["self", pn, pm] ["self", pn, pm] (defScope st))
    (hb : defBody st = [.Assign [.Attribute (.Name "self" q1) f q2] (.Name pn q3) q4, .Assign [.Attribute (.Name "self" r1) g r2] (.Name pm r3) r4])
    (h1 : (pn == ("__debug__" : Str)) = false) (h2 : (pn == ("__classdict__" : Str)) = false) (h3 : (pm == ("__debug__" : Str)) = false) (h4 : (pm == ("__classdict__" : Str)) = false) : FnOk P w K mg base CX0 1 fI fd ["self", pn, pm] (spIni2 K f g) := by
  refine F.ok S (fun vs H Q E h => ?_) (fun cdv A outer s H vs Q E hr h => ?_)
  · obtain ⟨a, C, y, z, rfl, _⟩ := h
    rfl
  · obtain ⟨a, C, y, z, rfl, T, hno, hno2, ha, k⟩ := h
    rw [hb]
    have m1 : pn ∈ (["self", pn, pm] : List Str) := List.mem_cons_of_mem _ (List.mem_cons_self ..)
    have m2 : pm ∈ (["self", pn, pm] : List Str) := List.mem_cons_of_mem _ (List.mem_cons_of_mem _ (List.mem_cons_self ..))
    refine ⟨_, pss_cons (ps_ost (pv 0 (hv := vis_of S (List.mem_cons_self ..))) (pv 1 (hN := rfl) (hv := vis_of S m1) (hd := h1) (hcd := h2)))
      (pss_one (ps_ost (pv 0 (hv := vis_of S (List.mem_cons_self ..))) (pv 2 (hN := rfl) (hv := vis_of S m2) (hd := h3) (hcd := h4)))), ?_⟩
    refine ⟨y, rfl, .ref a, rfl, a, C, rfl, T, hno, .inl ⟨ha, fun dx n ne => ?_⟩⟩
    exact ⟨z, rfl, .ref a, rfl, a, C, rfl, T, hno2, .inr ⟨dx, [(f, y)], upd_same, by rw [upd_ne ne]; exact upd_same, (by show 1 ≤ 900; decide), k dx n ne⟩⟩
end
section
variable {X : Cx} {W : WX} {p : HD} {ρ : Rho} {c c1 c2 : PC} {e e2 : Expr} {pos pos2 xp : Pos} {d d2 : D} {n1 n2 : Bool} {x f g pn pm : Str} {C fI : Addr} {fd : FuncData} {k : Nat}
/-- the heap when the exception has left, by what it has in sight -/
theorem fin_ex {K : PySem.W.Frag} {H1 G : Hp} {a dx : Addr} {fs : List (Str × V)} (na : H1 a = none) (nd : H1 dx = none) (hG : ∀ b, b ≠ a → b ≠ dx → G b = H1 b) (hp : PoolAt K p H1 c) : Ext p H1 (upd (L2.del G a) dx (.xd fs)) ∧ PoolAt K p (upd (L2.del G a) dx (.xd fs)) c ∧ hide p (upd (L2.del G a) dx (.xd fs)) dx = some (.xd fs) := by
  have at' : ∀ b, b ≠ a → b ≠ dx → upd (L2.del G a) dx (.xd fs) b = H1 b := fun b h1 h2 => by
    rw [upd_ne h2, del_ne h1, hG b h1 h2]
  have e : Ext p H1 (upd (L2.del G a) dx (.xd fs)) := fun b o _ h => by
    rw [at' b (ne_of_none h na) (ne_of_none h nd)]
    exact h
  refine ⟨e, ⟨⟨hp.1.1, hp.1.2.1, fun i b x h1 h2 => ?_⟩, fun b z => ?_⟩, ?_⟩
  · obtain ⟨o, q⟩ := hp.ex (List.mem_of_getElem? h1)
    exact (hp.1.2.2 i b x h1 h2).sub e.hide (at' b (ne_of_none q na) (ne_of_none q nd))
  · obtain ⟨o, q⟩ := hp.2 b z
    exact ⟨o, by rw [at' b (ne_of_none q na) (ne_of_none q nd)]; exact q⟩
  · rw [hide_ne (hp.not nd), upd_same]
theorem rs_raise1 (hc : X.calm = true) (tk : Takes X W) (T : OexC X.K C) (hno : PySem.W.findIn X.K (.ref C) f = some none) (iC : PySem.W.findIn X.K (.ref C) "__init__" = some (some (.ref fI))) (tI : PySem.W.typeIn X.K (.ref fI) = some (.type "function"))
    (F1 : FnOk X.prog X.w X.K X.mg X.base CX0 k fI fd ["self", pn] (spIni1 X.K f)) (hr : Room (k + 1) X.A) (hb : Binds X.K fd ["self", pn] []) (hm : X.mg x = some (.ref C)) (he : RE X W p ρ c e (.val d n1 c1)) (hg : Gl X x := by rfl)
    (hdb : (x == ("__debug__" : Str)) = false := by decide) (hs : starEach (e :: []) X.env = (false, eval e X.env) :: starEach [] X.env := by rfl) (hpl : (backTo pos (starEach [] X.env)).any (·.1) = false := by rfl) :
    RS X W p ρ c (.Raise (some (.Call (.Name x xp) [e] [] pos)) none pos2) (.ex C [(f, d)] c1) :=
  ps_imp (ps_raise hc tk (pmk_oex T iC tI F1 hr hb .nil pass0 hg hm (ra_cons (W := W) he (ra_nil (W := W)) hs) hdb hs hpl)) fun De σ H h => ⟨h.1, fun vs H1 e1 p1 dvs => by
    cases dvs with
    | @cons y _ _ _ dy r =>
      cases r
      refine ⟨by show 1 ≤ 1000; decide, fun a na => ⟨a, C, y, rfl, T, hno, upd_same, fun dx n ne => ⟨rfl, dx, [(f, y)], upd_same, by rw [upd_ne ne]; exact upd_same, ?_, ?_⟩⟩⟩
      · rw [upd_ne ne] at n
        exact n
      · have nd : H1 dx = none := by
          rw [upd_ne ne] at n
          exact n
        obtain ⟨q1, q2, q3⟩ := fin_ex (p := p) (fs := [(f, y)]) na nd (G := upd (upd (upd H1 a (exo a C none)) dx (exd dx [(f, y)])) a (exo a C (some dx))) (fun b h1 h2 => by rw [upd_ne h1, upd_ne h2, upd_ne h1]) p1
        exact h.2 ρ dx [(f, y)] σ _ (e1.trans q1) (h.1.mono (e1.trans q1) q2) rfl q3 (.cons (dy.mono q1) .nil)⟩
theorem rs_raise2 (hc : X.calm = true) (tk : Takes X W) (T : OexC X.K C) (hno : PySem.W.findIn X.K (.ref C) f = some none) (hno2 : PySem.W.findIn X.K (.ref C) g = some none) (iC : PySem.W.findIn X.K (.ref C) "__init__" = some (some (.ref fI))) (tI : PySem.W.typeIn X.K (.ref fI) = some (.type "function"))
    (F1 : FnOk X.prog X.w X.K X.mg X.base CX0 k fI fd ["self", pn, pm] (spIni2 X.K f g)) (hr : Room (k + 1) X.A) (hb : Binds X.K fd ["self", pn, pm] []) (hm : X.mg x = some (.ref C)) (he : RE X W p ρ c e (.val d n1 c1)) (he2 : RE X W p ρ c1 e2 (.val d2 n2 c2)) (hg : Gl X x := by rfl)
    (hdb : (x == ("__debug__" : Str)) = false := by decide) (hs : starEach (e :: [e2]) X.env = (false, eval e X.env) :: starEach [e2] X.env := by rfl) (hs2 : starEach (e2 :: []) X.env = (false, eval e2 X.env) :: starEach [] X.env := by rfl) (hpl : (backTo pos (starEach [e2] X.env)).any (·.1) = false := by rfl) :
    RS X W p ρ c (.Raise (some (.Call (.Name x xp) [e, e2] [] pos)) none pos2) (.ex C [(g, d2), (f, d)] c2) :=
  ps_imp (ps_raise hc tk (pmk_oex T iC tI F1 hr hb .nil pass0 hg hm (ra_cons (W := W) he (ra_cons (W := W) he2 (ra_nil (W := W)) hs2) hs) hdb hs hpl)) fun De σ H h => ⟨h.1, fun vs H1 e1 p1 dvs => by
    cases dvs with
    | @cons y _ _ _ dy r =>
      cases r with
      | @cons z _ _ _ dz r =>
        cases r
        refine ⟨by show 2 ≤ 1000; decide, fun a na => ⟨a, C, y, z, rfl, T, hno, hno2, upd_same, fun dx n ne => ?_⟩⟩
        have nd : H1 dx = none := by
          rw [upd_ne ne] at n
          exact n
        refine ⟨rfl, dx, [(g, z), (f, y)], by rw [upd_ne (Ne.symm ne)]; exact upd_same, upd_same, nd, ?_⟩
        obtain ⟨q1, q2, q3⟩ := fin_ex (p := p) (fs := [(g, z), (f, y)]) na nd (G := upd (upd (upd (upd H1 a (exo a C none)) dx (exd dx [(f, y)])) a (exo a C (some dx))) dx (exd dx [(g, z), (f, y)])) (fun b h1 h2 => by rw [upd_ne h2, upd_ne h1, upd_ne h2, upd_ne h1]) p1
        exact h.2 ρ dx _ σ _ (e1.trans q1) (h.1.mono (e1.trans q1) q2) rfl q3 (.cons (dz.mono q1) (.cons (dy.mono q1) .nil))⟩
end
/-! ### the field of a caught exception -/
theorem re_xf {X : Cx} {a C dx : Addr} {oe : Obj} {cls : Value} {pn : List (Addr × Obj)} {e : Expr} {pos : Pos} {n : Str} {p : HD} {ρ : Rho} {c c1 : PC} {fs : List (Str × D)} {d : D} {nw : Bool} {W : WX} (T : XfC X.K C) (hno : PySem.W.findIn X.K (.ref C) n = some none) (hz : Zc cls (some dx) oe) (hf : ∃ vs, oe.data = .fields vs) (hc : cls = .ref C)
    (he : RE (X.suite a ((a, oe) :: pn)) W p ρ c e (.val (.exn a dx fs) nw c1)) (hl : fs.lookup n = some d) (hb : attributeBase e n X.env (eval e X.env) = eval e X.env := by rfl) : RE (X.suite a ((a, oe) :: pn)) W p ρ c (.Attribute e n pos) (.val d false c1) :=
  pe_imp (pe_xf T hno hz hf he hb) fun σ H Q ⟨s, k⟩ => ⟨s, fun v H1 e1 p1 dv _ => by
    cases dv with
    | exn hx hfv =>
      obtain ⟨y, h1, h2⟩ := hfv.get hl
      exact ⟨rfl, hc, dx, _, y, rfl, (hide_some hx).1, h1, k y H1 e1 p1 h2 fun q => nomatch q⟩⟩
end LA

namespace LA
open PySem PySem.Spec PyProof.Rows L2
/-! ### for over an iterator of data -/
section
variable {X : Cx} {W : WX} {p : HD} {ρ : Rho} {c : PC} {tg it : Expr} {body : List Stmt} {pos : Pos} {xs : List D} {g : TG} {vs : List Nat}
/-- n turns go on, then the end or a turn that returns -/
theorem rs_for (n : Nat) (ρs ρt : Nat → Rho) (cs : Nat → PC) (o : SO) (hp : PassesOwn (model X.prog X.w) X.A X.env X.xe) (hc : X.calm = true) (h0 : ρs 0 = ρ) (hi : RI X W p ρ c tg it xs (cs 0)) (hg : PG X tg g)
    (htg : ∀ i d, xs[i]? = some d → i ≤ n → TgOk X.K g vs d (ρs i) (ρt i))
    (hb : ∀ i d, xs[i]? = some d → i < n → RSs X W p (ρt i) (cs i) body (.nx (ρs (i + 1)) (cs (i + 1))))
    (hend : (n = xs.length ∧ o = .nx (ρs n) (cs n)) ∨ ∃ d dd nw cc, xs[n]? = some d ∧ o = .rt dd nw cc ∧ RSs X W p (ρt n) (cs n) body o)
    (hs : ∀ x, foldedSetIterable it X.env x = pure x := by intro _; rfl) : RS X W p ρ c (.For tg it body [] pos) o := by
  subst h0
  have hn : n ≤ xs.length := by
    rcases hend with ⟨h, _⟩ | ⟨d, _, _, _, h, _⟩
    · omega
    · have := (List.getElem?_eq_some_iff.mp h).1
      omega
  have PU : PSs X body (fun De σ H => ∃ (i : Nat) (so : SO), RSs X W p (ρt i) (cs i) body so ∧ tSt X.K W p (ρt i) (cs i) so De σ H) := ⟨fun pins s σ H De I ⟨i, so, h1, h2⟩ => h1.run pins s σ H De I h2⟩
  refine ps_imp (ps_for hp hc hi hg PU hs) fun De σ H h => ?_
  refine ⟨st_sr h, fun J H1 e1 p1 yl => ?_⟩
  refine ⟨fun i m σ2 H2 => m = xs.length - i ∧ i ≤ n ∧ Ext p H1 H2 ∧ SR X.K p H2 σ2 (ρs i) (cs i), ⟨xs.length, by simp, Nat.zero_le _, Ext.refl _ _, (st_sr h).mono e1 p1⟩, ?_⟩
  rintro i m σ2 H2 ⟨rfl, hi', e2, s2⟩
  obtain ⟨hstop, hgo⟩ := yl p (cs i) H2 rfl e2.hide s2.pl
  by_cases hlt : i < n
  · have hd : xs[i]? = some (xs[i]'(Nat.lt_of_lt_of_le hlt hn)) := List.getElem?_eq_getElem _
    obtain ⟨g1, g2⟩ := hgo i _ hd
    refine .inr ⟨g1, fun σ' H' => Ext p H1 H' ∧ SR X.K p H' σ' (ρs (i + 1)) (cs (i + 1)), fun σ' H' ⟨a1, a2⟩ => ⟨xs.length - (i + 1), by omega, rfl, hlt, a1, a2⟩, fun x H3 hy => ?_⟩
    obtain ⟨e3, p3, dx⟩ := g2 x H3 hy
    refine (htg i _ hd hi').run p (cs i) x _ H3 _ dx (s2.mono e3 p3) p3 fun σ3 s3 _ => ⟨i, _, hb i _ hd hlt, s3, fun σ4 H4 e4 s4 => ⟨(e2.trans e3).trans e4, s4⟩⟩
  · have e : i = n := by omega
    subst e
    rcases hend with ⟨h1, h2⟩ | ⟨d, dd, nw, cc, h1, h2, h3⟩
    · subst h2
      rw [← h1] at hstop
      exact .inl ⟨hstop, h.2 σ2 H2 (e1.trans e2) s2⟩
    · subst h2
      obtain ⟨g1, g2⟩ := hgo i _ h1
      refine .inr ⟨g1, fun _ _ => False, fun _ _ z => z.elim, fun x H3 hy => ?_⟩
      obtain ⟨e3, p3, dx⟩ := g2 x H3 hy
      refine (htg i _ h1 hi').run p (cs i) x _ H3 _ dx (s2.mono e3 p3) p3 fun σ3 s3 _ => ⟨i, _, h3, s3, fun v H4 e4 p4 dv hn' => ?_⟩
      have e04 : Ext p H H4 := e1.trans (e2.trans (e3.trans e4))
      exact h.2 v H4 e04 p4 dv fun q => (hn' q).back (e1.trans (e2.trans e3))
theorem rs_for_all (ρs ρt : Nat → Rho) (cs : Nat → PC) (hp : PassesOwn (model X.prog X.w) X.A X.env X.xe) (hc : X.calm = true) (h0 : ρs 0 = ρ) (hi : RI X W p ρ c tg it xs (cs 0)) (hg : PG X tg g)
    (htg : ∀ i d, xs[i]? = some d → TgOk X.K g vs d (ρs i) (ρt i))
    (hb : ∀ i d, xs[i]? = some d → RSs X W p (ρt i) (cs i) body (.nx (ρs (i + 1)) (cs (i + 1))))
    (hs : ∀ x, foldedSetIterable it X.env x = pure x := by intro _; rfl) : RS X W p ρ c (.For tg it body [] pos) (.nx (ρs xs.length) (cs xs.length)) :=
  rs_for xs.length ρs ρt cs _ hp hc h0 hi hg (fun i d h _ => htg i d h) (fun i d h _ => hb i d h) (.inl ⟨rfl, rfl⟩) hs
end
/-! ### try -/
inductive Picks (K : PySem.W.Frag) (c : Value) : List Cl → Cl → Prop
  | here {l : Cl} {r : List Cl} : PySem.W.exmOne K c l.c = some true → Picks K c (l :: r) l
  | there {l m : Cl} {r : List Cl} : PySem.W.exmOne K c l.c = some false → Picks K c r m → Picks K c (l :: r) m
theorem wCl_of {K : PySem.W.Frag} {Wo : WX} {De : Ends} {cls : Value} {d : Option Addr} {σ : L2.St} {H : Hp} {m : Cl} : ∀ {l : List Cl}, Picks K cls l m → (∀ a, H a = none → m.ts a cls d (Ends.behind De m.i) (inSlot m.i (.ref a) σ) H) → wCl K Wo De l cls d σ H
  | _, .here h, k => ⟨true, h, (fun _ => k), fun z => nomatch z⟩
  | _, .there h r, k => ⟨false, h, (fun z => nomatch z), fun _ => wCl_of r k⟩
def blank (n : Nat) : Rho := List.replicate n none
theorem SR.blank {K : PySem.W.Frag} {p : HD} {H : Hp} {σ : L2.St} {ρ : Rho} {c : PC} (s : SR K p H σ ρ c) {n : Nat} (hn : ρ.length = n) : SR K p H σ (LA.blank n) c :=
  ⟨by unfold LA.blank; rw [List.length_replicate, ← hn]; exact s.len, (fun i d h => by
    unfold LA.blank at h
    rw [List.getElem?_replicate] at h
    split at h
    · cases h
    · cases h), s.pl⟩
section
variable {X : Cx} {W : WX} {p : HD} {ρ : Rho} {c c1 c2 : PC} {body : List Stmt} {h0 : ExceptHandler} {hs : List ExceptHandler} {l : List Cl} {pos : Pos} {o : SO} {d : D} {nw : Bool} {C : Addr} {fs : List (Str × D)}
/-- what a suite with the exception in slot i is read by -/
def tsD (K : PySem.W.Frag) (W : WX) (p : HD) (n : Nat) (C : Addr) (fs : List (Str × D)) (c1 : PC) (i : Option Nat) (o : SO) : Addr → Value → Option Addr → TS := fun a cls dd De σ H =>
  cls = .ref C ∧ ∃ dx, dd = some dx ∧ tSt K W p (match i with | none => blank n | some i => (blank n).set i (some (.exn a dx fs))) c1 o De σ H
theorem rs_try (hst : X.stack = X.env :: X.outer) (hfr : X.env.frame = some X.env.locals) (hN : X.N.Nodup) (tk : Takes X W)
    (hb : ∀ (W' : WX) (pn : List (Addr × Obj)) (xe : Value → Shared → Prop), Takes (X.tr pn xe) W' → PassesOwn (model X.prog X.w) X.A X.env xe → RSs (X.tr pn xe) W' p ρ c body (.rt d nw c1))
    (hh : ClsOk X (h0 :: hs) l) : RS X W p ρ c (.Try body (h0 :: hs) [] [] pos) (.rt d nw c1) :=
  ps_imp (ps_tryCl (tb := fun W' => tSt X.K W' p ρ c (.rt d nw c1)) hst hfr hN tk hb hh) fun De σ H h => h
theorem rs_tryX {i : Nat} (hst : X.stack = X.env :: X.outer) (hfr : X.env.frame = some X.env.locals) (hN : X.N.Nodup) (tk : Takes X W)
    (hb : ∀ (W' : WX) (pn : List (Addr × Obj)) (xe : Value → Shared → Prop), Takes (X.tr pn xe) W' → PassesOwn (model X.prog X.w) X.A X.env xe → RSs (X.tr pn xe) W' p ρ c body (.ex C fs c1))
    (hh : ClsOk X (h0 :: hs) l) {cv : Value} (pk : Picks X.K (.ref C) l ⟨cv, some i, tsD X.K W p ρ.length C fs c1 (some i) (.rt d nw c2)⟩) : RS X W p ρ c (.Try body (h0 :: hs) [] [] pos) (.rt d nw c2) :=
  ps_imp (ps_tryCl (tb := fun W' => tSt X.K W' p ρ c (.ex C fs c1)) hst hfr hN tk hb hh) fun De σ H h => ⟨h.1, fun ρ' dx fv σ1 H1 e1 s1 hl hx hf => wCl_of pk fun a na =>
    ⟨rfl, dx, rfl, (s1.blank hl).set i (.exn hx hf), fun v H2 e2 p2 dv hn => h.2 v H2 (e1.trans e2) p2 dv fun q => (hn q).back e1⟩⟩
/-- the suites of the clauses: one that is never come to -/
theorem cl_no {x n : Str} {cv : Value} {i : Nat} {b0 : Stmt} {su : List Stmt} {np hp : Pos} (nm : Names X x cv) (hi : X.N[i]? = some n) (hl : X.env.kindOf n = some .local) (r : ClsOk X hs l) :
    ClsOk X (.ExceptHandler (some (.Name x np)) (some n) (b0 :: su) hp :: hs) (⟨cv, some i, fun _ _ _ => tNever⟩ :: l) := .named nm hi hl (fun _ _ _ _ _ _ _ => pss_never) r
theorem cl_no0 {x : Str} {cv : Value} {b0 : Stmt} {su : List Stmt} {np hp : Pos} (nm : Names X x cv) (r : ClsOk X hs l) :
    ClsOk X (.ExceptHandler (some (.Name x np)) none (b0 :: su) hp :: hs) (⟨cv, none, fun _ _ _ => tNever⟩ :: l) := .bare nm (fun _ _ _ _ _ _ _ => pss_never) r
theorem cl_yes {x n : Str} {cv : Value} {i m : Nat} {b0 : Stmt} {su : List Stmt} {np hp : Pos} (nm : Names X x cv) (hi : X.N[i]? = some n) (hl : X.env.kindOf n = some .local)
    (run : ∀ (a dx : Addr) (oe : Obj) (pn : List (Addr × Obj)), Zc (.ref C) (some dx) oe → (∃ vs, oe.data = .fields vs) → RSs (X.suite a ((a, oe) :: pn)) W p ((blank m).set i (some (.exn a dx fs))) c1 (b0 :: su) o) (r : ClsOk X hs l) :
    ClsOk X (.ExceptHandler (some (.Name x np)) (some n) (b0 :: su) hp :: hs) (⟨cv, some i, tsD X.K W p m C fs c1 (some i) o⟩ :: l) :=
  .named nm hi hl (fun a oe cls dd pn z f => ⟨fun pins s σ H De I ⟨h1, dx, h2, h3⟩ => by
    subst h1 h2
    exact (run a dx oe pn z f).run pins s σ H De I h3⟩) r
end
/-! ### a new list that is changed: the rest of a block with it out of sight -/
def scB (d : D) : Bool := (scD d).isSome
theorem scB_ref {K : PySem.W.Frag} {p : HD} {H : Hp} {a : Addr} {d : D} (h : DV K p H (.ref a) d) (e : scB d = true) : False := by
  cases h <;> cases e
inductive LowR (n : Nat) : Rho → Prop
  | nil : LowR n []
  | non {r : Rho} : LowR n r → LowR n (none :: r)
  | one {d : D} {r : Rho} : lowD n d = true → LowR n r → LowR n (some d :: r)
theorem LowR.get {n : Nat} : ∀ {r : Rho}, LowR n r → ∀ (i : Nat) (d : D), r[i]? = some (some d) → lowD n d = true
  | _, .nil, _, _, h => by simp at h
  | _, .non _, 0, _, h => by cases h
  | _, .one h _, 0, _, z => by
    cases Option.some.inj (Option.some.inj z)
    exact h
  | _, .non h, i + 1, d, z => LowR.get h i d z
  | _, .one _ h, i + 1, d, z => LowR.get h i d z
/-- an outcome within, and without -/
inductive Outs (n : Nat) : SO → SO → Prop
  | nx {ρ : Rho} {c c' : PC} : LowR n ρ → c.take n = c' → Outs n (.nx ρ c) (.nx ρ c')
  | rt {d : D} {nw : Bool} {c c' : PC} : lowD n d = true → c.take n = c' → Outs n (.rt d nw c) (.rt d nw c')
  | ex {C : Addr} {fs : List (Str × D)} {c c' : PC} : lowDf n fs = true → c.take n = c' → Outs n (.ex C fs c) (.ex C fs c')
section
variable {K : PySem.W.Frag} {p : HD} {H H1 H2 : Hp} {a : Addr} {c c1 : PC}
theorem mut_at {i : Nat} {b : Addr} (h : p.m[i]? = some b) : (p.mut a).m[i]? = some b := by
  show (p.m ++ [a])[i]? = some b
  rw [List.getElem?_append_left (List.getElem?_eq_some_iff.mp h).1]
  exact h
theorem at_mut {i : Nat} {b : Addr} (l : i < p.m.length) (h : (p.mut a).m[i]? = some b) : p.m[i]? = some b := by
  have h : (p.m ++ [a])[i]? = some b := h
  rw [List.getElem?_append_left l] at h
  exact h
theorem mut_hid {b : Addr} : (p.mut a).hid b ↔ p.hid b ∨ b = a := by
  show b ∈ p.m ++ [a] ∨ b ∈ p.z ↔ (b ∈ p.m ∨ b ∈ p.z) ∨ b = a
  rw [List.mem_append, List.mem_singleton]
  constructor
  · rintro ((h | h) | h)
    · exact .inl (.inl h)
    · exact .inr h
    · exact .inl (.inr h)
  · rintro ((h | h) | h)
    · exact .inl (.inl h)
    · exact .inr h
    · exact .inl (.inr h)
theorem sub_mut : Sub (hide (p.mut a) H) (hide p H) := fun b o h => by
  obtain ⟨h1, h2⟩ := hide_some h
  rw [hide_ne (fun z => h2 (mut_hid.mpr (.inl z)))]
  exact h1
theorem also_mut : Sub (hide (p.also a) H) (hide (p.mut a) H) := fun b o h => by
  obtain ⟨h1, h2⟩ := hide_some h
  rw [hide_ne (show ¬ (p.mut a).hid b from fun z => h2 ((mut_hid.mp z).elim (fun q => q.elim .inl fun q => .inr (List.mem_cons_of_mem _ q)) fun q => .inr (by rw [q]; exact List.mem_cons_self)))]
  exact h1
theorem sub_new (n : H a = none) (e : Ext p H H1) : Sub (hide p H) (hide (p.mut a) H1) := fun b o h => by
  obtain ⟨h1, h2⟩ := hide_some h
  rw [hide_ne (fun z => (mut_hid.mp z).elim h2 fun q => by rw [q, n] at h1; cases h1)]
  exact e b o (fun z => h2 (.inl z)) h1
/-- in -/
theorem PoolAt.in' {x : Cell} (h : PoolAt K (p.also a) H c) (nm : a ∉ p.m) (hx : CellAt K (p.mut a) H a x) : PoolAt K (p.mut a) H (c ++ [x]) := by
  have hl : p.m.length = c.length := h.1.2.1
  refine ⟨⟨?_, ?_, fun i b y hi hy => ?_⟩, fun b m => h.2 b (List.mem_cons_of_mem _ m)⟩
  · show (p.m ++ [a]).Nodup
    rw [List.nodup_append]
    refine ⟨h.1.1, by simp, fun x hx y hy => ?_⟩
    rw [List.mem_singleton.mp hy]
    exact fun z => nm (by rw [← z]; exact hx)
  · show (p.m ++ [a]).length = (c ++ [x]).length
    rw [List.length_append, List.length_append, hl]
    rfl
  · by_cases l : i < p.m.length
    · rw [List.getElem?_append_left (by rw [← hl]; exact l)] at hy
      exact (h.1.2.2 i b y (at_mut l hi) hy).sub also_mut rfl
    · have hi' : (p.m ++ [a])[i]? = some b := hi
      rw [List.getElem?_append_right (by omega)] at hi' hy
      have li := (List.getElem?_eq_some_iff.mp hi').1
      have e : i - p.m.length = 0 := by
        have : i - p.m.length < 1 := li
        omega
      rw [e] at hi'
      rw [show i - c.length = 0 by omega] at hy
      cases hi'
      cases hy
      exact hx
/-- out -/
theorem PoolAt.out (h : PoolAt K (p.mut a) H c) : PoolAt K p H (c.take p.m.length) := by
  have hl : (p.m ++ [a]).length = c.length := h.1.2.1
  rw [List.length_append] at hl
  have hl : p.m.length + 1 = c.length := hl
  refine ⟨⟨?_, ?_, fun i b y hi hy => ?_⟩, fun b m => h.2 b m⟩
  · have q : (p.m ++ [a]).Nodup := h.1.1
    exact (List.nodup_append.mp q).1
  · rw [List.length_take]
    omega
  · have l := (List.getElem?_eq_some_iff.mp hi).1
    rw [List.getElem?_take_of_lt l] at hy
    exact (h.1.2.2 i b y (mut_at hi) hy).sub sub_mut rfl
theorem also_out {b : Addr} (h : PoolAt K ((p.mut a).also b) H c) : PoolAt K (p.also b) H (c.take p.m.length) := PoolAt.out (p := p.also b) (a := a) h
theorem SR.out {σ : L2.St} {ρ : Rho} {n : Nat} (s : SR K (p.mut a) H σ ρ c) (hn : p.m.length = n) (l : LowR n ρ) : SR K p H σ ρ (c.take n) :=
  ⟨s.len, fun i d h => by
    obtain ⟨v, h1, h2⟩ := s.at' i d h
    exact ⟨v, h1, h2.low sub_mut (fun i b li hi => at_mut (by rw [hn]; exact li) hi) (l.get i d h)⟩, by rw [← hn]; exact s.pl.out⟩
theorem sub_also_mut {b : Addr} : Sub (hide ((p.mut a).also b) H) (hide (p.also b) H) := fun x o h => by
  obtain ⟨h1, h2⟩ := hide_some h
  rw [hide_ne (show ¬ (p.also b).hid x from fun z => h2 (z.elim (fun q => .inl (List.mem_append.mpr (.inl q))) .inr))]
  exact h1
theorem New.out {v : V} {d : D} {n : Nat} (hn : p.m.length = n) (l : lowD n d = true) (h : New K (p.mut a) H H1 c v d) : New K p H H1 (c.take n) v d := fun b e => by
  obtain ⟨⟨h1, h2⟩, h3, h4⟩ := h b e
  subst hn
  refine ⟨⟨h1, fun z => h2 (List.mem_append.mpr (.inl z))⟩, also_out h3, fun g ds e' => ?_⟩
  obtain ⟨vs, q1, q2⟩ := h4 g ds e'
  subst e'
  unfold lowD at l
  exact ⟨vs, q1, q2.low (n := p.m.length) sub_also_mut (fun i b li hi => at_mut li hi) l⟩
end
/-! more than one -/
def HD.muts (p : HD) : List Addr → HD
  | [] => p
  | a :: r => (HD.muts p r).mut a
section
variable {K : PySem.W.Frag} {p : HD} {H H1 H2 : Hp} {c c1 : PC}
theorem muts_len : ∀ (as : List Addr), (p.muts as).m.length = p.m.length + as.length
  | [] => rfl
  | a :: r => by
    show ((p.muts r).m ++ [a]).length = _
    rw [List.length_append, muts_len r]
    rfl
theorem muts_mem {b : Addr} : ∀ {as : List Addr}, b ∈ (p.muts as).m → b ∈ p.m ∨ b ∈ as
  | [], h => .inl h
  | a :: r, h => by
    rcases List.mem_append.mp (show b ∈ (p.muts r).m ++ [a] from h) with h | h
    · exact (muts_mem h).elim .inl fun z => .inr (List.mem_cons_of_mem _ z)
    · exact .inr (by rw [List.mem_singleton.mp h]; exact List.mem_cons_self)
theorem sub_muts : ∀ {as : List Addr}, Sub (hide (p.muts as) H) (hide p H)
  | [] => sub_refl _
  | a :: r => Sub.trans sub_mut (sub_muts (as := r))
theorem at_muts {i : Nat} {b : Addr} (l : i < p.m.length) : ∀ {as : List Addr}, (p.muts as).m[i]? = some b → p.m[i]? = some b
  | [], h => h
  | a :: r, h => at_muts l (as := r) (at_mut (by rw [muts_len]; omega) h)
theorem PoolAt.outs : ∀ {as : List Addr} {c : PC}, PoolAt K (p.muts as) H c → PoolAt K p H (c.take p.m.length)
  | [], c, h => by
    have e : c.length ≤ p.m.length := Nat.le_of_eq h.1.2.1.symm
    rw [List.take_of_length_le e]
    exact h
  | a :: r, c, h => by
    have q := PoolAt.outs (as := r) (PoolAt.out (p := p.muts r) h)
    rw [List.take_take, Nat.min_eq_left (by rw [muts_len]; omega)] at q
    exact q
theorem sub_alsos {b : Addr} : ∀ {as : List Addr}, Sub (hide ((p.muts as).also b) H) (hide (p.also b) H)
  | [] => sub_refl _
  | a :: r => Sub.trans (sub_also_mut (p := p.muts r)) (sub_alsos (as := r))
theorem also_outs {b : Addr} : ∀ {as : List Addr} {c : PC}, PoolAt K ((p.muts as).also b) H c → PoolAt K (p.also b) H (c.take p.m.length)
  | [], c, h => by
    have e : c.length ≤ p.m.length := Nat.le_of_eq h.1.2.1.symm
    rw [List.take_of_length_le e]
    exact h
  | a :: r, c, h => by
    have q := also_outs (as := r) (also_out (p := p.muts r) h)
    rw [List.take_take, Nat.min_eq_left (by rw [muts_len]; omega)] at q
    exact q
theorem New.outs {v : V} {d : D} {n : Nat} {as : List Addr} (hn : p.m.length = n) (l : lowD n d = true) (h : New K (p.muts as) H H1 c v d) : New K p H H1 (c.take n) v d := fun b e => by
  obtain ⟨⟨h1, h2⟩, h3, h4⟩ := h b e
  subst hn
  refine ⟨⟨h1, fun z => h2 ?_⟩, also_outs h3, fun g ds e' => ?_⟩
  · have key : ∀ (as : List Addr), b ∈ (p.muts as).m := fun as => by
      induction as with
      | nil => exact z
      | cons a r ih => exact List.mem_append.mpr (.inl ih)
    exact key as
  · obtain ⟨vs, q1, q2⟩ := h4 g ds e'
    subst e'
    unfold lowD at l
    exact ⟨vs, q1, q2.low (n := p.m.length) sub_alsos (fun i b li hi => at_muts (p := p) li hi) l⟩
end
section
variable {X : Cx} {W : WX} {p : HD} {as : List Addr} {ρ ρ1 ρ' : Rho} {c c1 c2 c3 : PC} {e : Expr} {st : Stmt} {sts rest : List Stmt} {pos pos' : Pos} {g : G} {ds ds2 : List D} {so so' : SO} {d : D}
/-- within, with what is wanted without -/
def tSo (K : PySem.W.Frag) (W : WX) (p : HD) (as : List Addr) (ρ : Rho) (c : PC) (so : SO) : TS := fun De σ H => ∃ (H0 : Hp) (σ0 : L2.St) (ρ0 : Rho) (c0 : PC), (∀ a ∈ as, H0 a = none ∧ a ∉ p.m) ∧ Ext p H0 H ∧ tSt K W p ρ0 c0 so De σ0 H0 ∧ ρ.length = ρ0.length ∧ SR K (p.muts as) H σ ρ c
abbrev RSo (X : Cx) (W : WX) (p : HD) (as : List Addr) (ρ : Rho) (c : PC) (sts : List Stmt) (so : SO) : Prop := PSs X sts (tSo X.K W p as ρ c so)
theorem ext_muts {H0 H H1 : Hp} (na : ∀ a ∈ as, H0 a = none ∧ a ∉ p.m) (e1 : Ext p H0 H) (e2 : Ext (p.muts as) H H1) : Ext p H0 H1 := fun b o n q => by
  refine e2 b o (fun z => ?_) (e1 b o n q)
  rcases muts_mem z with z | z
  · exact n z
  · rw [(na b z).1] at q
    cases q
theorem tSo_st {K : PySem.W.Frag} {De : Ends} {σ : L2.St} {H : Hp} (ho : Outs p.m.length so' so) (h : tSo K W p as ρ c so De σ H) : tSt K W (p.muts as) ρ c so' De σ H := by
  obtain ⟨H0, σ0, ρ0, c0, na, e1, h, hl, s⟩ := h
  cases ho with
  | nx hl' hc =>
    subst hc
    exact ⟨s, fun σ' H2 e2 s2 => h.2 σ' H2 (ext_muts na e1 e2) ⟨s2.len, fun i d q => by
      obtain ⟨v, h1, h2⟩ := s2.at' i d q
      exact ⟨v, h1, h2.low sub_muts (fun i b li hi => at_muts li hi) (hl'.get i d q)⟩, s2.pl.outs⟩⟩
  | rt hl' hc =>
    subst hc
    exact ⟨s, fun v H2 e2 p2 dv hw => h.2 v H2 (ext_muts na e1 e2) p2.outs (dv.low sub_muts (fun i b li hi => at_muts li hi) hl') fun q => New.back e1 (New.outs rfl hl' (hw q))⟩
  | ex hl' hc =>
    subst hc
    refine ⟨s, fun ρ2 dx fv σ2 H2 e2 s2 l2 hx hf => ?_⟩
    refine h.2 (List.replicate ρ2.length none) dx fv σ2 H2 (ext_muts na e1 e2) ⟨by rw [List.length_replicate]; exact s2.len, fun i d q => ?_, s2.pl.outs⟩ (by rw [List.length_replicate, l2, hl]) (sub_muts dx _ hx) (hf.low (n := p.m.length) sub_muts (fun i b li hi => at_muts li hi) hl')
    rw [List.getElem?_replicate] at q
    split at q <;> cases q
theorem rso_of (h : RSo X W p [] ρ c sts so) : RSs X W p ρ c sts so := pss_imp h fun De σ H q => ⟨H, σ, ρ, c, (fun _ m => nomatch m), Ext.refl _ _, q, rfl, st_sr q⟩
theorem rso_in (h : RSs X W p ρ c sts so) : RSo X W p [] ρ c sts so := pss_imp h fun De σ H ⟨H0, σ0, ρ0, c0, na, e1, q, hl, s⟩ => by
  cases so with
  | nx ρ' c' => exact ⟨s, fun σ2 H2 e2 s2 => q.2 σ2 H2 (e1.trans e2) s2⟩
  | rt d nw c' => exact ⟨s, fun v H2 e2 p2 dv hn => q.2 v H2 (e1.trans e2) p2 dv fun z => (hn z).back e1⟩
  | ex C fs c' => exact ⟨s, fun ρ' dx fv σ2 H2 e2 s2 hl' hx hf => q.2 ρ' dx fv σ2 H2 (e1.trans e2) s2 (hl'.trans hl) hx hf⟩
/-- the rest within, to its end; c0 of them stand without -/
theorem rso_end (n : Nat) (h : RSs X W (p.muts as) ρ c sts so') (ho : Outs n so' so) (hn : n + as.length = c.length) : RSo X W p as ρ c sts so := pss_imp h fun De σ H q => by
  have e : p.m.length = n := by
    obtain ⟨H0, σ0, ρ0, c0, na, e1, h, hl, s⟩ := q
    have := s.pl.1.2.1
    rw [muts_len] at this
    omega
  exact tSo_st (by rw [e]; exact ho) q
theorem rso_cons (h1 : RS X W (p.muts as) ρ c st (.nx ρ1 c1)) (h2 : RSo X W p as ρ1 c1 rest so) (hl : ρ1.length = ρ.length := by rfl) : RSo X W p as ρ c (st :: rest) so := by
  refine pss_imp (pss_cons h1 h2) fun De σ H ⟨H0, σ0, ρ0, c0, na, e1, h, hl', s⟩ => ⟨s, fun σ1 H1 e2 s1 => ⟨H0, σ0, ρ0, c0, na, ext_muts na e1 e2, h, hl.trans hl', s1⟩⟩
/-- the frame once a new list has been put out of sight -/
theorem SR.in' {a : Addr} {σ : L2.St} {H H1 : Hp} {K : PySem.W.Frag} {i : Nat} (s : SR K p H σ ρ c) (na : H a = none) (nm : a ∉ p.m) (e1 : Ext p H H1) (pa : PoolAt K (p.also a) H1 c1) {vs : List V} (hv : H1 a = some (.lst vs)) (dvs : DVs K (p.also a) H1 vs ds) (hds : lowDs 0 ds = true) :
    SR K (p.mut a) H1 (σ.set i (some (.ref a))) (ρ.set i (some (.mut c1.length))) (c1 ++ [.lst ds]) := by
  have hl : p.m.length = c1.length := pa.1.2.1
  have p1 : PoolAt K (p.mut a) H1 (c1 ++ [.lst ds]) := pa.in' nm ⟨vs, hv, dvs.low (n := 0) (fun b o y => by rw [hide_flat]; exact also_mut b o y) (fun i b li _ => absurd li (Nat.not_lt_zero _)) hds⟩
  refine SR.set ⟨s.len, fun j d q => ?_, p1⟩ i (.mut ?_)
  · obtain ⟨x, q1, q2⟩ := s.at' j d q
    exact ⟨x, q1, q2.sub (sub_new na e1) fun i b hi => mut_at hi⟩
  · show (p.m ++ [a])[c1.length]? = some a
    rw [← hl, List.getElem?_append_right (Nat.le_refl _)]
    simp
/-- a name becomes a new object -/
def tN (K : PySem.W.Frag) (p : HD) (ρ : Rho) (c : PC) (i : Nat) (d : D) (c1 : PC) : TS := fun De σ H => SR K p H σ ρ c ∧ ∀ v H', Ext p H H' → PoolAt K p H' c1 → DV K p H' v d → New K p H H' c1 v d → De.nx (σ.set i (some v)) H'
abbrev RN (X : Cx) (p : HD) (ρ : Rho) (c : PC) (st : Stmt) (i : Nat) (d : D) (c1 : PC) : Prop := PS X st (tN X.K p ρ c i d c1)
theorem rn_set (i : Nat) {x : Str} (hN : X.N.Nodup) (h : RE X W p ρ c e (.val d true c1))
    (hi : X.N[i]? = some x := by rfl) (hx : Loc X.env.scope x := by first | exact Or.inl rfl | exact Or.inr rfl) (hs : swapsWith e (some (.Name x pos')) pos.line X.env = pure false := by rfl)
    (hf : X.fn x = true ∨ X.env.scope.names.lookup x = some .local := by first | exact .inl rfl | exact .inr rfl) : RN X p ρ c (.Assign [.Name x pos'] e pos) i d c1 :=
  ps_imp (ps_set hN hi hx h hs hf) fun De σ H ⟨s, k⟩ => ⟨s, fun v H1 e1 p1 dv hn => k v H1 e1 p1 dv (hn rfl)⟩
/-- x = a new list, out of sight from then on -/
theorem rso_new (i : Nat) (h : RN X (p.muts as) ρ c st i (.lst g ds) c1) (hds : lowDs 0 ds = true)
    (hr : ∀ a, RSo X W p (a :: as) (ρ.set i (some (.mut c1.length))) (c1 ++ [.lst ds]) rest so) : RSo X W p as ρ c (st :: rest) so := by
  have PU : PSs X rest (fun De σ H => ∃ a, tSo X.K W p (a :: as) (ρ.set i (some (.mut c1.length))) (c1 ++ [.lst ds]) so De σ H) := ⟨fun pins s σ H De I ⟨a, h2⟩ => (hr a).run pins s σ H De I h2⟩
  refine pss_imp (pss_cons h PU) fun De σ H ⟨H0, σ0, ρ0, c0, na, e1, q, hl, s⟩ => ⟨s, fun v H1 e2 p1 dv hn => ?_⟩
  cases dv with
  | @lst a vs _ _ hb hq r =>
    obtain ⟨⟨nA, nm⟩, pa, hc⟩ := hn a rfl
    obtain ⟨vs', hv, dvs⟩ := hc _ _ rfl
    have n0 : H0 a = none ∧ a ∉ p.m := by
      have nmp : a ∉ p.m := fun z => nm (by
        have key : ∀ (as : List Addr), a ∈ (p.muts as).m := fun as => by
          induction as with
          | nil => exact z
          | cons b r ih => exact List.mem_append.mpr (.inl ih)
        exact key as)
      refine ⟨?_, nmp⟩
      cases q0 : H0 a with
      | none => rfl
      | some o =>
        rw [e1 a o nmp q0] at nA
        cases nA
    exact ⟨a, H0, σ0, ρ0, c0, fun b m => (List.mem_cons.mp m).elim (fun z => by rw [z]; exact n0) (na b), ext_muts na e1 e2, q, by rw [List.length_set]; exact hl, s.in' nA nm e2 pa hv dvs hds⟩
/-- it comes into sight again -/
theorem rso_frz (i : Nat) {a : Addr} (h : RSo X W p as (ρ.set i (some (.lst ⟨false, true⟩ ds))) c rest so) (hi : ρ[i]? = some (some (.mut c.length))) (hlow : LowR c.length (ρ.set i none)) : RSo X W p (a :: as) ρ (c ++ [.lst ds]) rest so := by
  refine pss_imp h fun De σ H ⟨H0, σ0, ρ0, c0, na, e1, q, hl, s⟩ => ⟨H0, σ0, ρ0, c0, fun b m => na b (List.mem_cons_of_mem _ m), e1, q, by rw [List.length_set]; exact hl, ?_⟩
  have hn : (p.muts as).m.length = c.length := by
    have := s.pl.1.2.1
    rw [List.length_append] at this
    have e : ((p.muts as).m ++ [a]).length = c.length + 1 := this
    rw [List.length_append] at e
    exact Nat.succ.inj e
  have hnm : (p.muts as).m.length = c.length := hn
  have po : PoolAt X.K (p.muts as) H c := by
    have z := PoolAt.out (p := p.muts as) s.pl
    rw [hn, List.take_left'] at z
    · exact z
    · rfl
  have ha : ((p.muts as).m ++ [a])[c.length]? = some a := by
    rw [← hn, List.getElem?_append_right (Nat.le_refl _)]
    simp
  have nda : a ∉ (p.muts as).m := fun z => by
    have nd : ((p.muts as).m ++ [a]).Nodup := s.pl.1.1
    exact (List.nodup_append.mp nd).2.2 a z a (List.mem_singleton.mpr rfl) rfl
  obtain ⟨vs, hv, dvs⟩ : CellAt X.K ((p.muts as).mut a) H a (.lst ds) := s.pl.1.2.2 c.length a (.lst ds) ha (by simp)
  have vis : hide (p.muts as) H a = some (.lst vs) := by
    rw [hide_ne]
    · exact hv
    · rintro (z | z)
      · exact nda z
      · have zz : ∀ (as : List Addr), (p.muts as).z = p.z := fun as => by
          induction as with
          | nil => rfl
          | cons b r ih => exact ih
        rw [zz as] at z
        obtain ⟨o, ho⟩ := (st_sr q).pl.2 a z
        rw [(na a List.mem_cons_self).1] at ho
        cases ho
  refine ⟨?_, fun j d q => ?_, po⟩
  · rw [List.length_set]
    exact s.len
  · by_cases e : i = j
    · subst e
      have lt : i < ρ.length := (List.getElem?_eq_some_iff.mp hi).1
      rw [List.getElem?_set_self lt] at q
      cases q
      obtain ⟨v, h1, h2⟩ := s.at' i _ hi
      refine ⟨v, h1, ?_⟩
      generalize hm : D.mut c.length = dm at h2
      cases h2 <;> cases hm
      rename_i b hb
      have eb : b = a := by
        have hb' : ((p.muts as).m ++ [a])[c.length]? = some b := hb
        rw [ha] at hb'
        exact (Option.some.inj hb').symm
      subst eb
      exact .lst ⟨(fun z => nomatch z), fun _ => vis⟩ (.inl (.inl vis)) (dvs.sub (fun b o y => by rw [hide_flat] at y; exact sub_mut b o y) fun i b z => by simp [HD.flat] at z)
    · have q' := q
      rw [List.getElem?_set_ne e] at q
      obtain ⟨v, h1, h2⟩ := s.at' j d q
      exact ⟨v, h1, h2.low (n := c.length) sub_mut (fun i b li hi => at_mut (by rw [hn]; exact li) hi) (hlow.get j d (by rw [List.getElem?_set_ne e]; exact q))⟩
/-- it is forgotten -/
theorem rso_drop {a : Addr} {x : Cell} (h : RSo X W p as ρ' c rest so) (hw : ∀ (i : Nat) (d : D), ρ'[i]? = some (some d) → ρ[i]? = some (some d)) (hl' : ρ'.length = ρ.length) (hlow : LowR c.length ρ') : RSo X W p (a :: as) ρ (c ++ [x]) rest so := by
  refine pss_imp h fun De σ H ⟨H0, σ0, ρ0, c0, na, e1, q, hl, s⟩ => ⟨H0, σ0, ρ0, c0, fun b m => na b (List.mem_cons_of_mem _ m), e1, q, by rw [hl']; exact hl, ?_⟩
  have hn : (p.muts as).m.length = c.length := by
    have := s.pl.1.2.1
    rw [List.length_append] at this
    have e : ((p.muts as).m ++ [a]).length = c.length + 1 := this
    rw [List.length_append] at e
    exact Nat.succ.inj e
  have po : PoolAt X.K (p.muts as) H c := by
    have z := PoolAt.out (p := p.muts as) s.pl
    rw [hn, List.take_left'] at z
    · exact z
    · rfl
  refine ⟨by rw [hl']; exact s.len, fun j d q => ?_, po⟩
  obtain ⟨v, h1, h2⟩ := s.at' j d (hw j d q)
  exact ⟨v, h1, h2.low (n := c.length) sub_mut (fun i b li hi => at_mut (by rw [hn]; exact li) hi) (hlow.get j d q)⟩
end
end LA

namespace LA
open PySem PySem.Spec PyProof.Rows L2
section
variable {X : Cx} {W : WX} {p : HD} {ρ : Rho} {c c1 c2 : PC} {e ei : Expr} {pos xp jp sp apos cpos : Pos} {d : D} {nw nw2 : Bool} {K : PySem.W.Frag} {x : Str} {k : Nat} {ds : List D}
/-! ### changing lists read and written -/
theorem DV.unflat {H : Hp} {v : V} {d : D} (h : DV K p.flat H v d) : DV K p H v d := h.sub (fun b o y => by rw [hide_flat] at y; exact y) fun i b z => by simp [HD.flat] at z
theorem DVs.unflat {H : Hp} {v : List V} {d : List D} (h : DVs K p.flat H v d) : DVs K p H v d := h.sub (fun b o y => by rw [hide_flat] at y; exact y) fun i b z => by simp [HD.flat] at z
theorem DV.flat {H : Hp} {v : V} {d : D} (h : DV K p H v d) (l : lowD 0 d = true) : DV K p.flat H v d := h.low (fun b o y => by rw [hide_flat]; exact y) (fun i b li _ => absurd li (Nat.not_lt_zero _)) l
theorem DVs.flat {H : Hp} {v : List V} {d : List D} (h : DVs K p H v d) (l : lowDs 0 d = true) : DVs K p.flat H v d := h.low (fun b o y => by rw [hide_flat]; exact y) (fun i b li _ => absurd li (Nat.not_lt_zero _)) l
theorem mut_lst {H : Hp} {v : V} (h : DV K p H v (.mut k)) (hp : PoolAt K p H c) (hc : c[k]? = some (.lst ds)) : ∃ a vs, v = .ref a ∧ p.m[k]? = some a ∧ H a = some (.lst vs) ∧ DVs K p.flat H vs ds := by
  cases h with
  | «mut» ha =>
    obtain ⟨vs, h1, h2⟩ := hp.1.2.2 k _ _ ha hc
    exact ⟨_, vs, rfl, ha, h1, h2⟩
theorem DVs.set {q : HD} {H : Hp} {v : V} {d : D} (h : DV K q H v d) : ∀ {us : List V} {ds : List D} {j : Nat}, DVs K q H us ds → DVs K q H (us.set j v) (ds.set j d)
  | _, _, _, .nil => .nil
  | _, _, 0, .cons _ r => .cons h r
  | _, _, j + 1, .cons h' r => .cons h' (DVs.set h (j := j) r)
theorem ov_ixM {i : Int} {j : Nat} (hc : c[k]? = some (.lst ds)) (e : i = (j : Int)) (h : ds[j]? = some d) : OV K p (rIx K) (.mut k) (.int i) d false c := fun v u H Q dv du hp kk => by
  obtain ⟨a, vs, rfl, _, hv, dvs⟩ := mut_lst dv hp hc
  cases du
  obtain ⟨w, h1, h2⟩ := dvs_atI dvs e h
  exact .inl ⟨_, vs, _, w, rfl, rfl, .inl (.inl hv), h1, kk w H (Ext.refl p H) hp h2.unflat fun q => nomatch q⟩
/-- x[j], written -/
theorem re_mix (i k j : Nat) {n : Nat} (hc : c[k]? = some (.lst ds)) (h : ds[j]? = some d) (hρ : ρ[i]? = some (some (.mut k)) := by rfl) (hN : X.N[i]? = some x := by rfl) (hv : Vis X.env.scope x := by first | exact Or.inl rfl | exact Or.inr (Or.inl rfl) | exact Or.inr (Or.inr rfl))
    (hd : (x == ("__debug__" : Str)) = false := by decide) (hcd : (x == ("__classdict__" : Str)) = false := by decide) : RE X W p ρ c (.Subscript (.Name x xp) (.Constant (.int (j : Nat)) n jp) sp) (.val d false c) :=
  re_ix ix_seq (re_var i hN hρ hv hd hcd) re_int (ov_ixM hc rfl h)
theorem ext_upd {H : Hp} {a : Addr} {o : HO} (m : a ∈ p.m) : Ext p H (upd H a o) := fun b u n y => by
  rw [upd_ne (fun z => n (by rw [z]; exact m))]
  exact y
theorem upd_msub {H : Hp} {a : Addr} {o : HO} (m : a ∈ p.m) : Sub (hide p H) (hide p (upd H a o)) := (ext_upd m).hide
/-- x[idx] = e -/
theorem rs_mst (i k j : Nat) (he : RE X W p ρ c e (.val d nw c1)) (hi : RE X W p ρ c1 ei (.val (.int (j : Nat)) nw2 c2)) (hc : c2[k]? = some (.lst ds)) (hj : j < ds.length) (hl : lowD 0 d = true) (hρ : ρ[i]? = some (some (.mut k)) := by rfl) (hN : X.N[i]? = some x := by rfl) (hv : Vis X.env.scope x := by first | exact Or.inl rfl | exact Or.inr (Or.inl rfl) | exact Or.inr (Or.inr rfl))
    (hd : (x == ("__debug__" : Str)) = false := by decide) (hcd : (x == ("__classdict__" : Str)) = false := by decide)
    (hs : swapsWithSole [.Subscript (.Name x xp) ei sp] e pos.line X.env = pure false := by rfl) (hw : swappedStores [.Subscript (.Name x xp) ei sp] e X.env = pure none := by rfl)
    (h1 : (assignEach [.Subscript (.Name x xp) ei sp] X.env).map (·.2) = [assign (.Subscript (.Name x xp) ei sp) X.env] := by rfl)
    (ha : ∀ v, assign (.Subscript (.Name x xp) ei sp) X.env v = (do
      let ov ← holding [v] (eval (.Name x xp) X.env)
      let iv ← holding [v, ov] (eval ei X.env)
      standAt sp
      holding [v, ov, iv] (setItem ov iv v)
      release [v, ov, iv] []) := by intro _; rfl) :
    RS X W p ρ c (.Assign [.Subscript (.Name x xp) ei sp] e pos) (.nx ρ (c2.set k (.lst (ds.set j d)))) :=
  ps_imp (ps_asg he (pg_sub (pe_var hN hv hd hcd) hi set_list ha) hs hw h1) fun De σ H h => ⟨h.1, fun v H1 e1 p1 dv _ => by
    have s1 := h.1.mono e1 p1
    obtain ⟨o, q1, q2⟩ := s1.at' i _ hρ
    refine ⟨o, q1, s1, fun w H2 e2 p2 dw _ => ?_⟩
    cases dw
    obtain ⟨a, vs, rfl, ha, hv', dvs⟩ := mut_lst (q2.mono e2) p2 hc
    have m : a ∈ p.m := List.mem_of_getElem? ha
    refine ⟨a, vs, (j : Nat), j, rfl, rfl, hv', ?_, ?_⟩
    · unfold ixN
      have : j < vs.length := by rw [dvs.length]; exact hj
      simp [this]
    · refine h.2 σ _ ((e1.trans e2).trans (ext_upd m)) ((s1.mono e2 p2).mono (ext_upd m) (p2.put ha ⟨_, upd_same, ?_⟩))
      have sb : Sub (hide p.flat H2) (hide p.flat (upd H2 a (.lst (vs.set j v)))) := by
        rw [hide_flat, hide_flat]
        exact upd_msub m
      exact DVs.set (((dv.mono e2).flat hl).sub sb fun _ _ z => z) (dvs.sub sb fun _ _ z => z)⟩
theorem re_old (h : RE X W p ρ c e (.val d nw c1)) : RE X W p ρ c e (.val d false c1) := pe_imp h fun σ H Q ⟨s, k⟩ => ⟨s, fun v H1 e1 p1 dv _ => k v H1 e1 p1 dv fun z => nomatch z⟩
/-! ### len of a list -/
theorem cv_lenL {g : G} {ds : List D} : CV K p (fun xs H Q => ∃ x n, xs = [x] ∧ LenV K x H n ∧ Q (.int n) H) [.lst g ds] (.int (ds.length : Nat)) true c := fun vs H Q dvs hp k => by
  cases dvs with
  | cons h r =>
    cases r
    cases h with
    | lst _ hq ha =>
      refine ⟨_, ds.length, rfl, .inl ⟨_, un_sqL hq, ha.length.symm⟩, k _ H (Ext.refl p H) hp (.int _) fun _ => New.sc (by intro a h; cases h)⟩
theorem cv_lenM (hc : c[k]? = some (.lst ds)) : CV K p (fun xs H Q => ∃ x n, xs = [x] ∧ LenV K x H n ∧ Q (.int n) H) [.mut k] (.int (ds.length : Nat)) true c := fun vs H Q dvs hp kk => by
  cases dvs with
  | cons h r =>
    cases r
    obtain ⟨a, us, rfl, _, hv, du⟩ := mut_lst h hp hc
    exact ⟨_, ds.length, rfl, .inl ⟨_, .inl (.inl hv), du.length.symm⟩, kk _ H (Ext.refl p H) hp (.int _) fun _ => New.sc (by intro a h; cases h)⟩
/-- x.append(e) -/
theorem rs_app (i k : Nat) (he : RE X W p ρ c e (.val d nw c1)) (hc0 : ∃ ds0, c[k]? = some (.lst ds0)) (hc : c1[k]? = some (.lst ds)) (hz : ds.length < 100000) (hl : lowD 0 d = true) (hρ : ρ[i]? = some (some (.mut k)) := by rfl) (hN : X.N[i]? = some x := by rfl) (hv : Vis X.env.scope x := by first | exact Or.inl rfl | exact Or.inr (Or.inl rfl) | exact Or.inr (Or.inr rfl))
    (hd : (x == ("__debug__" : Str)) = false := by decide) (hcd : (x == ("__classdict__" : Str)) = false := by decide) (hline : (apos.endLine == cpos.line) = true := by rfl) (hsw : swapsWith (.Call (.Attribute (.Name x xp) "append" apos) [e] [] cpos) none pos.line X.env = pure false := by rfl)
    (hbase : attributeBase (.Name x xp) "append" X.env (eval (.Name x xp) X.env) = eval (.Name x xp) X.env := by rfl) (hst : starEach [e] X.env = (false, eval e X.env) :: starEach [] X.env := by rfl)
    (hfew : ((backTo cpos (starEach [e] X.env)).all (fun x => !x.1) && (backToKw cpos (keywordEach [] X.env)).all (fun x => x.1.isSome)
      && decide (([e] : List Expr).length + ([] : List Keyword).length + (if ([] : List Keyword).isEmpty then 0 else 1) < 30)) = true := by rfl) :
    RS X W p ρ c (.Expr (.Call (.Attribute (.Name x xp) "append" apos) [e] [] cpos) pos) (.nx ρ (c1.set k (.lst (ds ++ [d])))) := by
  have PB := pe_bm (cpos := cpos) (apos := apos) PySem.F.plainAttrs_list PySem.F.slot_list_append PySem.F.type_list_append mt_append (pe_var (pos := xp) hN hv hd hcd) (pa_cons he (pa_nil (X := X)) hst) hbase hfew hline hst
  refine ps_imp (ps_expr PB hsw) fun De σ H h => ?_
  obtain ⟨o, q1, q2⟩ := h.1.at' i _ hρ
  obtain ⟨ds0, hc0⟩ := hc0
  obtain ⟨a, vs0, rfl, ha, hv0, _⟩ := mut_lst q2 h.1.pl hc0
  have m : a ∈ p.m := List.mem_of_getElem? ha
  refine ⟨_, q1, .inl ⟨rfl, _, .inl (.inl hv0)⟩, h.1, fun v H1 e1 p1 dv _ => ?_⟩
  obtain ⟨b, vs, eb, hb, hv1, dvs⟩ := mut_lst (q2.mono e1) p1 hc
  cases eb
  refine ⟨a, vs, v, rfl, rfl, hv1, by rw [dvs.length]; exact sz_lt hz, ?_⟩
  have sb : Sub (hide p.flat H1) (hide p.flat (upd H1 a (.lst (vs ++ [v])))) := by
    rw [hide_flat, hide_flat]
    exact upd_msub m
  exact h.2 σ _ (e1.trans (ext_upd m)) ((h.1.mono e1 p1).mono (ext_upd m) (p1.put ha ⟨_, upd_same, DVs.app (dvs.sub sb fun _ _ z => z) (.cons ((dv.flat hl).sub sb fun _ _ z => z) .nil)⟩))
theorem dvs_erase {q : HD} {H : Hp} : ∀ {us : List V} {es : List D} (j : Nat), DVs K q H us es → DVs K q H (us.eraseIdx j) (es.eraseIdx j)
  | _, _, _, .nil => .nil
  | _, _, 0, .cons _ r => r
  | _, _, j + 1, .cons h r => .cons h (dvs_erase j r)
/-- x.pop(e) -/
theorem re_pop (i k j : Nat) (he : RE X W p ρ c e (.val (.int (j : Nat)) nw c1)) (hc0 : ∃ ds0, c[k]? = some (.lst ds0)) (hc : c1[k]? = some (.lst ds)) (hj : ds[j]? = some d) (hz : ds.length < 100000) (hρ : ρ[i]? = some (some (.mut k)) := by rfl) (hN : X.N[i]? = some x := by rfl) (hv : Vis X.env.scope x := by first | exact Or.inl rfl | exact Or.inr (Or.inl rfl) | exact Or.inr (Or.inr rfl))
    (hd : (x == ("__debug__" : Str)) = false := by decide) (hcd : (x == ("__classdict__" : Str)) = false := by decide) (hline : (apos.endLine == cpos.line) = true := by rfl)
    (hbase : attributeBase (.Name x xp) "pop" X.env (eval (.Name x xp) X.env) = eval (.Name x xp) X.env := by rfl) (hst : starEach [e] X.env = (false, eval e X.env) :: starEach [] X.env := by rfl)
    (hfew : ((backTo cpos (starEach [e] X.env)).all (fun x => !x.1) && (backToKw cpos (keywordEach [] X.env)).all (fun x => x.1.isSome)
      && decide (([e] : List Expr).length + ([] : List Keyword).length + (if ([] : List Keyword).isEmpty then 0 else 1) < 30)) = true := by rfl) :
    RE X W p ρ c (.Call (.Attribute (.Name x xp) "pop" apos) [e] [] cpos) (.val d false (c1.set k (.lst (ds.eraseIdx j)))) := by
  have PB := pe_bm (cpos := cpos) (apos := apos) PySem.F.plainAttrs_list PySem.F.slot_list_pop PySem.F.type_list_pop mt_popAt (pe_var (pos := xp) hN hv hd hcd) (pa_cons he (pa_nil (X := X)) hst) hbase hfew hline hst
  refine pe_imp PB fun σ H Q h => ?_
  obtain ⟨o, q1, q2⟩ := h.1.at' i _ hρ
  obtain ⟨ds0, hc0⟩ := hc0
  obtain ⟨a, vs0, rfl, ha, hv0, _⟩ := mut_lst q2 h.1.pl hc0
  have m : a ∈ p.m := List.mem_of_getElem? ha
  refine ⟨_, q1, .inl ⟨rfl, _, .inl (.inl hv0)⟩, h.1, fun v H1 e1 p1 dv _ => ?_⟩
  cases dv
  obtain ⟨b, vs, eb, hb, hv1, dvs⟩ := mut_lst (q2.mono e1) p1 hc
  cases eb
  obtain ⟨w, hw, dw⟩ := dvs.get hj
  have lj : j < ds.length := (List.getElem?_eq_some_iff.mp hj).1
  refine ⟨a, vs, (j : Nat), j, w, rfl, rfl, hv1, by omega, by omega, ?_, hw, ?_⟩
  · unfold seqIndex?
    have : j < vs.length := by rw [dvs.length]; exact lj
    simp [this]
    try omega
  · have sb : Sub (hide p.flat H1) (hide p.flat (upd H1 a (.lst (vs.eraseIdx j)))) := by
      rw [hide_flat, hide_flat]
      exact upd_msub m
    exact h.2 w _ (e1.trans (ext_upd m)) (p1.put ha ⟨_, upd_same, (dvs_erase j dvs).sub sb fun _ _ z => z⟩) (dw.sub sb fun _ _ z => z).unflat fun q => nomatch q
end
end LA

namespace LA
open PySem PySem.Spec PyProof.Rows L2
/-! ### texts by their signs -/
def tx (l : List Nat) : Str := ⟨l.toArray⟩
theorem tx_list (l : List Nat) : (tx l).cps.toList = l := by unfold tx; simp
theorem tx_len (l : List Nat) : (tx l).length = l.length := by
  show (tx l).cps.size = _
  unfold tx
  simp
theorem str_tx (s : Str) : ∃ l, s = tx l := ⟨s.cps.toList, by unfold tx; simp⟩
def chr1 (n : Nat) : Str := ⟨#[n]⟩
theorem chars_tx (l : List Nat) : chars (tx l) = l.map fun n => D.str (chr1 n) := by
  unfold chars
  rw [tx_list]
  rfl
theorem tx_app (a b : List Nat) : tx a ++ tx b = tx (a ++ b) := by
  show (⟨(tx a).cps ++ (tx b).cps⟩ : Str) = _
  unfold tx
  simp
theorem tx_inj {a b : List Nat} (h : tx a = tx b) : a = b := by rw [← tx_list a, ← tx_list b, h]
theorem join_nil : ∀ l : List Nat, Txt.join (Str.ofString "") (l.map chr1) = tx l := by
  intro l
  unfold Txt.join
  rw [StrLaws.glued_eq_join]
  have e0 : (Str.ofString "") = tx [] := by decide
  rw [e0]
  induction l with
  | nil => rfl
  | cons a r ih =>
    cases r with
    | nil => rfl
    | cons b r =>
      show chr1 a ++ tx [] ++ Str.join (tx []) ((b :: r).map chr1) = _
      rw [ih]
      show tx [a] ++ tx [] ++ tx (b :: r) = _
      rw [tx_app, tx_app]
      rfl
theorem sum_sgn : ∀ l : List Nat, ((l.map chr1).map (·.length)).sum = l.length
  | [] => rfl
  | a :: r => by
    have := sum_sgn r
    simp only [List.map_cons, List.sum_cons, List.length_cons] at this ⊢
    rw [this]
    show 1 + r.length = _
    omega
/-! ### collected lists -/
theorem coll_all (y : Nat → D) : ∀ n, coll (fun _ => true) y n = (List.range n).map y
  | 0 => rfl
  | n + 1 => by
    show coll (fun _ => true) y n ++ (if true then [y n] else []) = _
    rw [coll_all y n, List.range_succ, List.map_append]
    rfl
theorem coll_some (b : Nat → Bool) (y : Nat → D) : ∀ n, coll b y n = ((List.range n).filter b).map y
  | 0 => rfl
  | n + 1 => by
    show coll b y n ++ (if b n then [y n] else []) = _
    rw [coll_some b y n, List.range_succ, List.filter_append, List.map_append]
    cases h : b n <;> simp [h]
section
variable {X : Cx} {W : WX} {p : HD} {ρ : Rho} {c c1 c2 c3 : PC} {e a : Expr} {pos : Pos} {d : D} {nw : Bool} {K : PySem.W.Frag}
/-- text * count -/
theorem op_mulS : OpR X (binaryOp .Mult) (fun x y H Q => ∃ z n, x = .str z ∧ y = .int n ∧ MulOk z n ∧ Q (.str (Txt.mul z n)) H) := by
  intro pins s σ H x y v u Q I rx ry h
  obtain ⟨z, n, rfl, rfl, hok, q⟩ := h
  obtain ⟨t, rfl⟩ := rx
  obtain ⟨t', rfl⟩ := ry
  exact SB.mul hok fun t2 k => ⟨.str _, H, I.tok _, ⟨_, rfl⟩, q⟩
theorem ov_mulS {z : Str} {n : Int} (h : MulOk z n) : OV K p (fun x y H Q => ∃ z n, x = .str z ∧ y = .int n ∧ MulOk z n ∧ Q (.str (Txt.mul z n)) H) (.str z) (.int n) (.str (Txt.mul z n)) true c := fun v u H Q dv du hp k => by
  cases dv
  cases du
  exact ⟨z, n, rfl, rfl, h, k _ H (Ext.refl p H) hp (.str _) fun _ => New.sc (by intro a h; cases h)⟩
theorem re_neg {i : Int} (ha : RE X W p ρ c a (.val (.int i) nw c1)) : RE X W p ρ c (.UnaryOp .USub a pos) (.val (.int (-i)) true c1) :=
  pe_imp (pe_un un_neg ha) fun σ H Q ⟨s, k⟩ => ⟨s, fun v H1 e1 p1 dv _ => by
    cases dv
    exact ⟨i, rfl, k _ H1 e1 p1 (.int _) fun _ => New.sc (by intro a h; cases h)⟩⟩
end
end LA
namespace LA
open PySem PySem.Spec PyProof.Rows L2
/-! ### equality of ints and of texts -/
section
variable {p : HD} {c : PC} {K : PySem.W.Frag}
theorem dec_v {α : Type} {a b : α} [DecidableEq α] {f : α → V} (hf : ∀ x y, f x = f y → x = y) : decide (f a = f b) = decide (a = b) := by
  by_cases h : a = b
  · subst h
    simp
  · rw [decide_eq_false h, decide_eq_false fun z => h (hf _ _ z)]
theorem ov_eqI {i j : Int} : OV K p rEq (.int i) (.int j) (.bl (decide (i = j))) true c := by
  have h := ov_eqS (K := K) (p := p) (c := c) (x := .int i) (y := .int j) rfl rfl rfl
  rw [dec_v (f := V.int) fun x y e => by cases e; rfl] at h
  exact h
theorem ov_eqIt {i j : Int} (h : i = j) : OV K p rEq (.int i) (.int j) (.bl true) true c := by
  have q := ov_eqI (K := K) (p := p) (c := c) (i := i) (j := j)
  rw [decide_eq_true h] at q
  exact q
theorem ov_eqIf {i j : Int} (h : ¬ i = j) : OV K p rEq (.int i) (.int j) (.bl false) true c := by
  have q := ov_eqI (K := K) (p := p) (c := c) (i := i) (j := j)
  rw [decide_eq_false h] at q
  exact q
theorem ov_neI {i j : Int} : OV K p rNe (.int i) (.int j) (.bl (!decide (i = j))) true c := by
  have h := ov_neS (K := K) (p := p) (c := c) (x := .int i) (y := .int j) rfl rfl rfl
  rw [dec_v (f := V.int) fun x y e => by cases e; rfl] at h
  exact h
theorem ov_eqT {i j : Str} : OV K p rEq (.str i) (.str j) (.bl (decide (i = j))) true c := by
  have h := ov_eqS (K := K) (p := p) (c := c) (x := .str i) (y := .str j) rfl rfl rfl
  rw [dec_v (f := V.str) fun x y e => by cases e; rfl] at h
  exact h
theorem ov_neT {i j : Str} : OV K p rNe (.str i) (.str j) (.bl (!decide (i = j))) true c := by
  have h := ov_neS (K := K) (p := p) (c := c) (x := .str i) (y := .str j) rfl rfl rfl
  rw [dec_v (f := V.str) fun x y e => by cases e; rfl] at h
  exact h
end
/-! ### defs that are called by their names -/
structure Def0 (P : Program) (w : World) (K : PySem.W.Frag) (mg : Str → Option Value) (base : Heap) (k : Nat) (x : Str) (ps : List Str) (R : FSpec) : Prop where
  ex : ∃ (f : Addr) (fd : FuncData), FnOk P w K mg base CX0 k f fd ps (spF K R) ∧ mg x = some (.ref f) ∧ PySem.W.keepIn K (.ref f) = true ∧ Binds K fd ps []
structure Def1 (P : Program) (w : World) (K : PySem.W.Frag) (mg : Str → Option Value) (base : Heap) (k : Nat) (x : Str) (ps : List Str) (R : FSpec) : Prop where
  ex : ∃ (f : Addr) (fd : FuncData), FnOk P w K mg base (L2.CX P w) k f fd ps (spF K R) ∧ mg x = some (.ref f) ∧ PySem.W.keepIn K (.ref f) = true ∧ Binds K fd ps []
section
variable {X : Cx} {W : WX} {p : HD} {ρ : Rho} {c c1 c2 : PC} {e : Expr} {es : List Expr} {pos xp : Pos} {d : D} {nw : Bool} {k : Nat} {x : Str} {ps : List Str} {R : FSpec} {ds : List D} {o : EO}
theorem re_c0 (T : Def0 X.prog X.w X.K X.mg X.base k x ps R) (hr : Room k X.A) (ha : RA X W p ρ c (e :: es) (.val ds c1)) (ho : R ds c1 (.val d nw c2))
    (hg : Gl X x := by rfl) (hdb : (x == ("__debug__" : Str)) = false := by decide) (he : starEach (e :: es) X.env = (false, eval e X.env) :: starEach es X.env := by rfl) (hpl : (backTo pos (starEach es X.env)).any (·.1) = false := by rfl) :
    RE X W p ρ c (.Call (.Name x xp) (e :: es) [] pos) (.val d nw c2) := by
  obtain ⟨f, fd, h1, h2, h3, h4⟩ := T.ex
  exact re_call h1 hr h2 h3 h4 ha ho hg hdb he hpl
theorem re_c1 (tk : Takes X W) (T : Def1 X.prog X.w X.K X.mg X.base k x ps R) (hr : Room k X.A) (ha : RA X W p ρ c (e :: es) (.val ds c1)) (ho : R ds c1 o)
    (hg : Gl X x := by rfl) (hdb : (x == ("__debug__" : Str)) = false := by decide) (he : starEach (e :: es) X.env = (false, eval e X.env) :: starEach es X.env := by rfl) (hpl : (backTo pos (starEach es X.env)).any (·.1) = false := by rfl) :
    RE X W p ρ c (.Call (.Name x xp) (e :: es) [] pos) o := by
  obtain ⟨f, fd, h1, h2, h3, h4⟩ := T.ex
  exact re_callX tk h1 hr h2 h3 h4 ha ho hg hdb he hpl
end
end LA
namespace LA
open PySem PySem.Spec PyProof.Rows L2
/-! ### comprehensions without a test; signs joined -/
section
variable {X : Cx} {W : WX} {p : HD} {ρ : Rho} {c c1 c2 : PC} {e o tg : Expr} {pos apos : Pos} {n1 n2 : Bool}
theorem re_joinC {g : G} {l : List Nat} (ho : RE X W p ρ c o (.val (.str (Str.ofString "")) n1 c1)) (he : RE X W p ρ c1 e (.val (.lst g (l.map fun n => D.str (chr1 n))) n2 c2)) (hl : l.length ≤ 1000)
    (hs : starEach [e] X.env = [(false, eval e X.env)] := by rfl) (hbase : attributeBase o "join" X.env (eval o X.env) = eval o X.env := by rfl) (hline : (apos.endLine == pos.line) = true := by rfl) :
    RE X W p ρ c (.Call (.Attribute o "join" apos) [e] [] pos) (.val (.str (tx l)) true c2) := by
  rw [← join_nil]
  refine re_join (g := g) (n2 := n2) (ss := l.map chr1) ho ?_ ?_ hs hbase hline
  · rw [List.map_map]
    exact he
  · rw [sum_sgn]
    show _ + _ * 0 ≤ _
    omega
theorem pts_all {q : HD} : PTs X [] (tT X.K W q ρ c (.val true c)) := ⟨fun pins s σ H Q I h => pts_nil.run pins s σ H Q I (h.2 H (Ext.refl _ _) h.1.pl)⟩
theorem re_lcA {elt iter : Expr} {scope : Scope} {own : List (Str × Nat)} {xs : List D} {g : TG} (y : Nat → D) (cs : Nat → PC) (ρt : Nat → Rho) (nws : Nat → Bool) (hc : X.calm = true) (hN : X.N.Nodup) (hi : RI X W p ρ c tg iter xs (cs 0)) (ok : BlkOk X.N X.env.scope scope own)
    (hg : ∀ (s : Shared) (H : Hp) (C : Addr) (cl : List (Str × Addr)) (fp : List Addr), PG (X.blk s H scope (compEnvC scope cl C X.env) fp) tg g)
    (htg : ∀ i d, xs[i]? = some d → TgOk X.K g (own.map (·.2)) d (wipeR ρ (own.map (·.2))) (ρt i))
    (he : ∀ i d, xs[i]? = some d → ∀ (q : HD) (s : Shared) (H : Hp) (C : Addr) (cl : List (Str × Addr)) (fp : List Addr), RE (X.blk s H scope (compEnvC scope cl C X.env) fp) Wf q (ρt i) (cs i) elt (.val (y i) (nws i) (cs (i + 1))))
    (hz : xs.length ≤ 100000)
    (hs : ∀ x, foldedSetIterable iter X.env x = pure x := by intro _; rfl) : RE X W p ρ c (.ListComp elt [⟨tg, iter, [], 0⟩] scope pos) (.val (.lst ⟨false, true⟩ ((List.range xs.length).map y)) true (cs xs.length)) := by
  rw [← coll_all]
  exact re_lc (fun _ => true) y cs cs ρt nws hc hN hi ok hg htg (fun i d h q s H C cl fp => pts_all) (fun i d h _ q s H C cl fp => he i d h q s H C cl fp) (fun i d h z => nomatch z) hz hs
end
theorem intsD_at {n i : Nat} {d : D} (h : (intsD n)[i]? = some d) : d = .int (i : Nat) ∧ i < n := by
  unfold intsD at h
  have hl := (List.getElem?_eq_some_iff.mp h).1
  rw [List.length_map, List.length_range] at hl
  rw [List.getElem?_map, List.getElem?_range hl] at h
  exact ⟨(Option.some.inj h).symm, hl⟩
theorem intsD_len (n : Nat) : (intsD n).length = n := by unfold intsD; rw [List.length_map, List.length_range]
theorem signs_at {l : List Nat} {i : Nat} {d : D} (h : (chars (tx l))[i]? = some d) : d = .str (chr1 (l.getD i 0)) ∧ i < l.length ∧ l[i]? = some (l.getD i 0) := by
  rw [chars_tx] at h
  have hl := (List.getElem?_eq_some_iff.mp h).1
  rw [List.length_map] at hl
  rw [List.getElem?_map, List.getElem?_eq_getElem hl] at h
  refine ⟨?_, hl, ?_⟩
  · rw [List.getD_eq_getElem?_getD, List.getElem?_eq_getElem hl]
    exact (Option.some.inj h).symm
  · rw [List.getD_eq_getElem?_getD, List.getElem?_eq_getElem hl]
    rfl
theorem signs_len (l : List Nat) : (chars (tx l)).length = l.length := by rw [chars_tx, List.length_map]
end LA
namespace LA
open PySem PySem.Spec PyProof.Rows L2
/-! ### a flat list against [] -/
def flatOk : D → Bool
  | .non => true
  | .bl _ => true
  | .int _ => true
  | .str x => PyData.strOk x
  | _ => false
section
variable {K : PySem.W.Frag} {p : HD} {H : Hp} {c : PC}
theorem dp_of {v : V} {d : D} (h : DV K p H v d) (e : flatOk d = true) : Dp K H v (toPy d) := by
  cases h <;> first | (cases e; done) | (unfold toPy; constructor)
theorem dps_of : ∀ {vs : List V} {ds : List D}, DVs K p H vs ds → ds.all flatOk = true → DpAll K H vs (toPys ds)
  | _, _, .nil, _ => by
    unfold toPys
    exact .nil
  | _, _, .cons h r, e => by
    rw [List.all_cons, Bool.and_eq_true_iff] at e
    unfold toPys
    exact .cons (dp_of h e.1) (dps_of r e.2)
theorem flat_lay : ∀ {ds : List D}, ds.all flatOk = true → PyData.canLayAll0 (toPys ds) = true ∧ PyData.depthAll (toPys ds) = 0
  | [], _ => ⟨by unfold toPys PyData.canLayAll0; rfl, by unfold toPys PyData.depthAll; rfl⟩
  | d :: r, e => by
    rw [List.all_cons, Bool.and_eq_true_iff] at e
    obtain ⟨h1, h2⟩ := flat_lay e.2
    unfold toPys PyData.canLayAll0 PyData.depthAll
    rw [h1, h2]
    have he := e.1
    cases d <;> first | (cases he; done) | (unfold toPy PyData.canLay0 PyData.depth; exact ⟨by first | rfl | (rw [Bool.and_true]; exact he), rfl⟩)
theorem shaped_flat {ds : List D} (e : ds.all flatOk = true) : SeqAt.shaped (.list (toPys ds)) = true := by
  obtain ⟨h1, h2⟩ := flat_lay e
  unfold SeqAt.shaped PyData.canLay0 PyData.depth
  rw [h1, h2]
  rfl
theorem eqv_nil (ds : List D) : PyData.eqv (.list (toPys ds)) (.list []) = ds.isEmpty := by
  cases ds with
  | nil => unfold toPys PyData.eqv PyData.eqvAll; rfl
  | cons d r => unfold toPys PyData.eqv PyData.eqvAll; rfl
theorem toPy_lst {g : G} {ds : List D} : toPy (.lst g ds) = .list (toPys ds) := by unfold toPy; rfl
theorem two_nil {v u : V} {g g2 : G} {ds : List D} (dv : DV K p H v (.lst g ds)) (du : DV K p H u (.lst g2 [])) (e : ds.all flatOk = true) : Dp K H v (.list (toPys ds)) ∧ Dp K H u (.list []) := by
  cases dv with
  | lst _ hq r =>
    cases du with
    | lst _ hq2 r2 =>
      cases r2
      exact ⟨.lst (un_sqL hq) (dps_of r e), .lst (un_sqL hq2) .nil⟩
theorem ov_eqNil {g g2 : G} {ds : List D} (e : ds.all flatOk = true) : OV K p (rEqD K) (.lst g ds) (.lst g2 []) (.bl ds.isEmpty) true c := fun v u H Q dv du hp k => by
  obtain ⟨h1, h2⟩ := two_nil dv du e
  refine ⟨_, _, h1, h2, shaped_flat e, by decide, ?_⟩
  rw [eqv_nil]
  exact k _ H (Ext.refl p H) hp (.bl _) fun _ => New.sc (by intro a h; cases h)
theorem ov_neNil {g g2 : G} {ds : List D} (e : ds.all flatOk = true) : OV K p (rNeD K) (.lst g ds) (.lst g2 []) (.bl (!ds.isEmpty)) true c := fun v u H Q dv du hp k => by
  obtain ⟨h1, h2⟩ := two_nil dv du e
  refine ⟨_, _, h1, h2, shaped_flat e, by decide, ?_⟩
  rw [eqv_nil]
  exact k _ H (Ext.refl p H) hp (.bl _) fun _ => New.sc (by intro a h; cases h)
end
/-! ### isinstance by the kind of a datum -/
def isStrD : D → Bool
  | .str _ => true
  | _ => false
def isLstD : D → Bool
  | .lst _ _ => true
  | _ => false
theorem isi_str {d : D} {t : String} (h : tyD d = some t) : kitB t "str" = some (isStrD d) := by
  cases d <;> first | (cases h; done) | (cases h; first | exact (show kitB _ "str" = some false by decide +kernel) | exact (show kitB _ "str" = some true by decide +kernel))
theorem isi_list {d : D} {t : String} (h : tyD d = some t) : kitB t "list" = some (isLstD d) := by
  cases d <;> first | (cases h; done) | (cases h; first | exact (show kitB _ "list" = some false by decide +kernel) | exact (show kitB _ "list" = some true by decide +kernel))
end LA
namespace LA
open PySem PySem.Spec PyProof.Rows L2
theorem cv_lenT {K : PySem.W.Frag} {p : HD} {c : PC} {l : List Nat} (h : l.length ≤ 100000) : CV K p (fun xs H Q => ∃ x n, xs = [x] ∧ LenV K x H n ∧ Q (.int n) H) [.str (tx l)] (.int (l.length : Nat)) true c := fun vs H Q dvs hp k => by
  cases dvs with
  | cons h1 r =>
    cases r
    cases h1
    exact ⟨_, l.length, rfl, ⟨by rw [tx_len]; exact sz_le h, (tx_len l).symm⟩, k _ H (Ext.refl p H) hp (.int _) fun _ => New.sc (by intro a h; cases h)⟩
end LA
namespace LA
open PySem PySem.Spec PyProof.Rows L2
theorem zips_at {a b : List Nat} {i : Nat} {d : D} (h : (zips (tx a) (tx b))[i]? = some d) : d = .tup [.str (chr1 (a.getD i 0)), .str (chr1 (b.getD i 0))] ∧ i < min a.length b.length := by
  unfold zips at h
  have hl := (List.getElem?_eq_some_iff.mp h).1
  rw [List.length_map, List.length_range] at hl
  rw [List.getElem?_map, List.getElem?_range hl, tx_list, tx_list] at h
  have ea : (tx a).cps.size = a.length := tx_len a
  have eb : (tx b).cps.size = b.length := tx_len b
  rw [ea, eb] at hl
  exact ⟨(Option.some.inj h).symm, hl⟩
theorem zips_len (a b : List Nat) : (zips (tx a) (tx b)).length = min a.length b.length := by
  unfold zips
  have ea : (tx a).cps.size = a.length := tx_len a
  have eb : (tx b).cps.size = b.length := tx_len b
  rw [List.length_map, List.length_range, ea, eb]
theorem at_get {l : List Nat} {i : Nat} (h : i < l.length) : (tx l).cps.toList[i]? = some (l.getD i 0) := by
  rw [tx_list, List.getD_eq_getElem?_getD, List.getElem?_eq_getElem h]
  rfl
end LA
namespace LA
open PySem PySem.Spec PyProof.Rows L2
theorem rt_lstB {X : Cx} {W : WX} {p : HD} {ρ : Rho} {c c1 : PC} {e : Expr} {nw b : Bool} {g : G} {ds : List D} (h : RE X W p ρ c e (.val (.lst g ds) nw c1)) (hb : (!ds.isEmpty) = b) (he : ∀ whole, isTrue e X.env whole = (do let v ← whole; standAt e.pos; holding [v] (truthy v)) := by intro _; rfl) : RT X W p ρ c e (.val b c1) := by
  subst hb
  exact rt_lst h he
end LA
namespace LA
open PySem PySem.Spec PyProof.Rows L2
/-! ### forgetting; targets; the larger and the smaller -/
section
variable {X : Cx} {W : WX} {p : HD} {ρ ρ' ρ1 : Rho} {c c1 c2 : PC} {e tg : Expr} {pos : Pos} {d : D} {nw : Bool} {sts : List Stmt} {g : TG} {vs : List Nat} {K : PySem.W.Frag}
theorem rss_weak (h : RSs X W p ρ c sts (.nx ρ1 c1)) (hl : ρ'.length = ρ1.length) (hw : ∀ (i : Nat) (d : D), ρ'[i]? = some (some d) → ρ1[i]? = some (some d)) : RSs X W p ρ c sts (.nx ρ' c1) :=
  pss_imp h fun De σ H ⟨s, k⟩ => ⟨s, fun σ2 H2 e2 s2 => k σ2 H2 e2 (s2.weak (by rw [hl]; exact s2.len) hw fun i v d _ z => z)⟩
theorem rs_tg (he : RE X W p ρ c e (.val d nw c1)) (hg : PG X tg g) (htg : TgOk X.K g vs d ρ ρ') (hs : swapsWithSole [tg] e pos.line X.env = pure false := by rfl) (hw : swappedStores [tg] e X.env = pure none := by rfl)
    (h1 : (assignEach [tg] X.env).map (·.2) = [assign tg X.env] := by rfl) : RS X W p ρ c (.Assign [tg] e pos) (.nx ρ' c1) :=
  ps_imp (ps_asg he hg hs hw h1) fun De σ H h => ⟨h.1, fun v H1 e1 p1 dv _ => htg.run p c1 v σ H1 _ dv (h.1.mono e1 p1) p1 fun σ2 s2 _ => h.2 σ2 H1 e1 s2⟩
theorem cv_min2 {i j : Int} : CV K p (fun xs H Q => ∃ i j, xs = [.int i, .int j] ∧ Q (.int (if j < i then j else i)) H) [.int i, .int j] (.int (if j < i then j else i)) true c := fun vs H Q dvs hp k => by
  cases dvs with
  | cons h1 r =>
    cases r with
    | cons h2 r =>
      cases r
      cases h1
      cases h2
      exact ⟨i, j, rfl, k _ H (Ext.refl p H) hp (.int _) fun _ => New.sc (by intro a h; cases h)⟩
theorem cv_max2 {i j : Int} : CV K p (fun xs H Q => ∃ i j, xs = [.int i, .int j] ∧ Q (.int (if i < j then j else i)) H) [.int i, .int j] (.int (if i < j then j else i)) true c := fun vs H Q dvs hp k => by
  cases dvs with
  | cons h1 r =>
    cases r with
    | cons h2 r =>
      cases r
      cases h1
      cases h2
      exact ⟨i, j, rfl, k _ H (Ext.refl p H) hp (.int _) fun _ => New.sc (by intro a h; cases h)⟩
end
/-! ### what repr asks of small data -/
def smallI (i : Int) : Bool := decide (0 ≤ i) && decide (i < 10)
def smallD : D → Bool
  | .non => true
  | .bl _ => true
  | .int i => smallI i
  | .str x => PyData.strOk x && decide (x.length ≤ 100)
  | _ => false
theorem small_int : ∀ k : Nat, k < 10 → (PyData.int ((k : Nat) : Int)).showable = true ∧ PyData.intsShort 13 (.int ((k : Nat) : Int)) = true ∧ (PyData.int ((k : Nat) : Int)).weight ≤ 100 := by
  decide +kernel
theorem small_one {d : D} (h : smallD d = true) : okD false d = true ∧ (toPy d).showable = true ∧ (toPy d).canLay0 = true ∧ PyData.intsShort 13 (toPy d) = true ∧ (toPy d).weight ≤ 100 ∧ (toPy d).depth = 0 ∧ (toPy d).hasDict = false := by
  cases d with
  | non => exact ⟨rfl, by unfold toPy; decide +kernel, by unfold toPy; decide +kernel, by unfold toPy; decide +kernel, by unfold toPy; decide +kernel, by unfold toPy; decide +kernel, by unfold toPy; decide +kernel⟩
  | bl b => cases b <;> exact ⟨rfl, by unfold toPy; decide +kernel, by unfold toPy; decide +kernel, by unfold toPy; decide +kernel, by unfold toPy; decide +kernel, by unfold toPy; decide +kernel, by unfold toPy; decide +kernel⟩
  | int i =>
    obtain ⟨h1, h2⟩ := Bool.and_eq_true_iff.mp (show smallI i = true from h)
    have h1 := of_decide_eq_true h1
    have h2 := of_decide_eq_true h2
    obtain ⟨k, rfl⟩ : ∃ k : Nat, i = (k : Nat) := ⟨i.toNat, (Int.toNat_of_nonneg h1).symm⟩
    obtain ⟨a, b, c⟩ := small_int k (by omega)
    exact ⟨rfl, by unfold toPy; exact a, by unfold toPy PyData.canLay0; rfl, by unfold toPy; exact b, by unfold toPy; exact c, by unfold toPy PyData.depth; rfl, by unfold toPy PyData.hasDict; rfl⟩
  | str x =>
    obtain ⟨h1, h2⟩ := Bool.and_eq_true_iff.mp (show (PyData.strOk x && decide (x.length ≤ 100)) = true from h)
    exact ⟨rfl, by unfold toPy PyData.showable; rfl, by unfold toPy PyData.canLay0; exact h1, by unfold toPy PyData.intsShort; rfl, by unfold toPy PyData.weight; exact of_decide_eq_true h2, by unfold toPy PyData.depth; rfl, by unfold toPy PyData.hasDict; rfl⟩
  | _ => cases h
theorem small_all : ∀ {ds : List D}, ds.all smallD = true → okDs false ds = true ∧ PyData.showableAll (toPys ds) = true ∧ PyData.canLayAll0 (toPys ds) = true ∧ PyData.intsShortAll 13 (toPys ds) = true ∧ PyData.weightAll (toPys ds) ≤ 101 * ds.length ∧ PyData.depthAll (toPys ds) = 0 ∧ PyData.hasDictAll (toPys ds) = false
  | [], _ => ⟨rfl, by unfold toPys; decide +kernel, by unfold toPys; decide +kernel, by unfold toPys; decide +kernel, by unfold toPys; decide +kernel, by unfold toPys; decide +kernel, by unfold toPys; decide +kernel⟩
  | d :: r, h => by
    rw [List.all_cons, Bool.and_eq_true_iff] at h
    obtain ⟨a1, a2, a3, a4, a5, a6, a7⟩ := small_one h.1
    obtain ⟨b1, b2, b3, b4, b5, b6, b7⟩ := small_all h.2
    unfold okDs toPys PyData.showableAll PyData.canLayAll0 PyData.intsShortAll PyData.weightAll PyData.depthAll PyData.hasDictAll
    rw [a1, a2, a3, a4, a6, a7, b1, b2, b3, b4, b6, b7, List.length_cons]
    exact ⟨rfl, rfl, rfl, rfl, by omega, rfl, rfl⟩
theorem sz_of {d : PyData} (h1 : d.canLay0 = true) (h2 : PyData.intsShort 13 d = true) (h3 : d.weight ≤ 10000) : d.shown.length ≤ sizeLine := by
  have h := PyData.shown_le 13 (by decide) d (PyData.leavesShort_of_canLay0 13 d h1 h2)
  have e : sizeLine = 16777216 := by decide
  omega
theorem shows_small {d : D} (h : smallD d = true) : Shows d := by
  obtain ⟨a1, a2, a3, a4, a5, a6, a7⟩ := small_one h
  exact ⟨by rw [a7]; exact a1, a2, by omega, sz_of a3 a4 (by omega)⟩
theorem shows_list {g : G} {ds : List D} (h : ds.all smallD = true) (hl : ds.length ≤ 90) : Shows (.lst g ds) := by
  obtain ⟨b1, b2, b3, b4, b5, b6, b7⟩ := small_all h
  refine ⟨?_, ?_, ?_, sz_of ?_ ?_ ?_⟩
  · unfold toPy PyData.hasDict okD
    rw [b7, b1]
    simp
  · unfold toPy PyData.showable
    exact b2
  · unfold toPy PyData.depth
    omega
  · unfold toPy PyData.canLay0
    exact b3
  · unfold toPy PyData.intsShort
    exact b4
  · unfold toPy PyData.weight
    omega
end LA
namespace LA
open PySem PySem.Spec PyProof.Rows L2
/-- the first knows no more than the second -/
inductive Less : Rho → Rho → Prop
  | nil : Less [] []
  | skip {o : Option D} {r r1 : Rho} : Less r r1 → Less (none :: r) (o :: r1)
  | same {o : Option D} {r r1 : Rho} : Less r r1 → Less (o :: r) (o :: r1)
theorem Less.len : ∀ {r r1 : Rho}, Less r r1 → r.length = r1.length
  | _, _, .nil => rfl
  | _, _, .skip h => by rw [List.length_cons, List.length_cons, Less.len h]
  | _, _, .same h => by rw [List.length_cons, List.length_cons, Less.len h]
theorem Less.get : ∀ {r r1 : Rho}, Less r r1 → ∀ (i : Nat) (d : D), r[i]? = some (some d) → r1[i]? = some (some d)
  | _, _, .nil, _, _, h => h
  | _, _, .skip _, 0, _, h => by cases h
  | _, _, .same _, 0, _, h => h
  | _, _, .skip h, i + 1, d, z => Less.get h i d z
  | _, _, .same h, i + 1, d, z => Less.get h i d z
theorem rss_less {X : Cx} {W : WX} {p : HD} {ρ ρ' ρ1 : Rho} {c c1 : PC} {sts : List Stmt} (h : RSs X W p ρ c sts (.nx ρ1 c1)) (hw : Less ρ' ρ1) : RSs X W p ρ c sts (.nx ρ' c1) := rss_weak h hw.len hw.get
/-- data without the pool -/
inductive OkR : Rho → Prop
  | nil : OkR []
  | non {r : Rho} : OkR r → OkR (none :: r)
  | one {d : D} {r : Rho} : okD false d = true → OkR r → OkR (some d :: r)
theorem OkR.get : ∀ {r : Rho}, OkR r → ∀ (i : Nat) (d : D), r[i]? = some (some d) → okD false d = true
  | _, .nil, _, _, h => by simp at h
  | _, .non _, 0, _, h => by cases h
  | _, .one h _, 0, _, z => by
    cases Option.some.inj (Option.some.inj z)
    exact h
  | _, .non h, i + 1, d, z => OkR.get h i d z
  | _, .one _ h, i + 1, d, z => OkR.get h i d z
end LA

namespace LA
open PySem PySem.Spec PyProof.Rows L2
/-! ### one call from one place, its guards in view -/
/-- a def of the text called from the place pl: its body's reading is wanted there alone -/
theorem call_at {CX : CXT} {P : Program} {w : World} {K : PySem.W.Frag} {mg : Str → Option Value} {base : Heap} {k : Nat} {x qual : Str} {st : Stmt} {f : Addr} {fd : FuncData} {N ps : List Str} (F : Fun K x qual st f fd) (S : FnScope N ps (defScope st))
    {pl : Around} {up : List Env} {sh : Shared} {G : Hp} {ag : Args} {us : List Value} {vs : List V} {R : VK} {Ex : XK} (room : Room (k + 1) pl) (e0 : Env0 P w K mg base pl up sh G) (bind : BindsTo sh fd ag (ps.zip us)) (rv : Vals vs us) (len : vs.length = ps.length)
    (body : ∀ cdv : Value, Room k (pl.deeper (envOfC qual (defScope st) sh.heap.objs.size f cdv)) → ∃ t, PSs (cxOf CX P w K mg base N qual (defScope st) f cdv pl up sh G Ex) (defBody st) t ∧ t { nx := fun _ G' => R .non G', rt := R } (L2.start N vs) G) :
    codeAny (model P w) pl (.call (.ref f) ag) (CR CX up P w G sh R Ex) sh := by
  obtain ⟨oc, od, kV, doc, pm, an, cdv, ct, osl, rfl, look, code⟩ := F.ex
  obtain ⟨t, runs, want⟩ := body cdv (room.deeper _)
  have inK : K.In sh.heap := e0.mod.kin.keeps fun b o y => (e0.bs b o y).1
  have noLim : sh.heap.NoLimit := e0.mod.nolimit.keeps fun b o y => (e0.bs b o y).1
  have kinds : ∀ y ∈ ps.zip us, (defScope st).names.lookup y.1 = some .local ∨ ((defScope st).names.lookup y.1 = some .cell ∧ ((cellsFrom (sh.heap.objs.size + 1) (defScope st).names []).lookup y.1).isSome = true) := fun ⟨n, v⟩ my =>
    (S.par n (List.of_mem_zip my).1).elim (fun q => .inl q) fun q => .inr ⟨q, PySem.W.cellsFrom_some _ _ _ (.inl q)⟩
  refine codeAny_call_function room.depth (inK _ _ look) rfl S.co S.gen rfl (PySem.W.codeRec_of inK code) (bind _ _ _ _ ?_)
  refine wpAny_newFunctionEnv_cells S.kind kinds fun env ee s1 new => ?_
  subst ee
  refine ⟨noLim.keeps new.toInCall.keep, codeAny_func ?_⟩
  have J : Inv (cxOf CX P w K mg base N qual (defScope st) f cdv pl up sh G Ex) [] (L2.start N vs) G s1 := inv_start S room.hd e0 len rv new
  refine wpAny_mono (runs.run [] s1 (L2.start N vs) G _ J want) (fun fl s2 got => ?_) fun e s2 got => got
  match fl, got with
  | .ret u, ⟨v, σ2, G2, J2, r2, q2⟩ => exact ⟨v, G2, J2.os, J2.bare, J2.base, J2.hok, r2, q2⟩
  | .next, ⟨σ2, G2, J2, q2⟩ => exact ⟨V.non, G2, J2.os, J2.bare, J2.base, J2.hok, rfl, q2⟩
  | .brk, ⟨_, _, _, z⟩ => exact z.elim
  | .cont, ⟨_, _, _, z⟩ => exact z.elim
/-- what a law ends in -/
def LawEnd (s0 : Shared) : Result → Shared → Prop := fun r s2 => r = .ok (.ret (.bool true)) ∧ OldK s0.heap s2.heap ∧ s2.os = s0.os ∧ AllBare s2.gens
/-- the law's call, from a run over a heap of which the script alone may be tracked -/
theorem law_at {P : Program} {w : World} {K : PySem.W.Frag} {mg mb : Str → Option Value} {fa a : Addr} {s0 : Shared} {its : List Value} {ns : List Int}
    (kin : K.In s0.heap) (nsM : s0.heap.Ns mainGlobals mg) (nsB : s0.heap.Ns builtinsNs mb) (bi : ∀ x : Str, x ≠ "__name__" → mb x = bootBuiltins x) (noL : s0.heap.NoLimit) (gen : s0.gens = #[])
    (obj : s0.heap.get? a = some { cls := .type "list", data := .seq its.toArray }) (whole : IntsAre its ns) (short : ns.length ≤ sizeLine)
    (run : ∀ (base : Heap) (G : Hp), K.In base → base.Ns mainGlobals mg → Env0 P w K mg base callerA [] s0 G → SqL K G a (ns.map V.int) →
      codeAny (model P w) callerA (.call (.ref fa) ⟨[.ref a], []⟩) (CR CX0 [] P w G s0 (fun v _ => v = .bl true) fun _ _ _ => False) s0) :
    codeAny (model P w) callerA (.call (.ref fa) ⟨[.ref a], []⟩) (LawEnd s0) s0 := by
  have vals := vals_ints whole
  have same := whole.length
  -- G tracks nothing, or the script as it stands
  have step : ∀ G : Hp, (∀ b u, G b = some u → b = a ∧ K.lookup a = none ∧ ∃ o xs, u = .frz o (.lst xs)) → HOk P w G s0.heap → SqL K G a (ns.map V.int) → codeAny (model P w) callerA (.call (.ref fa) ⟨[.ref a], []⟩) (LawEnd s0) s0 := by
    intro G only hok sq
    have free : ∀ {b : Addr}, b ≠ a → G b = none := fun {b} ne => by
      cases y : G b with
      | none => rfl
      | some u => exact absurd (only b u y).1 ne
    have noDict : ∀ {b : Addr} {o : Obj} {es : Array DictEntry} {ep : Nat}, s0.heap.get? b = some o → o.data = .dict es ep → G b = none := fun {b o es ep} y1 y2 => free fun z => by
      rw [z, obj] at y1
      cases y1
      cases (show Data.seq its.toArray _ = Data.dict es ep from y2)
    have kept : ∀ {b : Addr} {m : Str → Option Value}, s0.heap.Ns b m → (hidT s0.heap G).Ns b m := fun {b m} ⟨o, es, ep, y1, y2, y3⟩ => ⟨o, es, ep, hidT_get y1 (noDict y1 y2), y2, y3⟩
    have kinB : K.In (hidT s0.heap G) := fun b o y => hidT_get (kin b o y) (by
      cases z : G b with
      | none => rfl
      | some u =>
        obtain ⟨rfl, no, _⟩ := only b u z
        rw [no] at y
        cases y)
    have env : Env0 P w K mg (hidT s0.heap G) callerA [] s0 G := ⟨rfl, ⟨kinB, kept nsM, ⟨mb, kept nsB, bi⟩, noL.elim fun mc q => ⟨mc, kept q.1, q.2⟩⟩, fun b o y => of_hidT y, Nat.le_of_eq (hidT_size _ _), trivial, fun b m => absurd (show b ∈ ([] : List Addr) from m) (by simp), hok, .of_eq gen⟩
    refine codeAny_mono (run _ G kinB (kept nsM) env sq) fun r s2 got => ?_
    match r, got with
    | .error e, z => exact z.elim
    | .ok .next, z => exact z.elim
    | .ok .brk, z => exact z.elim
    | .ok .cont, z => exact z.elim
    | .ok (.ret u), ⟨v, G2, os, bare, un, hok2, rel, q⟩ =>
      have q : v = .bl true := q
      subst q
      obtain rfl : u = Value.bool true := rel
      refine ⟨rfl, OldK.of_keep fun b o y => ?_, os, bare⟩
      cases z : G b with
      | none => exact un.keep b o y z (fun m => absurd (show b ∈ ([] : List Addr) from m) (by simp)) (by simp)
      | some u =>
        obtain ⟨rfl, _, ob, xs, rfl⟩ := only b u z
        obtain ⟨y1, _⟩ := hok b _ z
        obtain ⟨y2, _⟩ := hok2 b _ (un.frzs b ob _ z)
        rw [y] at y1
        cases y1
        exact y2
  cases lk : K.lookup a with
  | some o =>
    have y := kin a o lk
    rw [obj] at y
    cases y
    exact step (fun _ => none) (fun b u z => nomatch z) (fun b u z => nomatch z) (.inr ⟨_, its.toArray, _, lk, rfl, rfl, rfl, by rw [List.size_toArray, same]; exact short, by simpa using vals⟩)
  | none =>
    refine step (fun b => if b = a then some (.frz { cls := .type "list", data := .seq its.toArray } (.lst (ns.map V.int))) else none) (fun b u z => ?_) (fun b u z => ?_) (.inl (.inr ⟨{ cls := .type "list", data := .seq its.toArray }, if_pos rfl⟩))
    · by_cases y : b = a
      · have z := (if_pos y).symm.trans z
        cases z
        exact ⟨y, lk, _, _, rfl⟩
      · cases (if_neg y).symm.trans z
    · by_cases y : b = a
      · have z := (if_pos y).symm.trans z
        cases z
        subst y
        exact ⟨obj, by rw [List.length_map]; exact short, its, _, vals, obj⟩
      · cases (if_neg y).symm.trans z
end LA

namespace LA
open PySem PySem.Spec PyProof.Rows L2
/-! ### enumerate over a text -/
def iEnumS (ta : TA) : TI := fun σ H R => ta σ H fun vs H1 => ∃ z : Str, vs = [.str z] ∧ R (Itp z.cps.size (fun i => .int (i : Nat)) (sgn z)) H1
theorem pi_enumS {X : Cx} {e : Expr} {ta : TA} {p pos tpos : Pos} {elts : List Expr} {kk : Nat} (hg : Gl X "enumerate") (hm : X.mg "enumerate" = none) (ha : PA X [e] ta) (hs : starEach [e] X.env = [(false, eval e X.env)] := by rfl) :
    PI X (.Tuple elts kk tpos) (.Call (.Name "enumerate" p) [e] [] pos) (iEnumS ta) := by
  refine ⟨fun pins s σ H R I h => ?_⟩
  refine Call_ (ld_blt I hg hm boot_enumerate (PyProof.Rows.callWith_type1 (thn (ha.run pos pins s σ H _ I h) fun us sh ⟨vs, H1, I1, r1, q1⟩ => ?_) hs rfl))
  obtain ⟨z, ex, q⟩ := q1
  subst ex
  cases r1 with
  | cons r rr =>
    cases rr
    obtain ⟨t, rfl⟩ := r
    refine call_enumerate_str fun hp en it sz kp => wpAny_pyIter_enum en ?_
    have I2 : Inv X pins σ H1 { sh with heap := hp } := I1.kept (t' := sh.toks) kp
    have ne : sh.heap.objs.size + 1 ≠ sh.heap.objs.size := Nat.succ_ne_self _
    refine ⟨sh.heap.objs.size + 1, _, _, _, H1, rfl, I2, turn_pair (P1 := fun i x => ∃ t, x = .int (i : Nat) t)
      (fun A hA => (GoesN.enumFrom 0 (Draws.text (A := A.in1) hA sh.heap.objs.size z t) (sh.heap.objs.size + 1) ne (fun m => ne (List.mem_singleton.mp m)) (List.mem_singleton.mpr rfl)).mono fun i h0 v h1 _ ⟨T, u, x, ev, big, px, tup⟩ => ⟨T, _, x, ev, big, ⟨u, by rw [Int.zero_add]⟩, px, tup⟩)
      (fun i x _ hx => by obtain ⟨u, rfl⟩ := hx; exact ⟨u, rfl⟩) (fun i x _ hx => sgn_of hx) (List.mem_cons_self ..) (fun i h st c hc => ?_) (fun A i s Q E st h => by obtain ⟨⟨old, y⟩, _⟩ := st; exact wpAny_pyIter_enum y h), ⟨⟨_, en⟩, it⟩, fun c hc => ?_, q⟩
    · obtain ⟨⟨old, y⟩, y2⟩ := st
      rcases List.mem_cons.mp hc with w | w
      · rw [w]
        exact ⟨_, y, fun v q => nomatch q⟩
      · rw [List.mem_singleton.mp w]
        obtain ⟨o, y3, _, y4⟩ := y2
        exact ⟨o, y3, fun v q => by rw [y4] at q; cases q⟩
    · have le : sh.heap.objs.size ≤ c := by
        rcases List.mem_cons.mp hc with w | w
        · rw [w]; exact Nat.le_add_right _ _
        · rw [List.mem_singleton.mp w]; exact Nat.le_refl _
      exact I1.fpOk le (I1.hok.fresh le)
section
variable {X : Cx} {W : WX} {p : HD} {ρ : Rho} {c c1 c2 c3 : PC} {e a b cc : Expr} {pos : Pos} {d1 d2 d3 : D} {n1 n2 n3 nw : Bool} {K : PySem.W.Frag}
def enums (l : List Nat) : List D := (List.range l.length).map fun i => D.tup [.int (i : Nat), .str (chr1 (l.getD i 0))]
theorem enums_at {l : List Nat} {i : Nat} {d : D} (h : (enums l)[i]? = some d) : d = .tup [.int (i : Nat), .str (chr1 (l.getD i 0))] ∧ i < l.length := by
  unfold enums at h
  have hl := (List.getElem?_eq_some_iff.mp h).1
  rw [List.length_map, List.length_range] at hl
  rw [List.getElem?_map, List.getElem?_range hl] at h
  exact ⟨(Option.some.inj h).symm, hl⟩
theorem enums_len (l : List Nat) : (enums l).length = l.length := by unfold enums; rw [List.length_map, List.length_range]
theorem ri_enumS {ps tpos : Pos} {elts : List Expr} {kk : Nat} {l : List Nat} (hm : X.mg "enumerate" = none) (h : RE X W p ρ c e (.val (.str (tx l)) nw c1)) (hg : Gl X "enumerate" := by rfl) (hs : starEach [e] X.env = [(false, eval e X.env)] := by rfl) :
    RI X W p ρ c (.Tuple elts kk tpos) (.Call (.Name "enumerate" ps) [e] [] pos) (enums l) c1 :=
  pi_imp (pi_enumS hg hm (ra_cons (W := W) h (ra_nil (W := W)) (by rw [hs]; rfl)) hs) fun σ H R ⟨s, k⟩ => ⟨s, fun vs H1 e1 p1 dvs => by
    cases dvs with
    | cons hv hr =>
      cases hr
      cases hv
      have sz : (tx l).cps.size = l.length := tx_len l
      refine ⟨_, rfl, k _ H1 e1 p1 fun q c' H2 qe qs p2 => ⟨?_, fun i d hd => ?_⟩⟩
      · show (enums l).length = (tx l).cps.size
        rw [enums_len, sz]
      · obtain ⟨rfl, hi⟩ := enums_at hd
        refine ⟨by show i < (tx l).cps.size; rw [sz]; exact hi, fun x H3 y => ?_⟩
        obtain ⟨T, rfl, hT, rfl⟩ := y
        refine ⟨Ext.new hT, p2.upd hT, .tup (.inl (.inl (hide_upd p2 hT))) (.cons (.int _) (.cons ?_ .nil))⟩
        have e' : LA.sgn (tx l) i = .str (chr1 (l.getD i 0)) := by
          unfold LA.sgn
          rw [tx_list]
          rfl
        rw [e']
        exact .str _⟩
/-! ### a < b < c -/
theorem re_chain {op op' : CmpOp} {r r' : R2} {k1 k2 : Bool} (ho : OpR X (compareOp op) r) (ho' : OpR X (compareOp op') r') (ha : RE X W p ρ c a (.val d1 n1 c1)) (hb : RE X W p ρ c1 b (.val d2 n2 c2)) (hc : RE X W p ρ c2 cc (.val d3 n3 c2)) (h1 : OV X.K p r d1 d2 (.bl k1) true c2) (h2 : OV X.K p r' d2 d3 (.bl k2) true c2)
    (hm : lastMarks [op, op'] [b, cc] = false := by with_unfolding_all rfl) : RE X W p ρ c (.Compare a [op, op'] [b, cc] pos) (.val (.bl (k1 && k2)) true c2) :=
  pe_imp (pe_chain ho ho' ha hb hc hm) fun σ H Q ⟨s, k⟩ => ⟨s, fun v H1 e1 p1 dv _ => ⟨s.mono e1 p1, fun u H2 e2 p2 du _ => h1 v u H2 _ (dv.mono e2) du p2 fun w H3 e3 p3 dw _ => by
    cases dw
    refine ⟨k1, rfl, ?_⟩
    have e13 : Ext p H H3 := (e1.trans e2).trans e3
    cases k1 with
    | false => exact iteF (k _ H3 e13 p3 (.bl false) fun _ => New.sc (by intro a h; cases h))
    | true => exact iteT ⟨s.mono e13 p3, fun w H4 e4 p4 dw _ => h2 u w H4 Q (du.mono (e3.trans e4)) dw p4 fun z H5 e5 p5 dz _ => k z H5 ((e13.trans e4).trans e5) p5 dz fun _ => by
        cases dz
        exact New.sc (by intro a h; cases h)⟩⟩⟩
end
end LA

namespace LA
open PySem PySem.Spec PyProof.Rows L2
theorem SR.sub {K : PySem.W.Frag} {p : HD} {H H' : Hp} {σ : L2.St} {ρ : Rho} {c c' : PC} (s : SR K p H σ ρ c) (e : Sub (hide p H) (hide p H')) (q : PoolAt K p H' c') : SR K p H' σ ρ c' :=
  ⟨s.len, fun i d h => by
    obtain ⟨v, h1, h2⟩ := s.at' i d h
    exact ⟨v, h1, h2.sub e fun _ _ z => z⟩, q⟩
/-! ### comprehensions with two for -/
def flat2 (zs : Nat → List D) (y : Nat → Nat → D) : Nat → List D
  | 0 => []
  | n + 1 => flat2 zs y n ++ (List.range (zs n).length).map (y n)
def tiU2 (K : PySem.W.Frag) (xs : List D) (zs : Nat → List D) (ρt : Nat → Rho) (c : PC) : TI := fun σ H R => ∃ (q : HD) (i : Nat) (d : D), xs[i]? = some d ∧ tI K Wf q (ρt i) c (zs i) c σ H R
def teU2 (K : PySem.W.Frag) (xs : List D) (zs : Nat → List D) (y : Nat → Nat → D) (ρu : Nat → Nat → Rho) (nw : Bool) (c : PC) : TE := fun σ H Q => ∃ (q : HD) (i j : Nat) (d e : D), xs[i]? = some d ∧ (zs i)[j]? = some e ∧ tE K Wf q (ρu i j) c (.val (y i j) nw c) σ H Q
section
variable {X : Cx} {W : WX} {p : HD} {ρ : Rho} {c : PC} {K : PySem.W.Frag}
theorem app_at {a L : Addr} {o : HO} {H5 : Hp} {u : HO} {p : HD} (h : hide (p.also L) H5 a = some o) : hide (p.also L) (upd H5 L u) a = some o := by
  obtain ⟨h1, h2⟩ := hide_some h
  rw [hide_ne h2, upd_ne (fun z => h2 (.inr (by rw [z]; exact List.mem_cons_self)))]
  exact h1
theorem lc2_read {xs : List D} {zs : Nat → List D} {y : Nat → Nat → D} {g g1 : TG} {vs vs1 : List Nat} {ρt : Nat → Rho} {ρu : Nat → Nat → Rho} {nw : Bool}
    (htg : ∀ i d, xs[i]? = some d → TgOk K g vs d (wipeR ρ vs) (ρt i)) (htg1 : ∀ i j d e, xs[i]? = some d → (zs i)[j]? = some e → TgOk K g1 vs1 e (wipeR (ρt i) vs1) (ρu i j))
    (hz : ∀ i j d, xs[i]? = some d → j < (zs i).length → (flat2 zs y i).length + j < 100000) : ∀ σ H Q, tE K W p ρ c (.val (.lst ⟨false, true⟩ (flat2 zs y xs.length)) true c) σ H Q → tLc2 (tI K W p ρ c xs c) g tYes (tiU2 K xs zs ρt c) g1 tYes (teU2 K xs zs y ρu nw c) vs vs1 σ H Q := by
  refine fun σ H Q ⟨s, k⟩ => ⟨s, fun J H1 e1 p1 yl L nL => ?_⟩
  have nLp : L ∉ p.m := fun z => p1.not nL (.inl z)
  have s1 : SR K p H1 σ ρ c := s.mono e1 p1
  refine ⟨fun i m H2 => m = xs.length - i ∧ i ≤ xs.length ∧ Ext p H1 H2 ∧ (∃ us, H2 L = some (.lst us) ∧ DVs K (p.also L) H2 us (flat2 zs y i)) ∧ PoolAt K (p.also L) H2 c, ⟨xs.length, by simp, Nat.zero_le _, Ext.new nL, ⟨[], upd_same, .nil⟩, p1.also nL⟩, ?_⟩
  rintro i m H2 ⟨rfl, hi', e2, ⟨us, hL, dus⟩, p2⟩
  obtain ⟨hstop, hgo⟩ := yl (p.also L) c H2 rfl (fun b o z => (ext_also e2).hide b o (also_sub nL b o z)) p2
  by_cases hlt : i < xs.length
  · have hd : xs[i]? = some xs[i] := List.getElem?_eq_getElem hlt
    obtain ⟨g1', g2⟩ := hgo i _ hd
    refine .inr ⟨g1', fun H' => ∃ us, H' L = some (.lst us) ∧ DVs K (p.also L) H' us (flat2 zs y (i + 1)) ∧ Ext p H1 H' ∧ PoolAt K (p.also L) H' c, fun H' ⟨us', a1, a2, a3, a4⟩ => ⟨xs.length - (i + 1), by omega, rfl, hlt, a3, ⟨us', a1, a2⟩, a4⟩, fun x H3 hy => ?_⟩
    obtain ⟨e3, p3, dx⟩ := g2 x H3 hy
    have sH : SR K (p.also L) H3 σ ρ c := ⟨s.len, fun j d hj => by
      obtain ⟨v, h1, h2⟩ := s1.at' j d hj
      exact ⟨v, h1, ((h2.also nL).mono (ext_also e2)).mono e3⟩, p3⟩
    refine (htg i _ hd).run (p.also L) c x _ H3 _ dx (sH.wipe _) p3 fun σ2 s2 hw => ⟨hw.trans wipe_wipe, ?_⟩
    simp only [tYes, if_true]
    refine ⟨p.also L, i, _, hd, s2, fun J1 H4 e4 p4 yl1 => ?_⟩
    have e14 : Ext p H1 H4 := fun a o n h => e4 a o n (e3 a o n (e2 a o n h))
    have hL4 : H4 L = some (.lst us) := e4 L _ nLp (e3 L _ nLp hL)
    refine ⟨fun j k' H5 => k' = (zs i).length - j ∧ j ≤ (zs i).length ∧ Ext p H1 H5 ∧ (∃ us, H5 L = some (.lst us) ∧ DVs K (p.also L) H5 us (flat2 zs y i ++ (List.range j).map (y i))) ∧ PoolAt K (p.also L) H5 c ∧ Sub (hide (p.also L) H4) (hide (p.also L) H5), ⟨(zs i).length, by simp, Nat.zero_le _, e14, ⟨us, hL4, ?_⟩, p4, fun _ _ z => z⟩, ?_⟩
    · show DVs K _ H4 us (flat2 zs y i ++ [])
      rw [List.append_nil]
      exact (dus.mono e3).mono e4
    · rintro j k' H5 ⟨rfl, hj', e5, ⟨ws, hL5, dws⟩, p5, sb5⟩
      obtain ⟨st1, go1⟩ := yl1 (p.also L) c H5 rfl sb5 p5
      by_cases hjl : j < (zs i).length
      · have he : (zs i)[j]? = some ((zs i)[j]'hjl) := List.getElem?_eq_getElem _
        obtain ⟨go2, yl2⟩ := go1 j _ he
        refine .inr ⟨go2, fun H' => ∃ us, H' L = some (.lst us) ∧ DVs K (p.also L) H' us (flat2 zs y i ++ (List.range (j + 1)).map (y i)) ∧ Ext p H1 H' ∧ PoolAt K (p.also L) H' c ∧ Sub (hide (p.also L) H4) (hide (p.also L) H'), fun H' ⟨us', a1, a2, a3, a4, a5⟩ => ⟨(zs i).length - (j + 1), by omega, rfl, hjl, a3, ⟨us', a1, a2⟩, a4, a5⟩, fun x1 H6 hy1 => ?_⟩
        obtain ⟨e6, p6, dx1⟩ := yl2 x1 H6 hy1
        have s6 : SR K (p.also L) H6 σ2 (ρt i) c := (((s2.mono e4 p4).sub sb5 p5).mono e6 p6)
        refine (htg1 i j _ _ hd he).run (p.also L) c x1 _ H6 _ dx1 (s6.wipe _) p6 fun σ3 s3 hw3 => ⟨hw3.trans wipe_wipe, ?_⟩
        refine ⟨p.also L, i, j, _, _, hd, he, s3, fun v H7 e7 p7 dv _ => ?_⟩
        have e57 : Ext (p.also L) H5 H7 := fun a o n h => e7 a o n (e6 a o n h)
        have hL7 : H7 L = some (.lst ws) := e57 L _ nLp hL5
        have sb : Sub (hide (p.also L) H7) (hide (p.also L) (upd H7 L (.lst (ws ++ [v])))) := fun a o h => app_at h
        refine ⟨ws, hL7, ?_, ws ++ [v], upd_same, ?_, ?_, ?_, fun b o z => sb b o (e57.hide b o (sb5 b o z))⟩
        · rw [dws.length, List.length_append, List.length_map, List.length_range]
          exact sz_lt (hz i j _ hd hjl)
        · rw [List.range_succ, List.map_append, ← List.append_assoc]
          exact DVs.app ((dws.mono e57).sub sb fun _ _ z => z) (.cons (dv.sub sb fun _ _ z => z) .nil)
        · intro a o n h
          rw [upd_ne (ne_of_none h nL)]
          exact e57 a o n (e5 a o n h)
        · exact p7.other List.mem_cons_self nLp
      · have ej : j = (zs i).length := by omega
        subst ej
        exact .inl ⟨st1, ws, hL5, dws, e5, p5⟩
  · have e : i = xs.length := by omega
    subst e
    have hh : hide p H2 L = some (.lst us) := by
      rw [hide_ne (p1.not nL)]
      exact hL
    exact .inl ⟨hstop, k (.ref L) H2 (e1.trans e2) p2.less (.lst ⟨(fun z => nomatch z), fun _ => hh⟩ (.inl (.inl hh)) (dus.sub sub_also fun _ _ z => z)) fun _ => New.back e1 fun b z => by
      cases z
      exact ⟨⟨nL, nLp⟩, p2, fun g ds z => by
        cases z
        exact ⟨us, hL, dus⟩⟩⟩
/-- name = [e for x in xs for y in ys] -/
theorem rs_lc2 {elt iter iter1 tg tg1 : Expr} {scope : Scope} {own : List (Str × Nat)} {vs1 : List Nat} {xs : List D} {g g1 : TG} {yn : Str} {py pos spos : Pos} (j : Nat) (zs : Nat → List D) (y : Nat → Nat → D) (ρt : Nat → Rho) (ρu : Nat → Nat → Rho) (nw : Bool) (hc : X.calm = true) (hN : X.N.Nodup) (hi : RI X W p ρ c tg iter xs c) (ok : BlkOk X.N X.env.scope scope own) (hv : ∀ i ∈ vs1, i ∈ own.map (·.2))
    (hg : ∀ (s : Shared) (H : Hp) (C : Addr) (cl : List (Str × Addr)) (fp : List Addr), PG (X.blk s H scope (compEnvC scope cl C X.env) fp) tg g) (hg1 : ∀ (s : Shared) (H : Hp) (C : Addr) (cl : List (Str × Addr)) (fp : List Addr), PG (X.blk s H scope (compEnvC scope cl C X.env) fp) tg1 g1)
    (hi1 : ∀ i d, xs[i]? = some d → ∀ (q : HD) (s : Shared) (H : Hp) (C : Addr) (cl : List (Str × Addr)) (fp : List Addr), RI (X.blk s H scope (compEnvC scope cl C X.env) fp) Wf q (ρt i) c tg1 iter1 (zs i) c)
    (htg : ∀ i d, xs[i]? = some d → TgOk X.K g (own.map (·.2)) d (wipeR ρ (own.map (·.2))) (ρt i)) (htg1 : ∀ i j d e, xs[i]? = some d → (zs i)[j]? = some e → TgOk X.K g1 vs1 e (wipeR (ρt i) vs1) (ρu i j))
    (he : ∀ i j d e, xs[i]? = some d → (zs i)[j]? = some e → ∀ (q : HD) (s : Shared) (H : Hp) (C : Addr) (cl : List (Str × Addr)) (fp : List Addr), RE (X.blk s H scope (compEnvC scope cl C X.env) fp) Wf q (ρu i j) c elt (.val (y i j) nw c))
    (hz : ∀ i j d, xs[i]? = some d → j < (zs i).length → (flat2 zs y i).length + j < 100000) (hy : X.N[j]? = some yn := by rfl) (hyl : X.env.scope.names.lookup yn = some .local := by rfl)
    (hsw : swapsWith (.ListComp elt [⟨tg, iter, [], 0⟩, ⟨tg1, iter1, [], 0⟩] scope pos) (some (.Name yn py)) spos.line X.env = pure true := by exact sw_true rfl rfl rfl (by decide +kernel))
    (hs : ∀ x, foldedSetIterable iter X.env x = pure x := by intro _; rfl) (hs1 : ∀ env x, foldedSetIterable iter1 env x = pure x := by intro _ _; rfl) :
    RS X W p ρ c (.Assign [.Name yn py] (.ListComp elt [⟨tg, iter, [], 0⟩, ⟨tg1, iter1, [], 0⟩] scope pos) spos) (.nx (ρ.set j (some (.lst ⟨false, true⟩ (flat2 zs y xs.length)))) c) :=
  ps_imp (ps_setLc2 (wi1 := tiU2 X.K xs zs ρt c) (te := teU2 X.K xs zs y ρu nw c) hc hN hy hyl hsw hi ok hv hg (fun _ _ _ _ _ => pts_nil) (fun s H C cl fp => ⟨fun pins s' σ H' Q I ⟨q, i, d, hd, h⟩ => (hi1 i d hd q s H C cl fp).run pins s' σ H' Q I h⟩) hg1 (fun _ _ _ _ _ => pts_nil)
    (fun s H C cl fp => ⟨fun pins s' σ H' Q I ⟨q, i, j, d, e, hd, he', h⟩ => (he i j d e hd he' q s H C cl fp).run pins s' σ H' Q I h⟩) hs hs1) fun De σ H h => lc2_read htg htg1 hz σ H _ ⟨h.1, fun v H1 e1 p1 dv _ => h.2 _ H1 e1 ((h.1.mono e1 p1).set j dv)⟩
end
section
variable {X : Cx} {W : WX} {p : HD} {ρ : Rho} {c : PC} {tg : Expr}
theorem rn_lc {elt iter : Expr} {ifs : List Expr} {scope : Scope} {own : List (Str × Nat)} {xs : List D} {g : TG} {yn : Str} {py pos spos : Pos} (j : Nat) (b : Nat → Bool) (y : Nat → D) (cs cm : Nat → PC) (ρt : Nat → Rho) (nws : Nat → Bool) (hc : X.calm = true) (hN : X.N.Nodup) (hi : RI X W p ρ c tg iter xs (cs 0)) (ok : BlkOk X.N X.env.scope scope own)
    (hg : ∀ (s : Shared) (H : Hp) (C : Addr) (cl : List (Str × Addr)) (fp : List Addr), PG (X.blk s H scope (compEnvC scope cl C X.env) fp) tg g)
    (htg : ∀ i d, xs[i]? = some d → TgOk X.K g (own.map (·.2)) d (wipeR ρ (own.map (·.2))) (ρt i))
    (ht : ∀ i d, xs[i]? = some d → ∀ (q : HD) (s : Shared) (H : Hp) (C : Addr) (cl : List (Str × Addr)) (fp : List Addr), PTs (X.blk s H scope (compEnvC scope cl C X.env) fp) ifs (tT X.K Wf q (ρt i) (cs i) (.val (b i) (cm i))))
    (he : ∀ i d, xs[i]? = some d → b i = true → ∀ (q : HD) (s : Shared) (H : Hp) (C : Addr) (cl : List (Str × Addr)) (fp : List Addr), RE (X.blk s H scope (compEnvC scope cl C X.env) fp) Wf q (ρt i) (cm i) elt (.val (y i) (nws i) (cs (i + 1))))
    (hno : ∀ i d, xs[i]? = some d → b i = false → cs (i + 1) = cm i) (hz : xs.length ≤ 100000) (hy : X.N[j]? = some yn := by rfl) (hyl : X.env.scope.names.lookup yn = some .local := by rfl) (hsw : swapsWith (.ListComp elt [⟨tg, iter, ifs, 0⟩] scope pos) (some (.Name yn py)) spos.line X.env = pure true := by exact sw_true rfl rfl rfl (by decide +kernel))
    (hs : ∀ x, foldedSetIterable iter X.env x = pure x := by intro _; rfl) : RN X p ρ c (.Assign [.Name yn py] (.ListComp elt [⟨tg, iter, ifs, 0⟩] scope pos) spos) j (.lst ⟨false, true⟩ (coll b y xs.length)) (cs xs.length) :=
  ps_imp (ps_setLc (tt := ttU X.K xs b cs cm ρt) (te := teU X.K xs b y cs cm ρt nws) hc hN hy hyl hsw hi ok hg (fun s H C cl fp => ⟨fun pins s' σ H' Q I ⟨q, i, d, hd, h⟩ => (ht i d hd q s H C cl fp).run pins s' σ H' Q I h⟩)
    (fun s H C cl fp => ⟨fun pins s' σ H' Q I ⟨q, i, d, hd, hb, h⟩ => (he i d hd hb q s H C cl fp).run pins s' σ H' Q I h⟩) hs) fun De σ H h => lc_read htg hno hz σ H _ ⟨h.1, fun v H1 e1 p1 dv hn => h.2 _ H1 e1 p1 dv (hn rfl)⟩
end
end LA

namespace LA
open PySem PySem.Spec PyProof.Rows L2
/-! ### defs with default values -/
structure Def1D (P : Program) (w : World) (K : PySem.W.Frag) (mg : Str → Option Value) (base : Heap) (k : Nat) (x : Str) (ps : List Str) (R : FSpec) (dvs : List V) : Prop where
  ex : ∃ (f : Addr) (fd : FuncData) (ds : List Value), FnOk P w K mg base (L2.CX P w) k f fd ps (spF K R) ∧ mg x = some (.ref f) ∧ PySem.W.keepIn K (.ref f) = true ∧ Vals dvs ds ∧ Binds K fd ps ds
section
variable {X : Cx} {W : WX} {p : HD} {ρ : Rho} {c c1 c2 : PC} {e : Expr} {es : List Expr} {pos xp : Pos} {d : D} {nw : Bool} {k : Nat} {x : Str} {ps : List Str} {R : FSpec} {ds es' : List D} {o : EO} {dvs : List V}
theorem re_c1D (tk : Takes X W) (T : Def1D X.prog X.w X.K X.mg X.base k x ps R dvs) (hr : Room k X.A) (ha : RA X W p ρ c (e :: es) (.val ds c1)) (hd : ∀ q H, DVs X.K q H dvs es') (ho : R (ds ++ es') c1 o)
    (hg : Gl X x := by rfl) (hdb : (x == ("__debug__" : Str)) = false := by decide) (he : starEach (e :: es) X.env = (false, eval e X.env) :: starEach es X.env := by rfl) (hpl : (backTo pos (starEach es X.env)).any (·.1) = false := by rfl) :
    RE X W p ρ c (.Call (.Name x xp) (e :: es) [] pos) o := by
  obtain ⟨f, fd, us, G, hm, hk, hv, hb⟩ := T.ex
  exact pe_imp (pe_callSD G hr hg hm hk hb hv (fun σ => passAt tk σ) ha hdb he hpl) fun σ H Q h => ⟨tE_sr h, fun vs H1 e1 p1 dvs' => ⟨p, c1, ds ++ es', o, DVs.app dvs' (hd p H1), p1, ho, fo_at h e1⟩⟩
end
section
variable {P : Program} {w : World} {K : PySem.W.Frag} {mg : Str → Option Value} {base : Heap} {x qual : Str} {f : Addr} {fd : FuncData} {N ps : List Str} {k : Nat} {R : FSpec} {params : Arguments} {body : List Stmt} {scope : Scope} {dvs : List V} {kws : List (Str × V)}
theorem fn_excD (F : FunD K x qual params body scope dvs kws f fd) (S : FnScope N ps scope) (hl : ∀ ds c o, R ds c o → ds.length = ps.length)
    (bd : ∀ (cdv : Value) (A : Around) (outer : List Env) (s : Shared) (H : Hp) (E : XK), Room k (A.deeper (envOfC qual scope s.heap.objs.size f cdv)) → ∀ (p : HD) (ds : List D) (c : PC) (o : EO), R ds c o →
      Takes (cxOf (L2.CX P w) P w K mg base N qual scope f cdv A outer s H E) (fun cls d _ H => E cls d H) →
      BodyOk (cxOf (L2.CX P w) P w K mg base N qual scope f cdv A outer s H E) (fun cls d _ H => E cls d H) p (startR N ds) c body o) : FnOk P w K mg base (L2.CX P w) (k + 1) f fd ps (spF K R) := by
  refine F.ok S (fun vs H Q E h => spF_len hl h) (fun cdv A outer s H vs Q E hr h => ?_)
  obtain ⟨p, c, ds, o, h1, h2, h3, h4⟩ := h
  have b := bd cdv A outer s H E hr p ds c o h3 (takes_of rfl rfl rfl rfl)
  cases o with
  | val d nw c' =>
    rcases b with b | ⟨rfl, ρ', b⟩
    · exact ⟨_, b, sr_start h1 h2, fun v H1 e1 p1 dv hn => h4 v H1 e1 p1 dv hn⟩
    · exact ⟨_, b, sr_start h1 h2, fun σ' H1 e1 s1 => h4 .non H1 e1 s1.pl .non fun _ => New.sc (by intro a q; cases q)⟩
  | ex C fs c' => exact ⟨_, b, sr_start h1 h2, fun ρ' dx fv σ' H1 e1 s1 _ hx hf => h4 dx fv H1 e1 s1.pl hx hf⟩
end
end LA

namespace LA
open PySem PySem.Spec PyProof.Rows L2
section
variable {X : Cx} {W : WX} {p : HD} {ρ ρ' : Rho} {c c1 : PC} {e a : Expr} {pos : Pos} {d : D} {nw k : Bool} {K : PySem.W.Frag}
theorem re_not (h : RE X W p ρ c a (.val (.bl k) nw c1)) : RE X W p ρ c (.UnaryOp .Not a pos) (.val (.bl (!k)) true c1) :=
  pe_imp (pe_not h) fun σ H Q ⟨s, kk⟩ => ⟨s, fun v H1 e1 p1 dv _ => by
    cases dv
    exact ⟨k, rfl, kk _ H1 e1 p1 (.bl _) fun _ => New.sc (by intro a h; cases h)⟩⟩
theorem ov_neB {i j : Bool} : OV K p rNe (.bl i) (.bl j) (.bl (!decide (i = j))) true c := by
  have h := ov_neS (K := K) (p := p) (c := c) (x := .bl i) (y := .bl j) rfl rfl rfl
  rw [dec_v (f := V.bl) fun x y e => by cases e; rfl] at h
  exact h
/-! lists added, repeated -/
theorem ov_cat {g1 g2 : G} {xs ys : List D} (h1 : g1.t = true) (h2 : g2.t = true) (hz : xs.length + ys.length ≤ 100000) : OV K p rCat (.lst g1 xs) (.lst g2 ys) (.lst ⟨false, true⟩ (xs ++ ys)) true c := fun v u H Q dv du hp k => by
  cases dv with
  | lst hb hq r =>
    cases du with
    | lst hb2 hq2 r2 =>
      refine ⟨_, _, _, _, rfl, rfl, (hide_some (hb.2 h1)).1, (hide_some (hb2.2 h2)).1, by rw [r.length, r2.length]; exact sz_le hz, fun q hn => ?_⟩
      exact k _ _ (Ext.new hn) (hp.upd hn) (.lst ⟨(fun z => nomatch z), fun _ => hide_upd hp hn⟩ (.inl (.inl (hide_upd hp hn))) ((r.mono (Ext.new hn)).app (r2.mono (Ext.new hn)))) fun _ => New.lst hp hn (r.app r2)
theorem dvs_rep {H : Hp} {us : List V} {ds : List D} (h : DVs K p H us ds) : ∀ n : Nat, DVs K p H (List.replicate n us).flatten (List.replicate n ds).flatten
  | 0 => .nil
  | n + 1 => by
    rw [List.replicate_succ, List.replicate_succ, List.flatten_cons, List.flatten_cons]
    exact h.app (dvs_rep h n)
theorem ov_rep {g1 : G} {xs : List D} {n : Int} (h1 : g1.t = true) (hn0 : -100000 ≤ n) (hn1 : n ≤ 100000) (hz : xs.length * n.toNat ≤ 100000) : OV K p L2.rRep (.lst g1 xs) (.int n) (.lst ⟨false, true⟩ (List.replicate n.toNat xs).flatten) true c := fun v u H Q dv du hp k => by
  cases du
  cases dv with
  | lst hb hq r =>
    have e1 : (-(2 ^ 63) : Int) = -9223372036854775808 := by decide
    have e2 : (2 ^ 63 : Int) = 9223372036854775808 := by decide
    refine ⟨_, n, _, rfl, rfl, (hide_some (hb.2 h1)).1, by omega, by omega, by rw [r.length]; exact sz_le hz, fun q hn => ?_⟩
    exact k _ _ (Ext.new hn) (hp.upd hn) (.lst ⟨(fun z => nomatch z), fun _ => hide_upd hp hn⟩ (.inl (.inl (hide_upd hp hn))) ((dvs_rep r _).mono (Ext.new hn))) fun _ => New.lst hp hn (dvs_rep r _)
end
/-! isinstance -/
def isIntD : D → Bool
  | .int _ => true
  | .bl _ => true
  | _ => false
def isBlD : D → Bool
  | .bl _ => true
  | _ => false
theorem isi_int {d : D} {t : String} (h : tyD d = some t) : kitB t "int" = some (isIntD d) := by
  cases d <;> first | (cases h; done) | (cases h; first | exact (show kitB _ "int" = some false by decide +kernel) | exact (show kitB _ "int" = some true by decide +kernel))
theorem isi_bool {d : D} {t : String} (h : tyD d = some t) : kitB t "bool" = some (isBlD d) := by
  cases d <;> first | (cases h; done) | (cases h; first | exact (show kitB _ "bool" = some false by decide +kernel) | exact (show kitB _ "bool" = some true by decide +kernel))
/-! ### collected lists, more -/
theorem range_get {α : Type} (l : List Nat) (f : Nat → α) : (List.range l.length).map (fun i => f (l.getD i 0)) = l.map f := by
  refine List.ext_getElem? fun i => ?_
  by_cases hi : i < l.length
  · simp [hi, List.getElem?_range]
  · simp [hi]
theorem all_get (l : List Nat) (f : Nat → Bool) : ((List.range l.length).all fun i => f (l.getD i 0)) = l.all f := by
  have h := congrArg (fun x : List Bool => x.all id) (range_get l f)
  rw [List.all_map, List.all_map] at h
  exact h
theorem coll_none (b : Nat → Bool) (y : Nat → D) (n : Nat) : (coll b y n).isEmpty = (List.range n).all fun i => !b i := by
  rw [coll_some, List.isEmpty_map]
  induction (List.range n) with
  | nil => rfl
  | cons a r ih =>
    rw [List.filter_cons, List.all_cons]
    cases b a <;> simp [ih]
theorem coll_congr {b b' : Nat → Bool} {y : Nat → D} : ∀ {n : Nat}, (∀ i, i < n → b i = b' i) → coll b y n = coll b' y n
  | 0, _ => rfl
  | n + 1, h => by
    show coll b y n ++ (if b n then [y n] else []) = coll b' y n ++ (if b' n then [y n] else [])
    rw [coll_congr fun i hi => h i (by omega), h n (by omega)]
theorem ints_flat (b : Nat → Bool) (n : Nat) : (coll b (fun i => D.int (i : Nat)) n).all flatOk = true := by
  rw [coll_some, List.all_map, List.all_eq_true]
  intro i _
  rfl
/-! ### what raises within arguments -/
section
variable {X : Cx} {W : WX} {p : HD} {ρ : Rho} {c c1 : PC} {e : Expr} {es : List Expr} {pos ps : Pos} {C : Addr} {fs : List (Str × D)} {nw : Bool} {g : G} {xs : List D}
theorem ra_ex (h : RE X W p ρ c e (.ex C fs c1)) (hs : starEach (e :: es) X.env = (false, eval e X.env) :: starEach es X.env := by rfl) : RA X W p ρ c (e :: es) (.ex C fs c1) :=
  pa_imp (pa_cons h (⟨fun _ _ _ _ _ _ _ z => z.elim⟩ : PA X es (fun _ _ _ => False)) hs) fun σ H Q h => h
theorem re_callBX {id : String} {x : Str} {r : List V → Hp → VK → Prop} (hc : CallR X (.builtin id) r) (hm : X.mg x = none) (hv : bootBuiltins x = some (.builtin id)) (ha : RA X W p ρ c (e :: es) (.ex C fs c1))
    (hg : Gl X x := by rfl) (hn : x ≠ "__name__" := by decide) (hdb : (x == ("__debug__" : Str)) = false := by decide)
    (he : starEach (e :: es) X.env = (false, eval e X.env) :: starEach es X.env := by rfl) (hpl : (backTo pos (starEach es X.env)).any (·.1) = false := by rfl) : RE X W p ρ c (.Call (.Name x ps) (e :: es) [] pos) (.ex C fs c1) :=
  pe_imp (pe_callB hc hg hm hv ha hn hdb he hpl) fun σ H Q h => h
/-- a list of which no more is told than that it may be written -/
theorem re_dull (h : RE X W p ρ c e (.val (.lst g xs) nw c1)) : RE X W p ρ c e (.val (.lst ⟨false, g.t⟩ xs) nw c1) := pe_imp h fun σ H Q ⟨s, k⟩ => ⟨s, fun v H1 e1 p1 dv hn => k v H1 e1 p1 (by
  cases dv with
  | lst hb hq r => exact .lst ⟨(fun z => nomatch z), hb.2⟩ hq r) fun q => (hn q).g⟩
end
/-! ### defs whose guards are in view -/
structure FnG (P : Program) (w : World) (K : PySem.W.Frag) (mg : Str → Option Value) (base : Heap) (k : Nat) (f : Addr) (fd : FuncData) (ps : List Str) (sp : Sp) : Prop where
  len : ∀ (vs : List V) (Hs : Hp) (R : VK) (Ex : XK), sp vs Hs R Ex → vs.length = ps.length
  run : ∀ (pl : Around) (up : List Env) (sh : Shared) (Hs : Hp) (ag : Args) (us : List Value) (vs : List V) (R : VK), pl.guards = some [] → Room k pl → Env0 P w K mg base pl up sh Hs → BindsTo sh fd ag (ps.zip us) → Vals vs us → sp vs Hs R E0 →
    codeAny (model P w) pl (.call (.ref f) ag) (CR CX0 up P w Hs sh R E0) sh
structure DefG (P : Program) (w : World) (K : PySem.W.Frag) (mg : Str → Option Value) (base : Heap) (k : Nat) (x : Str) (ps : List Str) (R : FSpec) : Prop where
  ex : ∃ (f : Addr) (fd : FuncData), FnG P w K mg base k f fd ps (spF K R) ∧ mg x = some (.ref f) ∧ PySem.W.keepIn K (.ref f) = true ∧ Binds K fd ps []
section
variable {P : Program} {w : World} {K : PySem.W.Frag} {mg : Str → Option Value} {base : Heap} {x qual : Str} {st : Stmt} {f : Addr} {fd : FuncData} {N ps : List Str} {k : Nat} {R : FSpec}
theorem fn_g (F : Fun K x qual st f fd) (S : FnScope N ps (defScope st)) (hl : ∀ ds c o, R ds c o → ds.length = ps.length) (hv : ∀ ds c o, R ds c o → ∃ d nw c', o = .val d nw c')
    (body : ∀ (cdv : Value) (A : Around) (outer : List Env) (s : Shared) (H : Hp), A.guards = some [] → Room k (A.deeper (envOfC qual (defScope st) s.heap.objs.size f cdv)) → ∀ (p : HD) (ds : List D) (c : PC) (o : EO), R ds c o →
      BodyOk (cxOf CX0 P w K mg base N qual (defScope st) f cdv A outer s H E0).nox Wf p (startR N ds) c (defBody st) o) : FnG P w K mg base (k + 1) f fd ps (spF K R) := by
  refine ⟨fun vs Hs Q Ex h => spF_len hl h, fun pl up sh Hs ag us vs Q gu room e0 bind rv h => ?_⟩
  refine call_at F S room e0 bind rv (spF_len hl h) fun cdv hr => ?_
  obtain ⟨p, c, ds, o, h1, h2, h3, h4⟩ := h
  have b := body cdv pl up sh Hs gu hr p ds c o h3
  obtain ⟨d, nw, c', rfl⟩ := hv _ _ _ h3
  rcases b with b | ⟨rfl, ρ', b⟩
  · exact ⟨_, b.nox, sr_start h1 h2, fun v H1 e1 p1 dv hn => h4 v H1 e1 p1 dv hn⟩
  · exact ⟨_, b.nox, sr_start h1 h2, fun σ' H1 e1 s1 => h4 .non H1 e1 s1.pl .non fun _ => New.sc (by intro a q; cases q)⟩
end
section
variable {X : Cx} {W : WX} {p : HD} {ρ : Rho} {c c1 c2 : PC} {e : Expr} {es : List Expr} {pos xp : Pos} {d : D} {nw : Bool} {k : Nat} {x : Str} {ps : List Str} {R : FSpec} {ds : List D}
theorem re_cG (T : DefG X.prog X.w X.K X.mg X.base k x ps R) (hr : Room k X.A) (gu : X.A.guards = some []) (ha : RA X W p ρ c (e :: es) (.val ds c1)) (ho : R ds c1 (.val d nw c2))
    (hg : Gl X x := by rfl) (hdb : (x == ("__debug__" : Str)) = false := by decide) (he : starEach (e :: es) X.env = (false, eval e X.env) :: starEach es X.env := by rfl) (hpl : (backTo pos (starEach es X.env)).any (·.1) = false := by rfl) :
    RE X W p ρ c (.Call (.Name x xp) (e :: es) [] pos) (.val d nw c2) := by
  obtain ⟨f, fd, F, hm, hk, hb⟩ := T.ex
  have P1 : PE X (.Call (.Name x xp) (e :: es) [] pos) (fun σ H Q => tA X.K W p ρ c (.val ds c1) σ H fun vs H1 => spF X.K R vs H1 Q E0) := by
    refine ⟨fun pins s σ H Q I h => ?_⟩
    refine wpAny_Call_Name_kw (ld_glob I hg hm ?_ hdb)
    refine PySem.W.callWith_K (h₀ := X.base) I.ok.mod.kin hk (thn (ha.run pos pins s σ H _ I h) fun us sh ⟨vs, H1, I1, r, q⟩ => ⟨I1.kIn, ?_⟩) he hpl
    have bd := hb sh us I1.kIn (by rw [List.append_nil, ← r.length]; exact F.len _ _ _ _ q)
    rw [List.append_nil] at bd
    refine wpAny_call (codeAny_mono (F.run X.A X.stack sh H1 ⟨us, []⟩ us vs Q gu hr I1.env0 bd r q) fun rs s' hq => ?_)
    cases rs with
    | error ev =>
      exact False.elim hq
    | ok fl =>
      cases fl with
      | ret u => exact I1.after hq
      | next => exact False.elim hq
      | brk => exact False.elim hq
      | cont => exact False.elim hq
  exact pe_imp P1 fun σ H Q ⟨s, kk⟩ => ⟨s, fun vs H1 e1 p1 dvs => ⟨p, c1, ds, .val d nw c2, dvs, p1, ho, fun v H2 e2 p2 dv hn => kk v H2 (e1.trans e2) p2 dv fun q => (hn q).back e1⟩⟩
end
section
variable {X : Cx} {W : WX} {p : HD} {ρ : Rho} {c c1 c2 : PC} {a b cc : Expr} {pos : Pos} {d1 d2 d3 : D} {n1 n2 n3 : Bool}
theorem rt_chain {op op' : CmpOp} {r r' : R2} {k1 k2 : Bool} (ho : OpR X (compareOp op) r) (ho' : OpR X (compareOp op') r') (ha : RE X W p ρ c a (.val d1 n1 c1)) (hb : RE X W p ρ c1 b (.val d2 n2 c2)) (hc : RE X W p ρ c2 cc (.val d3 n3 c2)) (h1 : OV X.K p r d1 d2 (.bl k1) true c2) (h2 : OV X.K p r' d2 d3 (.bl k2) true c2)
    (hm : lastMarks [op, op'] [b, cc] = false := by with_unfolding_all rfl) : RT X W p ρ c (.Compare a [op, op'] [b, cc] pos) (.val (k1 && k2) c2) :=
  pt_imp (pt_chain ho ho' ha hb hc hm) fun σ H Q ⟨s, k⟩ => ⟨s, fun v H1 e1 p1 dv _ => ⟨s.mono e1 p1, fun u H2 e2 p2 du _ => h1 v u H2 _ (dv.mono e2) du p2 fun w H3 e3 p3 dw _ => by
    cases dw
    refine ⟨k1, rfl, ?_⟩
    have e13 : Ext p H H3 := (e1.trans e2).trans e3
    cases k1 with
    | false => exact iteF ⟨false, rfl, k H3 e13 p3⟩
    | true => exact iteT ⟨s.mono e13 p3, fun w H4 e4 p4 dw _ => h2 u w H4 _ (du.mono (e3.trans e4)) dw p4 fun z H5 e5 p5 dz _ => by
        cases dz
        exact ⟨k2, rfl, k H5 ((e13.trans e4).trans e5) p5⟩⟩⟩⟩
end
/-! ### longer lists shown -/
theorem sz_big {d : PyData} (h1 : d.canLay0 = true) (h2 : PyData.intsShort 13 d = true) (h3 : d.weight ≤ 1000000) : d.shown.length ≤ sizeLine := by
  have h := PyData.shown_le 13 (by decide) d (PyData.leavesShort_of_canLay0 13 d h1 h2)
  have e : sizeLine = 16777216 := by decide
  omega
theorem shows_big {g : G} {ds : List D} (h : ds.all smallD = true) (hl : ds.length ≤ 5000) : Shows (.lst g ds) := by
  obtain ⟨b1, b2, b3, b4, b5, b6, b7⟩ := small_all h
  refine ⟨?_, ?_, ?_, sz_big ?_ ?_ ?_⟩
  · unfold toPy PyData.hasDict okD
    rw [b7, b1]
    simp
  · unfold toPy PyData.showable
    exact b2
  · unfold toPy PyData.depth
    omega
  · unfold toPy PyData.canLay0
    exact b3
  · unfold toPy PyData.intsShort
    exact b4
  · unfold toPy PyData.weight
    omega
theorem small_text {l : List Nat} (hl : l.length ≤ 100) (h : ∀ n ∈ l, n < 0x110000) : smallD (.str (tx l)) = true := by
  have ok : PyData.strOk (tx l) = true := by
    unfold PyData.strOk
    rw [← Array.all_toList, tx_list, List.all_eq_true]
    intro n hn
    exact decide_eq_true (h n hn)
  show (PyData.strOk (tx l) && decide ((tx l).length ≤ 100)) = true
  rw [ok, tx_len, decide_eq_true hl]
  rfl
end LA

namespace LA
open PySem PySem.Spec PyProof.Rows L2
/-! ### slices -/
section
variable {X : Cx} {W : WX} {p : HD} {ρ : Rho} {c c1 c2 c3 : PC} {e : Expr} {lo hi : Option Expr} {pos p2 : Pos} {n1 n2 nw : Bool} {i : Int} {ol oh : Option Int} {K : PySem.W.Frag} {g : G} {xs : List D}
def tPt (K : PySem.W.Frag) (p : HD) (ρ : Rho) (c : PC) (oi : Option Int) (c' : PC) : L2.TO := fun σ H R => SR K p H σ ρ c ∧ ∀ H', Ext p H H' → PoolAt K p H' c' → R oi H'
abbrev RP (X : Cx) (p : HD) (ρ : Rho) (c : PC) (o : Option Expr) (oi : Option Int) (c' : PC) : Prop := PO X o (tPt X.K p ρ c oi c')
theorem po_imp {o : Option Expr} {t t' : L2.TO} (h : PO X o t) (w : ∀ σ H Q, t' σ H Q → t σ H Q) : PO X o t' := ⟨fun pins s σ H Q I q => h.run pins s σ H Q I (w σ H Q q)⟩
theorem rp_none : RP X p ρ c none none c := po_imp po_none fun σ H R ⟨s, k⟩ => k H (Ext.refl _ _) s.pl
theorem rp_some (h : RE X W p ρ c e (.val (.int i) nw c1)) : RP X p ρ c (some e) (some i) c1 := po_imp (po_some h) fun σ H R ⟨s, k⟩ => ⟨s, fun v H1 e1 p1 dv _ => by
  cases dv
  exact ⟨i, rfl, k H1 e1 p1⟩⟩
theorem re_slS {z : Str} (he : RE X W p ρ c e (.val (.str z) n1 c1)) (hl : RP X p ρ c1 lo ol c2) (hh : RP X p ρ c2 hi oh c3) (hz : z.length ≤ sizeLine) : RE X W p ρ c (.Subscript e (.Slice lo hi none p2) pos) (.val (.str (cutS z ol oh)) true c3) :=
  pe_imp (pe_slice sl_str he hl hh) fun σ H Q ⟨s, k⟩ => ⟨s, fun v H1 e1 p1 dv _ => ⟨s.mono e1 p1, fun H2 e2 q2 => ⟨s.mono (e1.trans e2) q2, fun H3 e3 q3 => by
    cases dv
    exact ⟨z, rfl, hz, k _ H3 ((e1.trans e2).trans e3) q3 (.str _) fun _ => New.sc (by intro a h; cases h)⟩⟩⟩⟩
def cutD (xs : List D) (lo hi : Option Int) : List D := (xs.drop (HT.sIx xs.length 0 lo)).take (HT.sIx xs.length xs.length hi - HT.sIx xs.length 0 lo)
theorem dvs_drop {H : Hp} : ∀ (n : Nat) {us : List V} {ds : List D}, DVs K p H us ds → DVs K p H (us.drop n) (ds.drop n)
  | 0, _, _, h => h
  | n + 1, _, _, .nil => .nil
  | n + 1, _, _, .cons _ r => dvs_drop n r
theorem dvs_take {H : Hp} : ∀ (n : Nat) {us : List V} {ds : List D}, DVs K p H us ds → DVs K p H (us.take n) (ds.take n)
  | 0, _, _, _ => by simp only [List.take_zero]; exact .nil
  | n + 1, _, _, .nil => .nil
  | n + 1, _, _, .cons h r => .cons h (dvs_take n r)
theorem re_slL (he : RE X W p ρ c e (.val (.lst g xs) n1 c1)) (hl : RP X p ρ c1 lo ol c2) (hh : RP X p ρ c2 hi oh c3) : RE X W p ρ c (.Subscript e (.Slice lo hi none p2) pos) (.val (.lst ⟨false, true⟩ (cutD xs ol oh)) true c3) :=
  pe_imp (pe_slice sl_list he hl hh) fun σ H Q ⟨s, k⟩ => ⟨s, fun v H1 e1 p1 dv _ => ⟨s.mono e1 p1, fun H2 e2 q2 => ⟨s.mono (e1.trans e2) q2, fun H3 e3 q3 => by
    cases (dv.mono e2).mono e3 with
    | @lst a0 ys _ _ hb hq r =>
      refine ⟨_, _, rfl, un_sqL hq, fun a na => ?_⟩
      have e4 := (e1.trans e2).trans e3
      have key : DVs X.K p H3 (cutV ys ol oh) (cutD xs ol oh) := by
        unfold cutV cutD
        rw [r.length]
        exact dvs_take _ (dvs_drop _ r)
      exact k _ _ (e4.trans (Ext.new na)) (q3.upd na) (.lst ⟨(fun z => nomatch z), fun _ => hide_upd q3 na⟩ (.inl (.inl (hide_upd q3 na))) (key.mono (Ext.new na))) fun _ => (New.lst q3 na key).back e4⟩⟩⟩
end
/-! ### texts and numbers, tuples of lists -/
section
variable {K : PySem.W.Frag} {p : HD} {c : PC}
theorem cv_strI {i : Int} (h : i.natAbs.log2 < 1920) : CV K p (fun xs H Q => ∃ i, xs = [.int i] ∧ i.natAbs.log2 < 1920 ∧ Q (.str (toString i)) H) [.int i] (.str (toString i)) true c := fun vs H Q dvs hp k => by
  cases dvs with
  | cons h1 r =>
    cases r
    cases h1
    exact ⟨i, rfl, h, k _ H (Ext.refl p H) hp (.str _) fun _ => New.sc (by intro a h; cases h)⟩
theorem cv_intS {z : Str} {n : Int} (h : PySem.intText? z = some n) (hz : z.length ≤ 640) : CV K p (fun xs H Q => ∃ a n, xs = [.str a] ∧ PySem.intText? a = some n ∧ a.length ≤ 640 ∧ Q (.int n) H) [.str z] (.int n) true c := fun vs H Q dvs hp k => by
  cases dvs with
  | cons h1 r =>
    cases r
    cases h1
    exact ⟨z, n, rfl, h, hz, k _ H (Ext.refl p H) hp (.int _) fun _ => New.sc (by intro a h; cases h)⟩
theorem cv_tupL {g : G} {xs : List D} : CV K p (fun xs H Q => ∃ p ys, xs = [.ref p] ∧ ((SqL K H p ys ∧ ∀ l, H l = none → Q (.ref l) (upd H l (.tup ys))) ∨ (SqT K H p ys ∧ Q (.ref p) H))) [.lst g xs] (.tup xs) true c := fun vs H Q dvs hp k => by
  cases dvs with
  | cons h1 r =>
    cases r
    cases h1 with
    | lst hb hq ha =>
      exact ⟨_, _, rfl, .inl ⟨un_sqL hq, fun l nl => k _ _ (Ext.new nl) (hp.upd nl) (.tup (.inl (.inl (hide_upd hp nl))) (ha.mono (Ext.new nl))) fun _ => New.oth hp nl (by intro _ _ z; cases z)⟩⟩
/-- x in a list of flat items -/
theorem ov_inL {g : G} {x : D} {ds : List D} {v : V} {xs : List V} {neg : Bool} (hx : scD x = some v) (hs : ds.map scD = xs.map some) (fx : flatV v = true) (fs : xs.all flatV = true) :
    OV K p (rIn K neg) x (.lst g ds) (.bl (if neg then !inV v xs else inV v xs)) true c := fun v' u' H Q dv du hp k => by
  have e1 := dv_sc dv hx
  subst e1
  cases du with
  | lst hb h r =>
    have e2 := dvs_sc r hs
    subst e2
    exact ⟨_, _, rfl, .inl (un_sqL h), fx, fs, k _ H (Ext.refl p H) hp (.bl _) fun _ => New.sc (by intro a h; cases h)⟩
end
end LA
namespace LA
open PySem PySem.Spec PyProof.Rows L2
/-! ### isinstance by one of two types -/
section
variable {X : Cx} {W : WX} {p : HD} {ρ : Rho} {c c1 : PC} {e : Expr} {pos ps tp q1 q2 : Pos} {d : D} {nw b : Bool} {x1 x2 : Str} {t1 t2 t : String} {kk : Nat}
theorem re_isiT (hm : X.mg "isinstance" = none) (he : RE X W p ρ c e (.val d nw c1)) (h1 : X.mg x1 = none) (h2 : X.mg x2 = none) (b1 : bootBuiltins x1 = some (.type t1)) (b2 : bootBuiltins x2 = some (.type t2)) (ht : tyD d = some t) (hk : PySem.W.kitAny X.K (.type t) [.type t1, .type t2] = some b)
    (hg : Gl X "isinstance" := by rfl) (g1 : Gl X x1 := by rfl) (g2 : Gl X x2 := by rfl) (n1 : x1 ≠ "__name__" := by decide) (n2 : x2 ≠ "__name__" := by decide) (z1 : (x1 == ("__debug__" : Str)) = false := by decide) (z2 : (x2 == ("__debug__" : Str)) = false := by decide)
    (s0 : starEach [e, .Tuple [.Name x1 q1, .Name x2 q2] kk tp] X.env = (false, eval e X.env) :: starEach [.Tuple [.Name x1 q1, .Name x2 q2] kk tp] X.env := by rfl) (s1 : starEach [.Tuple [.Name x1 q1, .Name x2 q2] kk tp] X.env = (false, eval (.Tuple [.Name x1 q1, .Name x2 q2] kk tp) X.env) :: starEach [] X.env := by rfl)
    (s2 : starEach [.Name x1 q1, .Name x2 q2] X.env = (false, eval (.Name x1 q1) X.env) :: starEach [.Name x2 q2] X.env := by rfl) (s3 : starEach [.Name x2 q2] X.env = (false, eval (.Name x2 q2) X.env) :: starEach [] X.env := by rfl) (hpl : (backTo pos (starEach [.Tuple [.Name x1 q1, .Name x2 q2] kk tp] X.env)).any (·.1) = false := by rfl) :
    RE X W p ρ c (.Call (.Name "isinstance" ps) [e, .Tuple [.Name x1 q1, .Name x2 q2] kk tp] [] pos) (.val (.bl b) true c1) :=
  pe_imp (pe_callB call_isiT hg hm PyProof.Rows.boot_isinstance (pa_cons he (pa_cons (pe_tup (pa_cons (pe_bltn (v := .ty t1) g1 h1 b1 rfl n1 z1) (pa_cons (pe_bltn (v := .ty t2) g2 h2 b2 rfl n2 z2) (pa_nil (X := X)) s3) s2)) (pa_nil (X := X)) s1) s0) (by decide) (by decide) s0 hpl) fun σ H Q ⟨s, k⟩ => ⟨s, fun v H1 e1 p1 dv _ => ⟨by show 2 ≤ sizeLine; decide, fun a na =>
    ⟨v, a, _, _, _, b, rfl, upd_same, .cons (.ty t1) (.cons (.ty t2) .nil), tyx_of (dv.mono (Ext.new na)) ht, hk, k _ _ (e1.trans (Ext.new na)) (p1.upd na) (.bl b) fun _ => New.sc (by intro a h; cases h)⟩⟩⟩
end
end LA

namespace LA
open PySem PySem.Spec PyProof.Rows L2
/-! ### how many different ints -/
def difN (ns : List Int) (i : Nat) : Nat := (firstMet (fun i => ns.getD i 0) i).length
def dupAt (ns : List Int) (k : Nat) : Bool := (List.range k).any fun j => ns.getD j 0 == ns.getD k 0
theorem any_mem {l : List Int} {k : Int} : l.any (· == k) = true ↔ k ∈ l := by
  rw [List.any_eq_true]
  constructor
  · rintro ⟨x, h1, h2⟩
    rw [← eq_of_beq h2]
    exact h1
  · intro h
    exact ⟨k, h, beq_self_eq_true k⟩
theorem dif_succ (ns : List Int) (i : Nat) : difN ns (i + 1) = difN ns i + if dupAt ns i then 0 else 1 := by
  unfold difN
  rw [firstMet_succ]
  unfold step_dedup
  have e : (firstMet (fun i => ns.getD i 0) i).any (· == ns.getD i 0) = dupAt ns i := by
    rw [firstMet_any, List.any_map]
    rfl
  cases h : dupAt ns i with
  | true =>
    rw [h] at e
    rw [if_pos e]
    simp
  | false =>
    rw [h] at e
    rw [if_neg (by rw [e]; exact Bool.false_ne_true), List.length_append]
    simp
theorem dif_le (ns : List Int) (i : Nat) : difN ns i ≤ i := firstMet_length_le _ i
theorem dif_eq (ns : List Int) : ∀ i, difN ns i = i ↔ ∀ k, k < i → dupAt ns k = false
  | 0 => ⟨fun _ k h => absurd h (Nat.not_lt_zero k), fun _ => rfl⟩
  | i + 1 => by
    have ih := dif_eq ns i
    have le := dif_le ns i
    rw [dif_succ]
    constructor
    · intro h k hk
      by_cases hd : dupAt ns i = true
      · rw [if_pos hd] at h
        omega
      · rw [if_neg hd] at h
        by_cases e : k = i
        · rw [e]
          exact Bool.eq_false_iff.mpr hd
        · exact ih.mp (by omega) k (by omega)
    · intro h
      have h1 := ih.mpr fun k hk => h k (by omega)
      have h2 := h i (by omega)
      rw [h2, h1]
      rfl
theorem first_nodup (val : Nat → Int) : ∀ i, (firstMet val i).Nodup
  | 0 => List.nodup_nil
  | i + 1 => by
    rw [firstMet_succ]
    unfold step_dedup
    split
    · exact first_nodup val i
    · rename_i h
      rw [List.nodup_append]
      refine ⟨first_nodup val i, by simp, fun x hx y hy => ?_⟩
      rw [List.mem_singleton.mp hy]
      intro z
      exact h (any_mem.mpr (by rw [← z]; exact hx))
theorem first_mem {ns : List Int} {k : Int} : k ∈ firstMet (fun i => ns.getD i 0) ns.length ↔ k ∈ ns := by
  rw [← any_mem, firstMet_any, any_mem]
  have e : (List.range ns.length).map (fun i => ns.getD i 0) = ns := by
    refine List.ext_getElem? fun i => ?_
    by_cases hi : i < ns.length
    · rw [List.getElem?_map, List.getElem?_range hi, List.getElem?_eq_getElem hi]
      show some (ns.getD i 0) = _
      rw [List.getD_eq_getElem?_getD, List.getElem?_eq_getElem hi]
      rfl
    · rw [List.getElem?_eq_none (by simpa using hi), List.getElem?_eq_none (by omega)]
  rw [e]
section
variable {X : Cx} {W : WX} {p : HD} {ρ : Rho} {c c1 : PC} {a e tg : Expr} {pos p1 p2 q : Pos} {d : D} {nw : Bool} {ns : List Int} {K : PySem.W.Frag}
theorem of_ints {H : Hp} : ∀ {vs : List V} {ns : List Int}, DVs K p H vs (ns.map D.int) → vs = ns.map V.int
  | _, [], .nil => rfl
  | _, n :: r, .cons h t => by
    cases h
    rw [of_ints t]
    rfl
def isSeqOf (d : D) (ds : List D) : Prop := (∃ g, d = .lst g ds) ∨ d = .tup ds
def tLenSet (K : PySem.W.Frag) (ta : TE) : TE := fun σ H Q => ta σ H fun x H1 => ∃ (l : Addr) (ns : List Int), x = V.ref l ∧ (SqL K H1 l (ns.map V.int) ∨ SqT K H1 l (ns.map V.int)) ∧ ns.length < 64 ∧ Q (.int (difN ns ns.length : Nat)) H1
theorem pe_lenSet' {ta : TE} (hc : X.calm = true) (hg : Gl X "len") (hm : X.mg "len" = none) (hg2 : Gl X "set") (hm2 : X.mg "set" = none) (ha : PE X a ta)
    (na : starEach [a] X.env = (false, eval a X.env) :: starEach [] X.env := by rfl) : PE X (.Call (.Name "len" p1) [.Call (.Name "set" p2) [a] [] q] [] pos) (tLenSet X.K ta) := by
  refine ⟨fun pins s σ H Q I h => ?_⟩
  refine Call_ (ld_blt I hg hm PySem.boot_len ?_)
  refine PyProof.Rows.callWith_builtin1 (PyProof.Rows.args_cons ?_ rfl) rfl rfl
  refine Call_ (ld_blt I hg2 hm2 PyProof.Rows.boot_set ?_)
  refine PyProof.Rows.callWith_type1 (PyProof.Rows.args_cons (thn (ha.run pins s σ H _ I h) fun v s1 ⟨x, H1, I1, r1, q1⟩ => PyProof.Rows.args_nil ?_) na) na rfl
  obtain ⟨l, ns, rfl, hq, h1, q1⟩ := q1
  cases r1
  rcases hq with hq | hq
  · obtain ⟨its, r, pl, hz⟩ := I1.list hq
    have hl : its.toArray.size = ns.length := by rw [List.size_toArray, ← r.length, List.length_map]
    refine call_set_list (I1.ok.hd hc) pl.isList (ns := ns) (by simpa using r.ints) (by unfold scanBound; omega) fun h' tk hS hk => ?_
    rw [hl] at hS
    refine PyProof.Rows.args_nil ?_
    obtain ⟨o, es, ep, t, ho, hex, hd, _, _, _, hf, hn⟩ := hS
    have I2 : Inv X pins σ H1 { s1 with heap := h', toks := tk } := I1.kept fun b o e => hk b o (Heap.lt_size e) e
    have hn' : es.size = difN ns ns.length := hn
    have hle := dif_le ns ns.length
    refine call_len_set ho hex hd hf (by omega) ⟨.int (difN ns ns.length : Nat), H1, I2.tok _, ⟨_, by rw [hn']⟩, q1⟩
  · obtain ⟨its, rv, pt, hz⟩ := I1.tuple hq
    have hi : IntsAre its.toArray.toList ns := ints_of_vals rv
    have hd := I1.ok.hd hc
    refine call_set_tupI ns hd (show s1.heap.IsTuple l its.toArray from pt) hi (by unfold scanBound; omega) fun h' tk c R1 hcn k => ?_
    refine PyProof.Rows.args_nil ?_
    obtain ⟨o, es, ep, t, ho, hex, hdt, g, nd, hm3, hb, hf, hn, hr, hl2⟩ := R1
    have I2 : Inv X pins σ H1 { s1 with heap := h', toks := tk } := I1.kept fun b o e => k b o e
    have hn' : es.size = difN ns ns.length := by
      have pm : (es.toList.map keyOf).Perm (firstMet (fun i => ns.getD i 0) ns.length) := (List.perm_ext_iff_of_nodup nd (first_nodup _ _)).mpr fun k => by
        rw [first_mem, ← hm3 k, decide_eq_true_eq]
      have := pm.length_eq
      rw [List.length_map, Array.length_toList] at this
      exact this
    have hle := dif_le ns ns.length
    refine call_len_set ho hex hdt hf (by omega) ⟨.int (difN ns ns.length : Nat), H1, I2.tok _, ⟨_, by rw [hn']⟩, q1⟩
theorem re_lenSet (hc : X.calm = true) (hm : X.mg "len" = none) (hm2 : X.mg "set" = none) (ha : RE X W p ρ c a (.val d nw c1)) (hd : isSeqOf d (ns.map D.int)) (hl : ns.length < 64) {m : Nat} (hlm : ns.length = m) (hg : Gl X "len" := by rfl) (hg2 : Gl X "set" := by rfl)
    (na : starEach [a] X.env = (false, eval a X.env) :: starEach [] X.env := by rfl) : RE X W p ρ c (.Call (.Name "len" p1) [.Call (.Name "set" p2) [a] [] q] [] pos) (.val (.int (difN ns m : Nat)) true c1) := by
  subst hlm
  exact pe_imp (pe_lenSet' hc hg hm hg2 hm2 ha na) fun σ H Q ⟨s, k⟩ => ⟨s, fun v H1 e1 p1 dv _ => by
    have kk := k (.int (difN ns ns.length : Nat)) H1 e1 p1 (.int _) fun _ => New.sc (by intro a h; cases h)
    rcases hd with ⟨g, rfl⟩ | rfl
    · cases dv with
      | @lst a vs _ _ hb hq r =>
        rw [of_ints r] at hq
        exact ⟨a, ns, rfl, .inl (un_sqL hq), hl, kk⟩
    · cases dv with
      | @tup a vs _ hq r =>
        rw [of_ints r] at hq
        exact ⟨a, ns, rfl, .inr (un_sqT hq), hl, kk⟩⟩
/-! ### walks over tuples -/
theorem ri_tup {xs : List D} (h : RE X W p ρ c e (.val (.tup xs) nw c1)) : RI X W p ρ c tg e xs c1 :=
  pi_imp (pi_tup h) fun σ H R ⟨s, k⟩ => ⟨s, fun v H1 e1 p1 dv _ => by
    cases dv with
    | @tup a vs _ hq r =>
      refine ⟨a, rfl, ⟨vs, un_sqT hq⟩, k _ H1 e1 p1 fun q c' H2 qe qs p2 => ?_⟩
      have hq2 : SqT X.K H2 a vs := un_sqT (qs.sqT hq)
      refine ⟨⟨vs, hq2, Nat.le_of_eq r.length⟩, fun i d hd => ?_⟩
      obtain ⟨v, h1, h2⟩ := r.get hd
      refine ⟨⟨vs, v, hq2, h1⟩, fun x H3 y => ?_⟩
      obtain ⟨rfl, h3⟩ := y
      have e' : x = v := Option.some.inj ((h3 vs hq2).symm.trans h1)
      subst e'
      exact ⟨Ext.refl _ _, p2, h2.sub qs (fun i a z => by rw [qe]; exact z)⟩⟩
end
end LA

namespace LA
open PySem PySem.Spec PyProof.Rows L2
/-! ### what repr asks, of lists of lists -/
structure Tiny (w k : Nat) (d : D) : Prop where
  ok : okD false d = true
  sh : (toPy d).showable = true
  lay : (toPy d).canLay0 = true
  ish : PyData.intsShort 13 (toPy d) = true
  wt : (toPy d).weight ≤ w
  dp : (toPy d).depth ≤ k
  nd : (toPy d).hasDict = false
theorem tiny_small {d : D} (h : smallD d = true) : Tiny 100 0 d := by
  obtain ⟨a1, a2, a3, a4, a5, a6, a7⟩ := small_one h
  exact ⟨a1, a2, a3, a4, a5, Nat.le_of_eq a6, a7⟩
theorem Tiny.up {w k w' k' : Nat} {d : D} (h : Tiny w k d) (h1 : w ≤ w') (h2 : k ≤ k') : Tiny w' k' d := ⟨h.ok, h.sh, h.lay, h.ish, Nat.le_trans h.wt h1, Nat.le_trans h.dp h2, h.nd⟩
theorem tiny_all {w k : Nat} : ∀ {ds : List D}, (∀ d ∈ ds, Tiny w k d) → okDs false ds = true ∧ PyData.showableAll (toPys ds) = true ∧ PyData.canLayAll0 (toPys ds) = true ∧ PyData.intsShortAll 13 (toPys ds) = true ∧ PyData.weightAll (toPys ds) ≤ (w + 1) * ds.length ∧ PyData.depthAll (toPys ds) ≤ k ∧ PyData.hasDictAll (toPys ds) = false
  | [], _ => ⟨rfl, by unfold toPys; decide +kernel, by unfold toPys; decide +kernel, by unfold toPys; decide +kernel, by unfold toPys PyData.weightAll; omega, by unfold toPys PyData.depthAll; omega, by unfold toPys; decide +kernel⟩
  | d :: r, h => by
    obtain ⟨a1, a2, a3, a4, a5, a6, a7⟩ := h d List.mem_cons_self
    obtain ⟨b1, b2, b3, b4, b5, b6, b7⟩ := tiny_all (ds := r) fun x m => h x (List.mem_cons_of_mem _ m)
    unfold okDs toPys PyData.showableAll PyData.canLayAll0 PyData.intsShortAll PyData.weightAll PyData.depthAll PyData.hasDictAll
    rw [a1, a2, a3, a4, a7, b1, b2, b3, b4, b7, List.length_cons]
    refine ⟨rfl, rfl, rfl, rfl, ?_, ?_, rfl⟩
    · rw [Nat.mul_add, Nat.mul_one]
      omega
    · omega
theorem Tiny.lst {w k n : Nat} {g : G} {ds : List D} (h : ∀ d ∈ ds, Tiny w k d) (hl : ds.length ≤ n) : Tiny ((w + 1) * n + 10) (k + 1) (.lst g ds) := by
  obtain ⟨b1, b2, b3, b4, b5, b6, b7⟩ := tiny_all h
  have hm : (w + 1) * ds.length ≤ (w + 1) * n := Nat.mul_le_mul_left _ hl
  refine ⟨?_, ?_, ?_, ?_, ?_, ?_, ?_⟩
  · unfold okD
    rw [b1]
    simp
  · unfold toPy PyData.showable
    exact b2
  · unfold toPy PyData.canLay0
    exact b3
  · unfold toPy PyData.intsShort
    exact b4
  · unfold toPy PyData.weight
    omega
  · unfold toPy PyData.depth
    omega
  · unfold toPy PyData.hasDict
    exact b7
theorem Tiny.tup {w k n : Nat} {ds : List D} (h : ∀ d ∈ ds, Tiny w k d) (hl : ds.length ≤ n) : Tiny ((w + 1) * n + 10) (k + 1) (.tup ds) := by
  obtain ⟨b1, b2, b3, b4, b5, b6, b7⟩ := tiny_all h
  have hm : (w + 1) * ds.length ≤ (w + 1) * n := Nat.mul_le_mul_left _ hl
  refine ⟨?_, ?_, ?_, ?_, ?_, ?_, ?_⟩
  · unfold okD
    exact b1
  · unfold toPy PyData.showable
    exact b2
  · unfold toPy PyData.canLay0
    exact b3
  · unfold toPy PyData.intsShort
    exact b4
  · unfold toPy PyData.weight
    omega
  · unfold toPy PyData.depth
    omega
  · unfold toPy PyData.hasDict
    exact b7
theorem Tiny.shows {w k : Nat} {d : D} (h : Tiny w k d) (hw : w ≤ 1000000) (hk : k ≤ 60) : Shows d := by
  have := h.wt
  have := h.dp
  exact ⟨by rw [h.nd]; exact h.ok, h.sh, by omega, sz_big h.lay h.ish (by omega)⟩
theorem Tiny.one {w k : Nat} {d : D} (h : Tiny w k d) {s : Str} (hs : smallD (.str s) = true) (hw : 100 ≤ w) (hw2 : w ≤ 100000) (hk : k ≤ 50) : Shows (.lst ⟨true, true⟩ [.str s, d]) := by
  refine (Tiny.lst (w := w) (k := k) (n := 2) (ds := [.str s, d]) (fun x m => ?_) (Nat.le_refl 2)).shows (by omega) (by omega)
  rcases List.mem_cons.mp m with rfl | m
  · exact (tiny_small hs).up hw (Nat.zero_le _)
  · rw [List.mem_singleton.mp m]
    exact h
/-! ### the pool -/
structure Pl where
  cell : Int
  cnt : Int
  big : Bool
  k : Int
def Pl.ds (c : Pl) : List D := [.int c.cell, .int c.cnt, .bl c.big, .int c.k]
def Pl.c (c : Pl) : Cell := .lst c.ds
def celOf (ns : List Int) (k : Int) : Int := ns.getD k.toNat 0
def bigOf (x : Int) : Bool := decide (x ≥ 10 ^ 18)
def poolOf (ns : List Int) (k : Int) : Pl := ⟨celOf ns k, 0, bigOf (celOf ns k), k⟩
def drawV (c : Pl) (m : Int) : Int := if c.big then c.cell % m else (((((c.cell * 48271 + (c.cnt + 1) * 104729 + c.k * 8191 + 11) % 2147483647) ^ (3 : Int).toNat + (c.cnt + 1) * 7919) % 2147483629) ^ (5 : Int).toNat % 2147483587) / 16 % m
def drawC (c : Pl) (m : Int) : Pl := ⟨if c.big then c.cell / m else c.cell, c.cnt + 1, c.big, c.k⟩
theorem drawV_in {c : Pl} {m : Int} (h : 0 < m) : 0 ≤ drawV c m ∧ drawV c m < m := by
  unfold drawV
  split
  · exact ⟨Int.emod_nonneg _ (by omega), Int.emod_lt_of_pos _ h⟩
  · exact ⟨Int.emod_nonneg _ (by omega), Int.emod_lt_of_pos _ h⟩
/-- the digit drawn, as a place -/
def drawN (c : Pl) (n : Nat) : Nat := (drawV c (n : Nat)).toNat
theorem drawN_lt {c : Pl} {n : Nat} (h : 0 < n) : drawN c n < n := by
  have := drawV_in (c := c) (m := (n : Nat)) (by omega)
  unfold drawN
  omega
theorem drawN_eq {c : Pl} {n : Nat} (h : 0 < n) : drawV c (n : Nat) = ((drawN c n : Nat) : Int) := by
  have := drawV_in (c := c) (m := (n : Nat)) (by omega)
  unfold drawN
  omega
def poolR : FSpec := fun ds c o => ∃ (g : G) (ns : List Int) (k : Nat), ds = [.lst g (ns.map D.int), .int (k : Nat)] ∧ o = .val (.lst ⟨true, true⟩ (poolOf ns k).ds) true c
def drawR : FSpec := fun ds c o => ∃ (i : Nat) (m : Int) (x : Pl), ds = [.mut i, .int m] ∧ c[i]? = some x.c ∧ 0 < m ∧ m < 1073741824 ∧ o = .val (.int (drawV x m)) false (c.set i (drawC x m).c)
theorem at_set {α : Type} {c : List α} {i : Nat} {x y : α} (h : c[i]? = some x) : (c.set i y)[i]? = some y := by
  rw [List.getElem?_set_self (List.getElem?_eq_some_iff.mp h).1]
theorem small_pow {x m : Int} (h : 0 < m) (hm : m ≤ 2147483648) : (x % m).natAbs < 2 ^ 64 := by
  have h1 := Int.emod_nonneg x (show m ≠ 0 by omega)
  have h2 := Int.emod_lt_of_pos x h
  have : (2 : Nat) ^ 64 = 18446744073709551616 := by decide
  omega
theorem cmul_r {i j : Int} (h1 : -1000000000 < j) (h2 : j < 1000000000) : CMul i j := by
  have e1 : (-(2 ^ 64) : Int) = -18446744073709551616 := by decide
  have e2 : (2 ^ 64 : Int) = 18446744073709551616 := by decide
  exact .inr ⟨by omega, by omega⟩
end LA

namespace LA
open PySem PySem.Spec PyProof.Rows L2
/-! ### error classes of one field -/
structure Err1 (P : Program) (w : World) (K : PySem.W.Frag) (mg : Str → Option Value) (base : Heap) (x f : Str) (C : Addr) : Prop where
  ox : OexC K C
  xf : XfC K C
  no : PySem.W.findIn K (.ref C) f = some none
  ini : ∃ g fd pn, PySem.W.findIn K (.ref C) "__init__" = some (some (.ref g)) ∧ PySem.W.typeIn K (.ref g) = some (.type "function") ∧ FnOk P w K mg base CX0 1 g fd ["self", pn] (spIni1 K f) ∧ Binds K fd ["self", pn] []
  mg : mg x = some (.ref C)
section
variable {X : Cx} {W : WX} {p : HD} {ρ : Rho} {c c1 : PC} {e : Expr} {pos pos2 xp : Pos} {d : D} {n1 : Bool} {x f : Str} {C : Addr}
theorem rs_raiseG (hc : X.calm = true) (tk : Takes X W) (E : Err1 X.prog X.w X.K X.mg X.base x f C) (hr : Room 2 X.A) (he : RE X W p ρ c e (.val d n1 c1)) (hg : Gl X x := by rfl)
    (hdb : (x == ("__debug__" : Str)) = false := by decide) (hs : starEach (e :: []) X.env = (false, eval e X.env) :: starEach [] X.env := by rfl) (hpl : (backTo pos (starEach [] X.env)).any (·.1) = false := by rfl) :
    RS X W p ρ c (.Raise (some (.Call (.Name x xp) [e] [] pos)) none pos2) (.ex C [(f, d)] c1) := by
  obtain ⟨g, fd, pn, h1, h2, h3, h4⟩ := E.ini
  exact rs_raise1 hc tk E.ox E.no h1 h2 h3 hr h4 E.mg he hg hdb hs hpl
end
theorem cv_lenTup {K : PySem.W.Frag} {p : HD} {c : PC} {ds : List D} : CV K p (fun xs H Q => ∃ x n, xs = [x] ∧ LenV K x H n ∧ Q (.int n) H) [.tup ds] (.int (ds.length : Nat)) true c := fun vs H Q dvs hp k => by
  cases dvs with
  | cons h r =>
    cases r
    cases h with
    | tup hq ha =>
      refine ⟨_, ds.length, rfl, .inr ⟨_, un_sqT hq, ha.length.symm⟩, k _ H (Ext.refl p H) hp (.int _) fun _ => New.sc (by intro a h; cases h)⟩
theorem kit2 {K : PySem.W.Frag} {t a b : String} {b1 b2 : Bool} (h1 : kitB t a = some b1) (h2 : kitB t b = some b2) : PySem.W.kitAny K (.type t) [.type a, .type b] = some (b1 || b2) := by
  unfold PySem.W.kitAny
  rw [kit_ty h1]
  cases b1 with
  | true => rfl
  | false =>
    show PySem.W.kitAny K (.type t) [.type b] = some b2
    unfold PySem.W.kitAny
    rw [kit_ty h2]
    cases b2 <;> rfl
/-! ### what an expression gives, as what a statement does -/
def asSt : EO → SO
  | .val d nw c => .rt d nw c
  | .ex C fs c => .ex C fs c
theorem rss_retO {X : Cx} {W : WX} {p : HD} {ρ : Rho} {c : PC} {e : Expr} {pos : Pos} {o : EO} {rest : List Stmt} (h : RE X W p ρ c e o) : RSs X W p ρ c (.Return (some e) pos :: rest) (asSt o) := by
  cases o with
  | val d nw c' => exact rss_ret (rs_ret h)
  | ex C fs c' => exact rss_ex (rs_retX h)
theorem rss_ifO {X : Cx} {W : WX} {p : HD} {ρ : Rho} {c c1 : PC} {t : Expr} {A : List Stmt} {pos : Pos} {o : EO} {rest : List Stmt} (ht : RT X W p ρ c t (.val true c1)) (h : RSs X W p ρ c1 A (asSt o)) : RSs X W p ρ c (.If t A [] pos :: rest) (asSt o) := by
  cases o with
  | val d nw c' => exact rss_ret (rs_if (kb := true) ht (fun _ => h) fun z => nomatch z)
  | ex C fs c' => exact rss_ex (rs_if (kb := true) ht (fun _ => h) fun z => nomatch z)
theorem bodyOk_of {X : Cx} {W : WX} {p : HD} {ρ : Rho} {c : PC} {body : List Stmt} {o : EO} (h : RSs X W p ρ c body (asSt o)) : BodyOk X W p ρ c body o := by
  cases o with
  | val d nw c' => exact .inl h
  | ex C fs c' => exact h
/-! ### parts of texts -/
theorem cut_lo {l : List Nat} {i : Nat} (h : i ≤ l.length) : cutS (tx l) none (some (i : Nat)) = tx (l.take i) := by
  unfold cutS
  rw [HT.sIx_none, HT.sIx_nat, tx_list, tx_len, Nat.min_eq_left h]
  rfl
theorem cut_hi {l : List Nat} {i : Nat} (h : i ≤ l.length) : cutS (tx l) (some (i : Nat)) none = tx (l.drop i) := by
  unfold cutS
  rw [HT.sIx_none, HT.sIx_nat, tx_list, tx_len, Nat.min_eq_left h, List.take_of_length_le (by rw [List.length_drop]; omega)]
  rfl
theorem set_cut {l : List Nat} {i : Nat} {a : Nat} (h : i < l.length) : l.take i ++ [a] ++ l.drop (i + 1) = l.set i a := by
  rw [List.set_eq_take_append_cons_drop, if_pos h, List.append_assoc]
  rfl
theorem digit_str {i : Int} (h : i = 0 ∨ i = 1) : (toString i).toList.map Char.toNat = [48 + i.toNat] := by
  rcases h with rfl | rfl <;> decide
/-! ### signs that are not of a text -/
def odds (a l : List Nat) : List D := coll (fun i => !decide (l.getD i 0 ∈ a)) (fun i => .str (chr1 (l.getD i 0))) l.length
theorem odds_nil (a l : List Nat) : (odds a l).isEmpty = l.all fun n => decide (n ∈ a) := by
  unfold odds
  rw [coll_none, ← all_get l]
  congr 1
  funext i
  rw [Bool.not_not]
theorem odds_ok {a l : List Nat} (h : ∀ n ∈ l, n < 0x110000) : (odds a l).all flatOk = true := by
  unfold odds
  rw [coll_some, List.all_map, List.all_eq_true]
  intro i hi
  have hi' := List.mem_range.mp (List.mem_filter.mp hi).1
  show PyData.strOk (chr1 (l.getD i 0)) = true
  unfold PyData.strOk chr1
  have : l.getD i 0 ∈ l := by
    rw [List.getD_eq_getElem?_getD, List.getElem?_eq_getElem hi']
    exact List.getElem_mem _
  have q := h _ this
  generalize l.getD i 0 = m at q
  simp [q]
/-- the first place at which a test fails -/
theorem first_bad (b : Nat → Bool) : ∀ n : Nat, ∃ m, m ≤ n ∧ (∀ i, i < m → b i = true) ∧ (m = n ∨ (m < n ∧ b m = false))
  | 0 => ⟨0, Nat.le_refl _, (fun i h => absurd h (Nat.not_lt_zero i)), .inl rfl⟩
  | n + 1 => by
    obtain ⟨m, h1, h2, h3⟩ := first_bad b n
    rcases h3 with rfl | ⟨h3, h4⟩
    · cases hb : b m with
      | false => exact ⟨m, by omega, h2, .inr ⟨by omega, hb⟩⟩
      | true => exact ⟨m + 1, Nat.le_refl _, (fun i hi => by
          by_cases e : i = m
          · rw [e, hb]
          · exact h2 i (by omega)), .inl rfl⟩
    · exact ⟨m, by omega, h2, .inr ⟨by omega, h4⟩⟩
theorem ov_ixSeq {K : PySem.W.Frag} {p : HD} {c : PC} {b d : D} {xs : List D} {i : Int} {j : Nat} (h : isSeqOf b xs) (e : i = (j : Int)) (hx : xs[j]? = some d) : OV K p (rIx K) b (.int i) d false c := by
  rcases h with ⟨g, rfl⟩ | rfl
  · exact ov_ixL e hx
  · exact ov_ixT e hx
theorem cv_lenSeq {K : PySem.W.Frag} {p : HD} {c : PC} {b : D} {xs : List D} (h : isSeqOf b xs) : CV K p (fun xs H Q => ∃ x n, xs = [x] ∧ LenV K x H n ∧ Q (.int n) H) [b] (.int (xs.length : Nat)) true c := by
  rcases h with ⟨g, rfl⟩ | rfl
  · exact cv_lenL
  · exact cv_lenTup
structure Def1K (P : Program) (w : World) (K : PySem.W.Frag) (mg : Str → Option Value) (base : Heap) (k : Nat) (x : Str) (ps : List Str) (R : FSpec) (n : Nat) (ks : List Str) (g : List Value → List Value → List Value) (gV : List V → List V → List V) : Prop where
  ex : ∃ (f : Addr) (fd : FuncData), FnOk P w K mg base (L2.CX P w) k f fd ps (spF K R) ∧ mg x = some (.ref f) ∧ PySem.W.keepIn K (.ref f) = true ∧ KBn K fd ps n ks g gV
/-! ### what the head leaves -/
/-- a def of the top as the head has left it -/
structure Gf (K : PySem.W.Frag) (x : Str) (st : Stmt) : Prop where
  ex : ∃ f fd, PySem.W.nsIn K mainGlobals x = some (some (.ref f)) ∧ Fun K x x st f fd
theorem gf_mk {K : PySem.W.Frag} {x : Str} {st : Stmt} {f : Addr} {oc kV dc pm cd ct : Value} {od an : Option Addr} {sl : Array (Option Value)} (a : PySem.W.nsIn K mainGlobals x = some (some (.ref f)))
    (l : K.lookup f = some ⟨oc, od, .func (PySem.W.fnOf x x (defArgs st) (defBody st) (defScope st) .none kV dc pm an cd ct), sl⟩) (c : PySem.W.codeIn K cd x = true) (k : PySem.W.keepIn K (.ref f) = true) : Gf K x st := ⟨⟨f, _, a, fun_mk l c k⟩⟩
/-- an error class and its maker -/
structure Ge (K : PySem.W.Frag) (x q : Str) (st : Stmt) (C : Addr) : Prop where
  ns : PySem.W.nsIn K mainGlobals x = some (some (.ref C))
  ox : OexC K C
  xf : XfC K C
  ini : ∃ f fd, PySem.W.findIn K (.ref C) "__init__" = some (some (.ref f)) ∧ PySem.W.typeIn K (.ref f) = some (.type "function") ∧ Fun K "__init__" q st f fd
theorem ge_mk {K : PySem.W.Frag} {x q nm qn : Str} {st : Stmt} {C f N : Addr} {bs bm sub : List Value} {sn : List Str} {ab : Bool} {col : Option Bool} {dd od an : Option Addr} {m0 m1 m2 m3 m5 : Option Value} {oc kV dc pm cd ct : Value} {sl : Array (Option Value)}
    (ns : PySem.W.nsIn K mainGlobals x = some (some (.ref C))) (xL : K.lookup C = some (excClassObj nm qn C N bs bm true sn sub ab col dd m0 m1 m2 m3 m5 "ValueError.__new__")) (hv : PySem.HandSPX.refsVE bm = true) (sa : PySem.W.findIn K (.ref C) "__setattr__" = some (some (.builtin "object.__setattr__")))
    (eC : PySem.W.subIn K (.ref C) (.type "BaseException") = some true) (tC : PySem.W.typeIn K (.ref C) = some (.type "type")) (kC : PySem.W.keepIn K (.ref C) = true) (ga : PySem.W.findIn K (.ref C) "__getattribute__" = some (some (.builtin "BaseException.__getattribute__"))) (gg : PySem.W.findIn K (.ref C) "__getattr__" = some none) (hC : PySem.W.hasDictIn K C = true)
    (a : PySem.W.findIn K (.ref C) "__init__" = some (some (.ref f))) (t : PySem.W.typeIn K (.ref f) = some (.type "function")) (l : K.lookup f = some ⟨oc, od, .func (PySem.W.fnOf "__init__" q (defArgs st) (defBody st) (defScope st) .none kV dc pm an cd ct), sl⟩) (c : PySem.W.codeIn K cd q = true) (k : PySem.W.keepIn K (.ref f) = true) : Ge K x q st C :=
  ⟨ns, ⟨⟨nm, qn, N, bs, bm, sn, sub, ab, col, dd, m0, m1, m2, m3, m5, xL, hv⟩, sa, eC, tC, kC⟩, ⟨ga, gg, eC, hC⟩, f, _, a, t, fun_mk l c k⟩
theorem gn_mk {K : PySem.W.Frag} {x : Str} {C : Addr} (ns : PySem.W.nsIn K mainGlobals x = some (some (.ref C))) : PySem.W.nsIn K mainGlobals x = some (some (.ref C)) := ns
section
variable {P : Program} {w : World} {K : PySem.W.Frag} {mg : Str → Option Value} {base h : Heap} {x : Str} {st : Stmt} {ps : List Str} {k : Nat} {R : FSpec}
theorem def0 (X : K.In h) (G : h.Ns mainGlobals mg) (g : Gf K x st) (hf : ∀ f fd, Fun K x x st f fd → FnOk P w K mg base CX0 k f fd ps (spF K R))
    (hb : ∀ (kV doc pm : Value) (an : Option Addr) (cdv ct : Value) (us : List Value), us.length = ps.length → bindArgs (PySem.W.fnOf x x (defArgs st) (defBody st) (defScope st) .none kV doc pm an cdv ct) ⟨us, []⟩ = pure (ps.zip us)) : Def0 P w K mg base k x ps R := by
  obtain ⟨f, fd, a, F⟩ := g.ex
  exact ⟨⟨f, fd, hf f fd F, PySem.W.mg_of X G a, F.kp, F.binds hb⟩⟩
theorem def1 (X : K.In h) (G : h.Ns mainGlobals mg) (g : Gf K x st) (hf : ∀ f fd, Fun K x x st f fd → FnOk P w K mg base (L2.CX P w) k f fd ps (spF K R))
    (hb : ∀ (kV doc pm : Value) (an : Option Addr) (cdv ct : Value) (us : List Value), us.length = ps.length → bindArgs (PySem.W.fnOf x x (defArgs st) (defBody st) (defScope st) .none kV doc pm an cdv ct) ⟨us, []⟩ = pure (ps.zip us)) : Def1 P w K mg base k x ps R := by
  obtain ⟨f, fd, a, F⟩ := g.ex
  exact ⟨⟨f, fd, hf f fd F, PySem.W.mg_of X G a, F.kp, F.binds hb⟩⟩
theorem err1 {q f pn : Str} {C : Addr} {q1 q2 q3 q4 : Pos} (X : K.In h) (G : h.Ns mainGlobals mg) (g : Ge K x q st C) (no : PySem.W.findIn K (.ref C) f = some none) (S : FnScope ["self", pn] ["self", pn] (defScope st)) (hb : defBody st = [.Assign [.Attribute (.Name "self" q1) f q2] (.Name pn q3) q4])
    (h1 : (pn == ("__debug__" : Str)) = false) (h2 : (pn == ("__classdict__" : Str)) = false)
    (hbd : ∀ (kV doc pm : Value) (an : Option Addr) (cdv ct : Value) (us : List Value), us.length = (["self", pn] : List Str).length → bindArgs (PySem.W.fnOf "__init__" q (defArgs st) (defBody st) (defScope st) .none kV doc pm an cdv ct) ⟨us, []⟩ = pure ((["self", pn] : List Str).zip us)) : Err1 P w K mg base x f C := by
  obtain ⟨f1, fd, i1, t1, F⟩ := g.ini
  exact ⟨g.ox, g.xf, no, ⟨f1, fd, pn, i1, t1, ok_ini1 F S hb h1 h2, F.binds hbd⟩, PySem.W.mg_of X G g.ns⟩
theorem def1K {n : Nat} {ks : List Str} {g' : List Value → List Value → List Value} {gV : List V → List V → List V} (X : K.In h) (G : h.Ns mainGlobals mg) (g : Gf K x st) (hf : ∀ f fd, Fun K x x st f fd → FnOk P w K mg base (L2.CX P w) k f fd ps (spF K R))
    (hb : ∀ (kV doc pm : Value) (an : Option Addr) (cdv ct : Value) (us ws : List Value), us.length = n → ws.length = ks.length → bindArgs (PySem.W.fnOf x x (defArgs st) (defBody st) (defScope st) .none kV doc pm an cdv ct) ⟨us, ks.zip ws⟩ = pure (ps.zip (g' us ws)))
    (hv : ∀ {vs : List V} {us : List Value} {zs : List V} {ws : List Value}, Vals vs us → Vals zs ws → Vals (gV vs zs) (g' us ws)) : Def1K P w K mg base k x ps R n ks g' gV := by
  obtain ⟨f, fd, a, F⟩ := g.ex
  refine ⟨⟨f, fd, hf f fd F, PySem.W.mg_of X G a, F.kp, ⟨fun s us ws _ h1 h2 => ?_, hv⟩⟩⟩
  obtain ⟨oc, od, kV, doc, pm, an, cdv, ct, osl, rfl, _⟩ := F.ex
  exact .of_eq (hb kV doc pm an cdv ct us ws h1 h2)
theorem vals_rev : ∀ {vs : List V} {us : List Value}, Vals vs us → Vals vs.reverse us.reverse
  | _, _, .nil => .nil
  | _, _, .cons h r => by
    rw [List.reverse_cons, List.reverse_cons]
    exact (vals_rev r).append (.cons h .nil)
end
theorem dvs_script {K : PySem.W.Frag} {H : Hp} {a : Addr} {ns : List Int} (sq : SqL K H a (ns.map V.int)) : DVs K ⟨[], []⟩ H [.ref a] [.lst ⟨false, false⟩ (ns.map D.int)] := by
  refine .cons (.lst ⟨(fun z => nomatch z), fun z => nomatch z⟩ (Sub.sqL (fun b o y => ?_) sq) ?_) .nil
  · rw [hide_ne]
    · exact y
    · rintro (z | z)
      · cases z
      · cases z
  · clear sq
    induction ns with
    | nil => exact .nil
    | cons n r ih => exact .cons (.int n) ih
theorem pool_none {K : PySem.W.Frag} {H : Hp} : PoolAt K ⟨[], []⟩ H [] := ⟨⟨List.nodup_nil, rfl, fun i b x h => by simp at h⟩, fun b z => nomatch z⟩
end LA

namespace K41
open PySem PySem.Spec PyProof.Rows L2 LA
def top (i : Nat) : Stmt := PySem.Challenge.pw_leastlooks_k41_fewest_looks.main.body.getD i (.Pass ⟨0, 0, 0, 0⟩)
abbrev sPool : Stmt := top 50
abbrev sDraw : Stmt := top 51
/-- built-in names that the text leaves alone -/
structure Glb (mg : Str → Option Value) : Prop where
  len : mg "len" = none
  int : mg "int" = none
  range : mg "range" = none
  list : mg "list" = none
  str : mg "str" = none
  isi : mg "isinstance" = none
  all : mg "all" = none
  repr : mg "repr" = none
  min : mg "min" = none
  max : mg "max" = none
  zip : mg "zip" = none
  iter : mg "iter" = none
  tuple : mg "tuple" = none
  bool : mg "bool" = none
  enu : mg "enumerate" = none
  rev : mg "reversed" = none
  dct : mg "dict" = none
section
variable {P : Program} {w : World} {K : PySem.W.Frag} {mg : Str → Option Value} {base : Heap}
theorem scPool : FnScope ["_law_script", "_law_k", "_law_cell"] ["_law_script", "_law_k"] (defScope sPool) := ⟨rfl, rfl, rfl, by decide +kernel, rfl, by decide +kernel, by decide +kernel⟩
theorem ok_pool {f : Addr} {fd : FuncData} (G : Glb mg) (F : Fun K "_law_pool" "_law_pool" sPool f fd) : FnOk P w K mg base CX0 1 f fd ["_law_script", "_law_k"] (spF K poolR) := by
  refine fn_val F scPool (fun ds c o h => ?_) (fun ds c o h => ?_) (fun cdv A outer s H E hr p ds c o h => ?_)
  · obtain ⟨g, ns, k, rfl, _⟩ := h
    rfl
  · obtain ⟨g, ns, k, _, rfl⟩ := h
    exact ⟨_, _, _, rfl⟩
  · obtain ⟨g, ns, k, rfl, rfl⟩ := h
    refine .inl ?_
    refine rss_cons (ρ1 := [some (.lst g (ns.map D.int)), some (.int (k : Nat)), some (.int (celOf ns k))]) (c1 := c) (rs_set (nw := false) 2 scPool.nd (re_if (k := decide ((k : Int) < ((ns.map D.int).length : Nat))) (rt_cmp op_lt (re_var 1) (re_callB call_len G.len PySem.boot_len (ra_cons (re_var 0) ra_nil) cv_lenL) ov_ib) (fun hk => ?_) (fun hk => ?_))) ?_
    · refine re_ix ix_seq (re_var 0) (re_var 1) (ov_ixL rfl ?_)
      have hk := of_decide_eq_true hk
      rw [List.length_map] at hk
      rw [List.getElem?_map]
      unfold celOf
      rw [List.getD_eq_getElem?_getD]
      have : k < ns.length := by omega
      simp [this]
    · have hk := of_decide_eq_false hk
      rw [List.length_map] at hk
      have e : celOf ns k = 0 := by
        unfold celOf
        rw [List.getD_eq_getElem?_getD, List.getElem?_eq_none (by simp; omega)]
        rfl
      rw [e]
      exact re_old re_int
    · exact rss_ret (rs_ret (re_lst (ra_cons (re_var 2) (ra_cons re_int (ra_cons (re_cmp op_ge (re_var 2) (re_bin op_pow re_int re_int (ov_cii (by show (0 : Int) ≤ 18 ∧ (18 : Int) ≤ 1000000 ∧ _; decide))) ov_ib) (ra_cons (re_var 1) ra_nil)))) (by show 4 ≤ 100000; decide)))
theorem scDraw : FnScope ["_law_pool_here", "_law_limit", "_law_digit", "_law_seed", "_law_mixed"] ["_law_pool_here", "_law_limit"] (defScope sDraw) := ⟨rfl, rfl, rfl, by decide +kernel, rfl, by decide +kernel, by decide +kernel⟩
theorem ok_draw {f : Addr} {fd : FuncData} (G : Glb mg) (F : Fun K "_law_draw" "_law_draw" sDraw f fd) : FnOk P w K mg base CX0 1 f fd ["_law_pool_here", "_law_limit"] (spF K drawR) := by
  refine fn_val F scDraw (fun ds c o h => ?_) (fun ds c o h => ?_) (fun cdv A outer s H E hr p ds c o h => ?_)
  · obtain ⟨i, m, x, rfl, _⟩ := h
    rfl
  · obtain ⟨i, m, x, _, _, _, _, rfl⟩ := h
    exact ⟨_, _, _, rfl⟩
  · obtain ⟨i, m, x, rfl, hx, h0, h1, rfl⟩ := h
    obtain ⟨cell, cnt, big, k⟩ := x
    have hx1 : (c.set i (Pl.c ⟨cell, cnt + 1, big, k⟩))[i]? = some (Pl.c ⟨cell, cnt + 1, big, k⟩) := at_set hx
    refine .inl (rss_cons (c1 := c.set i (Pl.c ⟨cell, cnt + 1, big, k⟩)) (rs_mst 0 i 1 (d := .int (cnt + 1)) (ds := Pl.ds ⟨cell, cnt, big, k⟩) (re_bin op_add (re_mix 0 i 1 hx rfl) re_int ov_ii) re_int hx (by show 1 < 4; decide) rfl) ?_)
    cases big with
    | true =>
      refine rss_ret (rs_if (kb := true) (rt_val (re_mix 0 i 2 hx1 rfl)) (fun _ => ?_) fun z => nomatch z)
      refine rss_cons (rs_set 2 scDraw.nd (re_bin op_mod (re_callT call_int1 G.int PyProof.Rows.boot_int (ra_cons (re_mix 0 i 0 hx1 rfl) ra_nil) cv_int) (re_var 1) (ov_cii h0))) ?_
      have e : (c.set i (Pl.c ⟨cell, cnt + 1, true, k⟩)).set i (Pl.c ⟨cell / m, cnt + 1, true, k⟩) = c.set i (drawC ⟨cell, cnt, true, k⟩ m).c := List.set_set ..
      rw [← e]
      refine rss_cons (c1 := (c.set i (Pl.c ⟨cell, cnt + 1, true, k⟩)).set i (Pl.c ⟨cell / m, cnt + 1, true, k⟩)) (rs_mst 0 i 0 (d := .int (cell / m)) (ds := Pl.ds ⟨cell, cnt + 1, true, k⟩) (re_bin op_fdiv (re_callT call_int1 G.int PyProof.Rows.boot_int (ra_cons (re_mix 0 i 0 hx1 rfl) ra_nil) cv_int) (re_var 1) (ov_cii ⟨h0, h1⟩)) re_int hx1 (by show 0 < 4; decide) rfl) ?_
      exact rss_ret (rs_ret (re_var 2))
    | false =>
      refine rss_cons (rs_if (kb := false) (rt_val (re_mix 0 i 2 hx1 rfl)) (fun z => nomatch z) fun _ => rss_nil) ?_
      refine rss_cons (rs_set 3 scDraw.nd (re_bin op_add (re_bin op_add (re_bin op_add (re_bin op_mul (re_mix 0 i 0 hx1 rfl) re_int (ov_cii (cmul_r (by decide) (by decide)))) (re_bin op_mul (re_mix 0 i 1 hx1 rfl) re_int (ov_cii (cmul_r (by decide) (by decide)))) ov_ii)
        (re_bin op_mul (re_mix 0 i 3 hx1 rfl) re_int (ov_cii (cmul_r (by decide) (by decide)))) ov_ii) re_int ov_ii)) ?_
      refine rss_cons (rs_set 4 scDraw.nd (re_bin op_mod (re_callT call_int1 G.int PyProof.Rows.boot_int (ra_cons (re_var 3) ra_nil) cv_int) re_int (ov_cii (by show (0 : Int) < _; decide)))) ?_
      refine rss_cons (rs_set 4 scDraw.nd (re_bin op_mod (re_callT call_int1 G.int PyProof.Rows.boot_int (ra_cons (re_bin op_add (re_bin op_pow (re_var 4) re_int (ov_cii ⟨by decide, by decide, small_pow (by decide) (by decide)⟩)) (re_bin op_mul (re_mix 0 i 1 hx1 rfl) re_int (ov_cii (cmul_r (by decide) (by decide)))) ov_ii) ra_nil) cv_int) re_int (ov_cii (by show (0 : Int) < _; decide)))) ?_
      refine rss_ret (rs_ret (re_old (re_bin op_mod (re_bin op_fdiv (re_callT call_int1 G.int PyProof.Rows.boot_int (ra_cons (re_bin op_mod (re_bin op_pow (re_var 4) re_int (ov_cii ⟨by decide, by decide, small_pow (by decide) (by decide)⟩)) re_int (ov_cii (by show (0 : Int) < _; decide))) ra_nil) cv_int) re_int (ov_cii ⟨by decide, by decide⟩)) (re_var 1) (ov_cii h0))))
end
abbrev PoolD (P : Program) (w : World) (K : PySem.W.Frag) (mg : Str → Option Value) (base : Heap) := Def0 P w K mg base 1 "_law_pool" ["_law_script", "_law_k"] poolR
abbrev DrawD (P : Program) (w : World) (K : PySem.W.Frag) (mg : Str → Option Value) (base : Heap) := Def0 P w K mg base 1 "_law_draw" ["_law_pool_here", "_law_limit"] drawR
section
variable {X : Cx} {W : WX} {p : HD} {ρ : Rho} {c : PC} {p1 p2 p3 p4 p5 p6 : Pos} {n1 n2 : Nat} {e : Expr} {nw : Bool}
theorem re_drawE (i : Nat) {k : Nat} {m : Int} {x : Pl} (T : DrawD X.prog X.w X.K X.mg X.base) (hr : Room 1 X.A) (hx : c[k]? = some x.c) (he : RE X W p ρ c e (.val (.int m) nw c)) (h0 : 0 < m) (h1 : m < 1073741824) (hρ : ρ[i]? = some (some (.mut k)) := by rfl) (hN : X.N[i]? = some ("_law_pool_here" : Str) := by rfl) (hv : Vis X.env.scope ("_law_pool_here" : Str) := by first | exact Or.inl rfl | exact Or.inr (Or.inl rfl) | exact Or.inr (Or.inr rfl))
    (hg : Gl X "_law_draw" := by rfl) (hs : starEach [e] X.env = (false, eval e X.env) :: starEach [] X.env := by rfl) (hs2 : starEach [.Name "_law_pool_here" p3, e] X.env = (false, eval (.Name "_law_pool_here" p3) X.env) :: starEach [e] X.env := by rfl) (hpl : (backTo p5 (starEach [e] X.env)).any (·.1) = false := by rfl) : RE X W p ρ c (.Call (.Name "_law_draw" p2) [.Name "_law_pool_here" p3, e] [] p5) (.val (.int (drawV x m)) false (c.set k (drawC x m).c)) :=
  re_c0 T hr (ra_cons (re_var i hN hρ hv) (ra_cons he ra_nil hs) hs2) ⟨k, m, x, rfl, hx, h0, h1, rfl⟩ hg (by decide) hs2 hpl
theorem re_draw (i : Nat) {k : Nat} {m : Int} {x : Pl} (T : DrawD X.prog X.w X.K X.mg X.base) (hr : Room 1 X.A) (hx : c[k]? = some x.c) (h0 : 0 < m) (h1 : m < 1073741824) (hρ : ρ[i]? = some (some (.mut k)) := by rfl) (hN : X.N[i]? = some ("_law_pool_here" : Str) := by rfl) (hv : Vis X.env.scope ("_law_pool_here" : Str) := by first | exact Or.inl rfl | exact Or.inr (Or.inl rfl) | exact Or.inr (Or.inr rfl))
    (hg : Gl X "_law_draw" := by rfl) : RE X W p ρ c (.Call (.Name "_law_draw" p2) [.Name "_law_pool_here" p3, .Constant (.int m) n2 p4] [] p5) (.val (.int (drawV x m)) false (c.set k (drawC x m).c)) :=
  re_drawE i T hr hx re_int h0 h1 hρ hN hv hg
end
end K41

/-! objects of own classes: made, read, called upon -/
namespace LA
open PySem PySem.Spec PyProof.Rows L2
/-! ### a new object, seen from without -/
section
variable {K : PySem.W.Frag} {p : HD} {H H1 H3 : Hp} {c c1 c2 : PC} {x dx C : Addr}
abbrev laid (H : Hp) (x dx C : Addr) : Hp := L2.upd (L2.upd H dx (.own x)) x (.ins C dx [])
theorem mut_also : Sub (hide (p.mut x) H) (hide (p.also x) H) := fun b o h => by
  obtain ⟨h1, h2⟩ := hide_some h
  rw [hide_ne (show ¬ (p.also x).hid b from fun z => h2 (mut_hid.mpr (z.elim (fun q => .inl (.inl q)) fun q => (List.mem_cons.mp q).elim .inr fun q => .inl (.inr q))))]
  exact h1
theorem laid_n (n1 : H x = none) (ne : dx ≠ x) : L2.upd H dx (.own x) x = none := by
  rw [upd_ne (fun z => ne z.symm)]
  exact n1
theorem laid_ext (n1 : H x = none) (n2 : H dx = none) (ne : dx ≠ x) : Ext p H (laid H x dx C) := (Ext.new n2).trans (Ext.new (laid_n n1 ne))
theorem laid_pool (h : PoolAt K p H c) (n1 : H x = none) (n2 : H dx = none) (ne : dx ≠ x) : PoolAt K (p.mut x) (laid H x dx C) (c ++ [.ins C []]) :=
  PoolAt.in' (PoolAt.also (h.upd n2) (laid_n n1 ne)) (fun z => h.not n1 (.inl z)) ⟨dx, [], upd_same, .nil⟩
theorem laid_vals {vs : List V} {ds : List D} (h : PoolAt K p H c) (r : DVs K p H vs ds) (n1 : H x = none) (n2 : H dx = none) (ne : dx ≠ x) : DVs K (p.mut x) (laid H x dx C) (.ref x :: vs) (.mut c.length :: ds) := by
  refine .cons (.mut ?_) (r.sub (sub_new n1 (laid_ext n1 n2 ne)) fun i b z => mut_at z)
  show (p.m ++ [x])[c.length]? = some x
  rw [← h.1.2.1, List.getElem?_append_right (Nat.le_refl _)]
  simp
theorem laid_after (h : PoolAt K p H c) (n1 : H x = none) (n2 : H dx = none) (ne : dx ≠ x) (e : Ext (p.mut x) (laid H x dx C) H3) : Ext p H H3 := fun b o nb q => by
  refine e b o (fun z => ?_) (laid_ext n1 n2 ne b o nb q)
  rcases List.mem_append.mp (show b ∈ p.m ++ [x] from z) with z | z
  · exact nb z
  · rw [List.mem_singleton.mp z, n1] at q
    cases q
theorem laid_out {y : Cell} (hl : c2.length = c.length) (h : PoolAt K p H c) (q : PoolAt K (p.mut x) H3 (c2 ++ [y])) : PoolAt K p H3 c2 := by
  have z := PoolAt.out q
  rw [h.1.2.1, ← hl, List.take_left'] at z
  · exact z
  · rfl
theorem laid_obj {fs : List (Str × D)} (hl : c2.length = c.length) (h : PoolAt K p H c) (n1 : H x = none) (q : PoolAt K (p.mut x) H3 (c2 ++ [.ins C fs])) : DV K p H3 (.ref x) (.obj C fs) := by
  have hx : (p.m ++ [x])[c2.length]? = some x := by
    rw [hl, ← h.1.2.1, List.getElem?_append_right (Nat.le_refl _)]
    simp
  obtain ⟨dx', fv, hv, r⟩ : CellAt K (p.mut x) H3 x (.ins C fs) := q.1.2.2 c2.length x (.ins C fs) hx (by simp)
  have vis : hide p H3 x = some (.ins C dx' fv) := by
    rw [hide_ne (h.not n1)]
    exact hv
  exact .obj vis (r.sub (fun b o y => by rw [hide_flat] at y; exact sub_mut b o y) fun i b z => by simp [HD.flat] at z)
theorem laid_new {fs : List (Str × D)} (hl : c2.length = c.length) (h : PoolAt K p H c) (n1 : H x = none) (q : PoolAt K (p.mut x) H3 (c2 ++ [.ins C fs])) : New K p H H3 c2 (.ref x) (.obj C fs) := fun a e => by
  cases e
  have po := laid_out hl h q
  refine ⟨⟨n1, fun z => h.not n1 (.inl z)⟩, ⟨⟨po.1.1, po.1.2.1, fun i b y hi hy => ?_⟩, fun b m => ?_⟩, fun g ds e' => by cases e'⟩
  · have l := (List.getElem?_eq_some_iff.mp hy).1
    exact (q.1.2.2 i b y (mut_at hi) (by rw [List.getElem?_append_left l]; exact hy)).sub mut_also rfl
  · rcases List.mem_cons.mp m with rfl | m
    · exact q.ex (show b ∈ p.m ++ [b] from List.mem_append.mpr (.inr (List.mem_singleton.mpr rfl)))
    · exact po.2 b m
end
/-! ### C(..) -/
/-- what comes of __init__, and of the making -/
inductive Made (C : Addr) (n : Nat) : EO → EO → Prop
  | val {nw : Bool} {c2 : PC} {fs : List (Str × D)} : c2.length = n → Made C n (.val .non nw (c2 ++ [.ins C fs])) (.val (.obj C fs) true c2)
  | ex {C' : Addr} {fs : List (Str × D)} {c2 : PC} {y : Cell} : c2.length = n → lowDf n fs = true → Made C n (.ex C' fs (c2 ++ [y])) (.ex C' fs c2)
def tMakeS (C : Addr) (sp : Sp) (E : L2.St → XK) (t : TA) : TE := fun σ H Q => t σ H fun vs H1 => ∀ x dx, H1 x = none → H1 dx = none → dx ≠ x → sp (V.ref x :: vs) (laid H1 x dx C) (fun v H2 => v = .non ∧ Q (.ref x) H2) (E σ)
section
variable {X : Cx} {W : WX} {p : HD} {ρ ρ1 : Rho} {c c1 c2 c3 : PC} {e a b : Expr} {es : List Expr} {pos apos : Pos} {d d1 d2 : D} {n1 n2 nw : Bool} {o o' : EO}
variable {CX : CXT} {k : Nat} {f C g : Addr} {fd : FuncData} {ps : List Str} {R : FSpec} {x m : Str} {xp : Pos} {ds : List D} {fs : List (Str × D)} {sp : Sp}
theorem run_makeS {E : L2.St → XK} {pins : List (Addr × Obj)} {σ : L2.St} {H : Hp} {s : Shared} {Q : VK} {us : List Value} {vs : List V} (M : Mk X.K C f) (F : FnOk X.prog X.w X.K X.mg X.base CX k f fd ps sp) (hr : Room (k + 1) X.A) (hb : Binds X.K fd ps [])
    (hx : PassesAt CX X σ (E σ)) (I : Inv X pins σ H s) (r : Vals vs us)
    (h : ∀ x dx, H x = none → H dx = none → dx ≠ x → sp (V.ref x :: vs) (laid H x dx C) (fun v H2 => v = .non ∧ Q (.ref x) H2) (E σ)) :
    wpAny (model X.prog X.w) X.A (call (.ref C) us) (EP X pins σ Q) X.xe s := by
  let n := s.heap.objs.size
  have q0 := h (n + 1) n (I.hok.fresh (Nat.le_succ _)) (I.hok.fresh (Nat.le_refl _)) (Nat.ne_of_lt (Nat.lt_succ_self _))
  have J := Inv.made (C := C) I
  have rr : Vals (V.ref (n + 1) :: vs) (Value.ref (n + 1) :: us) := .cons rfl r
  have hl : (Value.ref (n + 1) :: us).length = ps.length := by
    rw [← rr.length]
    exact F.len _ _ _ _ q0
  have bd := hb _ (Value.ref (n + 1) :: us) J.kIn (by rw [List.append_nil]; exact hl)
  rw [List.append_nil] at bd
  have run := F.run _ X.stack _ _ ⟨Value.ref (n + 1) :: us, []⟩ (Value.ref (n + 1) :: us) _ _ (E σ) (hr.make C us []) (J.env0.make C us []) bd rr q0
  refine wpAny_call (make_map (f := f) I.kIn M.makes M.init (beq_iff_eq.mp M.fn) (codeAny_mono run fun z s' hz => ?_))
  match z, hz with
  | .error er, hz => exact hx pins _ _ er s' J hz
  | .ok (.ret u), hz =>
    obtain ⟨v, H', I3, rv, ev, q3⟩ := J.after hz
    subst ev
    exact ⟨rv, ⟨V.ref (n + 1), H', I3, rfl, q3⟩⟩
  | .ok .next, hz => exact hz.elim
  | .ok .brk, hz => exact hz.elim
  | .ok .cont, hz => exact hz.elim
theorem pe_makeS {E : L2.St → XK} {t : TA} (M : Mk X.K C f) (F : FnOk X.prog X.w X.K X.mg X.base CX k f fd ps sp) (hr : Room (k + 1) X.A) (hg : Gl X x) (hm : X.mg x = some (.ref C)) (hb : Binds X.K fd ps []) (hx : ∀ σ, PassesAt CX X σ (E σ))
    (ha : PA X (e :: es) t) (hdb : (x == ("__debug__" : Str)) = false := by decide) (he : starEach (e :: es) X.env = (false, eval e X.env) :: starEach es X.env := by rfl) (hpl : (backTo pos (starEach es X.env)).any (·.1) = false := by rfl) :
    PE X (.Call (.Name x xp) (e :: es) [] pos) (tMakeS C sp E t) := ⟨fun pins s σ H Q I h =>
  wpAny_Call_Name_kw (ld_glob I hg hm (PySem.W.callWith_K (h₀ := X.base) I.ok.mod.kin M.kp (thn (ha.run pos pins s σ H _ I h) fun us s1 ⟨vs, H1, I1, r, q⟩ => ⟨I1.kIn, run_makeS M F hr hb (hx σ) I1 r q⟩) he hpl) hdb)⟩
theorem re_makeX (tk : Takes X W) (M : Mk X.K C f) (G : FnOk X.prog X.w X.K X.mg X.base (L2.CX X.prog X.w) k f fd ps (spF X.K R)) (hr : Room (k + 1) X.A) (hm : X.mg x = some (.ref C)) (hb : Binds X.K fd ps []) (ha : RA X W p ρ c (e :: es) (.val ds c1)) (ho : R (.mut c1.length :: ds) (c1 ++ [.ins C []]) o') (hd : Made C c1.length o' o)
    (hg : Gl X x := by rfl) (hdb : (x == ("__debug__" : Str)) = false := by decide) (he : starEach (e :: es) X.env = (false, eval e X.env) :: starEach es X.env := by rfl) (hpl : (backTo pos (starEach es X.env)).any (·.1) = false := by rfl) :
    RE X W p ρ c (.Call (.Name x xp) (e :: es) [] pos) o :=
  pe_imp (pe_makeS M G hr hg hm hb (fun σ => passAt tk σ) ha hdb he hpl) fun σ H Q h => ⟨tE_sr h, fun vs H1 e1 p1 dvs y dy ny nd ne => by
    refine ⟨p.mut y, c1 ++ [.ins C []], .mut c1.length :: ds, o', laid_vals p1 dvs ny nd ne, laid_pool p1 ny nd ne, ho, ?_⟩
    cases hd with
    | val hl =>
      intro v H3 e3 p3 dv _
      have ext := laid_after p1 ny nd ne e3
      refine ⟨by cases dv; rfl, ?_⟩
      exact (fo_at h e1) (.ref y) H3 ext (laid_out hl p1 p3) (laid_obj hl p1 ny p3) fun _ => laid_new hl p1 ny p3
    | ex hl lo =>
      intro dx fv H3 e3 p3 hx hf
      have ext := laid_after p1 ny nd ne e3
      refine (fo_at h e1) dx fv H3 ext (laid_out hl p1 p3) (sub_mut dx _ hx) (hf.low (n := c1.length) sub_mut (fun i b li hi => at_mut (by rw [p1.1.2.1]; exact li) hi) lo)⟩
/-! ### o.f -/
theorem re_fld (ha : RE X W p ρ c a (.val (.obj C fs) nw c1)) (cl : Cls X.K C) (na : NoAttr X.K C m) (hf : fs.lookup m = some d) (hb : attributeBase a m X.env (eval a X.env) = eval a X.env := by rfl) : RE X W p ρ c (.Attribute a m pos) (.val d false c1) :=
  pe_imp (pe_fld ha hb) fun σ H Q h => ⟨h.1, fun v H1 e1 p1 dv _ => by
    cases dv with
    | obj hv r =>
      obtain ⟨w, l, dw⟩ := r.get hf
      exact ⟨_, C, _, _, w, rfl, (hide_some hv).1, cl, na, l, h.2 w H1 e1 p1 dw (fun z => nomatch z)⟩⟩
/-- of what changes still -/
theorem re_fldM {i : Nat} (ha : RE X W p ρ c a (.val (.mut i) nw c1)) (hc : c1[i]? = some (.ins C fs)) (cl : Cls X.K C) (na : NoAttr X.K C m) (hf : fs.lookup m = some d) (hb : attributeBase a m X.env (eval a X.env) = eval a X.env := by rfl) : RE X W p ρ c (.Attribute a m pos) (.val d false c1) :=
  pe_imp (pe_fld ha hb) fun σ H Q h => ⟨h.1, fun v H1 e1 p1 dv _ => by
    cases dv with
    | @«mut» b _ hi =>
      obtain ⟨dx, fv, hv, r⟩ : CellAt X.K p H1 b (.ins C fs) := p1.1.2.2 i b _ hi hc
      obtain ⟨w, l, dw⟩ := r.get hf
      exact ⟨_, C, _, _, w, rfl, hv, cl, na, l, h.2 w H1 e1 p1 (dw.sub (fun b o y => by rw [hide_flat] at y; exact y) fun i b z => by simp [HD.flat] at z) (fun z => nomatch z)⟩⟩
theorem DVf.gone {K : PySem.W.Frag} {H : Hp} : ∀ {vs : List (Str × V)} {ds : List (Str × D)}, DVf K p H vs ds → ds.lookup m = none → vs.lookup m = none
  | _, _, .nil, _ => rfl
  | _, _, .cons (f := g) h r, e => by
    rw [List.lookup_cons] at e ⊢
    cases q : m == g with
    | true =>
      rw [q] at e
      cases e
    | false =>
      rw [q] at e
      exact DVf.gone r e
/-! ### o.f, a property -/
theorem re_prop {q : Addr} (G : FnOk X.prog X.w X.K X.mg X.base CX0 k g fd ps (spF X.K R)) (hr : Room (k + 1) X.A) (hb : Binds X.K fd ps []) (ha : RE X W p ρ c a (.val (.obj C fs) nw c1)) (cl : Cls X.K C) (hp : PropOf X.K C m q g) (ho : R [.obj C fs] c1 (.val d n2 c2))
    (hab : attributeBase a m X.env (eval a X.env) = eval a X.env := by rfl) : RE X W p ρ c (.Attribute a m pos) (.val d n2 c2) :=
  pe_imp (pe_prop ha cl hp G hr hb .nil pass0 hab) fun σ H Q h => ⟨h.1, fun v H1 e1 p1 dv _ => by
    cases dv with
    | obj hv r => exact ⟨_, _, _, rfl, (hide_some hv).1, p, c1, _, _, .cons (.obj hv r) .nil, p1, ho, fun w H2 e2 p2 dw hn => h.2 w H2 (e1.trans e2) p2 dw fun z => (hn z).back e1⟩⟩
/-! ### o.m(..) -/
def tMethS (m : Str) (C : Addr) (sp : Sp) (E : L2.St → XK) (ta : TE) (t : TA) : TE := fun σ H Q => ta σ H fun x H1 => ∃ y dx fv, x = .ref y ∧ H1 y = some (.ins C dx fv) ∧ fv.lookup m = none ∧ t σ H1 fun vs H2 => sp (x :: vs) H2 Q (E σ)
theorem pe_methS {pl : Sem Bool} {E : L2.St → XK} {ta : TE} {t : TA} (ha : PE X a ta) (cl : Cls X.K C) (hm : Meth X.K C m g) (F : FnOk X.prog X.w X.K X.mg X.base CX k g fd ps sp) (hr : Room k X.A) (hb : Binds X.K fd ps []) (hx : ∀ σ, PassesAt CX X σ (E σ)) (hs : PA X (e :: es) t)
    (ht : eval (.Call (.Attribute a m apos) (e :: es) [] pos) X.env = (do
      let ov ← eval a X.env
      standAt apos.atName
      let (f, first) ← holding [ov] (getMethod ov m pl)
      callWith pos f first (backTo pos (starEach (e :: es) X.env)) (backToKw pos (keywordEach [] X.env))))
    (hst : starEach (e :: es) X.env = (false, eval e X.env) :: starEach es X.env) (hpl : (backTo pos (starEach es X.env)).any (·.1) = false) :
    PE X (.Call (.Attribute a m apos) (e :: es) [] pos) (tMethS m C sp E ta t) := ⟨fun pins s σ H Q I h =>
  PySem.W.methodCall_KW (pl := pl) (thn (ha.run pins s σ H _ I h) fun u s1 ⟨x, H1, I1, rx, y, dx, fv, ex, ey, l, q⟩ => by
    subst ex
    obtain rfl : u = Value.ref y := rx
    exact getmeth_ok I1 ey cl hm l (PySem.W.callWith_K (first := [.ref y]) (h₀ := X.base) I.ok.mod.kin hm.kp (thn (hs.run pos pins s1 σ H1 _ I1 q) fun us s2 ⟨vs, H2, I2, r, q2⟩ => ⟨I2.kIn, run_fnS (us := .ref y :: us) (vs := .ref y :: vs) F hr hb (hx σ) I2 (.cons rfl r) q2⟩) hst hpl)) ht⟩
theorem pe_methS0 {pl : Sem Bool} {E : L2.St → XK} {ta : TE} (ha : PE X a ta) (cl : Cls X.K C) (hm : Meth X.K C m g) (F : FnOk X.prog X.w X.K X.mg X.base CX k g fd ps sp) (hr : Room k X.A) (hb : Binds X.K fd ps []) (hx : ∀ σ, PassesAt CX X σ (E σ))
    (ht : eval (.Call (.Attribute a m apos) [] [] pos) X.env = (do
      let ov ← eval a X.env
      standAt apos.atName
      let (f, first) ← holding [ov] (getMethod ov m pl)
      callWith pos f first (backTo pos (starEach [] X.env)) (backToKw pos (keywordEach [] X.env)))) :
    PE X (.Call (.Attribute a m apos) [] [] pos) (tMethS m C sp E ta tNil) := ⟨fun pins s σ H Q I h =>
  PySem.W.methodCall_KW (pl := pl) (thn (ha.run pins s σ H _ I h) fun u s1 ⟨x, H1, I1, rx, y, dx, fv, ex, ey, l, q⟩ => by
    subst ex
    obtain rfl : u = Value.ref y := rx
    exact getmeth_ok I1 ey cl hm l (PySem.W.callWith_K0 (first := [.ref y]) I1.kIn hm.kp (run_fnS (us := [.ref y]) (vs := [.ref y]) F hr hb (hx σ) I1 (.cons rfl .nil) q))) ht⟩
/-- a method that may raise -/
theorem re_methX {pl : Sem Bool} (tk : Takes X W) (G : FnOk X.prog X.w X.K X.mg X.base (L2.CX X.prog X.w) k g fd ps (spF X.K R)) (hr : Room k X.A) (hb : Binds X.K fd ps []) (ha : RE X W p ρ c a (.val (.obj C fs) nw c1)) (cl : Cls X.K C) (hm : Meth X.K C m g) (hn : fs.lookup m = none)
    (hs : RA X W p ρ c1 (e :: es) (.val ds c2)) (ho : R (.obj C fs :: ds) c2 o)
    (ht : eval (.Call (.Attribute a m apos) (e :: es) [] pos) X.env = (do
      let ov ← eval a X.env
      standAt apos.atName
      let (f, first) ← holding [ov] (getMethod ov m pl)
      callWith pos f first (backTo pos (starEach (e :: es) X.env)) (backToKw pos (keywordEach [] X.env))) := by rfl)
    (hst : starEach (e :: es) X.env = (false, eval e X.env) :: starEach es X.env := by rfl) (hpl : (backTo pos (starEach es X.env)).any (·.1) = false := by rfl) :
    RE X W p ρ c (.Call (.Attribute a m apos) (e :: es) [] pos) o :=
  pe_imp (pe_methS ha cl hm G hr hb (fun σ => passAt tk σ) hs ht hst hpl) fun σ H Q h => ⟨tE_sr h, fun v H1 e1 p1 dv _ => by
    cases dv with
    | obj hv r => exact ⟨_, _, _, rfl, (hide_some hv).1, r.gone hn, (tE_sr h).mono e1 p1, fun vs H2 e2 p2 dvs => ⟨p, c2, _, o, .cons ((DV.obj hv r).mono e2) dvs, p2, ho, fo_at h (e1.trans e2)⟩⟩⟩
theorem re_methX0 {pl : Sem Bool} (tk : Takes X W) (G : FnOk X.prog X.w X.K X.mg X.base (L2.CX X.prog X.w) k g fd ps (spF X.K R)) (hr : Room k X.A) (hb : Binds X.K fd ps []) (ha : RE X W p ρ c a (.val (.obj C fs) nw c1)) (cl : Cls X.K C) (hm : Meth X.K C m g) (hn : fs.lookup m = none)
    (ho : R [.obj C fs] c1 o)
    (ht : eval (.Call (.Attribute a m apos) [] [] pos) X.env = (do
      let ov ← eval a X.env
      standAt apos.atName
      let (f, first) ← holding [ov] (getMethod ov m pl)
      callWith pos f first (backTo pos (starEach [] X.env)) (backToKw pos (keywordEach [] X.env))) := by rfl) :
    RE X W p ρ c (.Call (.Attribute a m apos) [] [] pos) o :=
  pe_imp (pe_methS0 ha cl hm G hr hb (fun σ => passAt tk σ) ht) fun σ H Q h => ⟨tE_sr h, fun v H1 e1 p1 dv _ => by
    cases dv with
    | obj hv r => exact ⟨_, _, _, rfl, (hide_some hv).1, r.gone hn, p, c1, _, o, .cons (.obj hv r) .nil, p1, ho, fo_at h e1⟩⟩
end
end LA

/-! own operators of own classes, that raise nothing -/
namespace LA
open PySem PySem.Spec PyProof.Rows L2
section
variable {X : Cx} {W : WX} {p : HD} {ρ ρ1 : Rho} {c c1 c2 c3 : PC} {e a b : Expr} {es : List Expr} {pos apos : Pos} {d d1 d2 : D} {n1 n2 nw : Bool} {o o' : EO}
variable {k : Nat} {f C g : Addr} {fd : FuncData} {ps : List Str} {R : FSpec} {x m : Str} {xp : Pos} {ds : List D} {fs gs : List (Str × D)} {sp : Sp}
theorem rref (y : Addr) : L2.RelV (V.ref y) (Value.ref y) := rfl
theorem run_at {pins : List (Addr × Obj)} {σ : L2.St} {H : Hp} {s : Shared} {Q : VK} {us : List Value} {vs : List V} (F : FnOk X.prog X.w X.K X.mg X.base CX0 k f fd ps sp) (hr : Room k X.A) (hb : Binds X.K fd ps [])
    (I : Inv X pins σ H s) (r : Vals vs us) (h : sp vs H Q E0) : wpAny (model X.prog X.w) X.A (call (.ref f) us) (EP X pins σ Q) X.xe s :=
  run_fnS (E := fun _ => E0) F hr hb (fun _ _ _ _ _ _ z => z.elim) I r h
theorem run_in {pins : List (Addr × Obj)} {σ : L2.St} {H : Hp} {s : Shared} {Q : VK} {us : List Value} {vs : List V} {E' : Value → Shared → Prop} (F : FnOk X.prog X.w X.K X.mg X.base CX0 k f fd ps sp) (hr : Room (k + 1) X.A) (hb : Binds X.K fd ps [])
    (I : Inv X pins σ H s) (r : Vals vs us) (h : sp vs H Q E0) : wpAny (model X.prog X.w) X.A.in1 (call (.ref f) us) (EP X pins σ Q) E' s := by
  have hl : us.length = ps.length := by
    rw [← r.length]
    exact F.len _ _ _ _ h
  have bd := hb s us I.kIn (by rw [List.append_nil]; exact hl)
  rw [List.append_nil] at bd
  have run := F.run X.A.in1 X.stack s H ⟨us, []⟩ us vs Q E0 hr.in1 I.env0.in1 bd r h
  refine wpAny_call (codeAny_mono run fun z s' hz => ?_)
  match z, hz with
  | .error er, hz => exact hz.elim
  | .ok (.ret u), hz => exact I.after hz
  | .ok .next, hz => exact hz.elim
  | .ok .brk, hz => exact hz.elim
  | .ok .cont, hz => exact hz.elim
/-- of a name that a class has as a def -/
structure Own (K : PySem.W.Frag) (C : Addr) (m : Str) (f : Addr) : Prop where
  at_ : PySem.W.findIn K (.ref C) m = some (some (.ref f))
  fn : PySem.W.isFn K (.ref f) = true
theorem ins_at {pins : List (Addr × Obj)} {σ : L2.St} {H : Hp} {s : Shared} {y dx : Addr} {fv : List (Str × V)} (I : Inv X pins σ H s) (h : H y = some (.ins C dx fv)) : ∃ ox od, PySem.W.InstAt s.heap y ox C od := by
  obtain ⟨mA, O, _⟩ := ins_get I.hok h
  obtain ⟨od, J, _⟩ := O.look
  exact ⟨_, _, J⟩
/-! ### ~o -/
def rInv (C : Addr) (sp : Sp) : V → Hp → VK → Prop := fun x H Q => ∃ y dx fv, x = .ref y ∧ H y = some (.ins C dx fv) ∧ sp [.ref y] H Q E0
theorem un_inv (F : FnOk X.prog X.w X.K X.mg X.base CX0 k f fd ps sp) (hr : Room k X.A) (hb : Binds X.K fd ps []) (w : Own X.K C "__invert__" f) : UnR X (unaryOp .Invert) (rInv C sp) := by
  intro pins s σ H x v Q I rx h
  obtain ⟨y, dx, fv, rfl, hy, hs⟩ := h
  cases rx
  obtain ⟨ox, od, J⟩ := ins_at I hy
  obtain ⟨m, hF⟩ := I.fr
  exact PySem.W.ksp_inv hF I.ok.mod.kin J w.at_ w.fn (run_at F hr hb I (.cons (rref y) .nil) hs)
theorem re_inv (G : FnOk X.prog X.w X.K X.mg X.base CX0 k f fd ps (spF X.K R)) (hr : Room k X.A) (hb : Binds X.K fd ps []) (w : Own X.K C "__invert__" f) (ha : RE X W p ρ c a (.val (.obj C fs) nw c1)) (ho : R [.obj C fs] c1 (.val d n2 c2)) : RE X W p ρ c (.UnaryOp .Invert a pos) (.val d n2 c2) :=
  pe_imp (pe_un (un_inv G hr hb w) ha) fun σ H Q h => ⟨h.1, fun v H1 e1 p1 dv _ => by
    cases dv with
    | obj hv r => exact ⟨_, _, _, rfl, (hide_some hv).1, p, c1, _, _, .cons (.obj hv r) .nil, p1, ho, fun w H2 e2 p2 dw hn => h.2 w H2 (e1.trans e2) p2 dw fun z => (hn z).back e1⟩⟩
/-! ### len(o) -/
def rLenO (C : Addr) (sp : Sp) : List V → Hp → VK → Prop := fun xs H Q => ∃ y dx fv, xs = [.ref y] ∧ H y = some (.ins C dx fv) ∧ sp [.ref y] H (fun v H' => ∃ n : Nat, v = .int n ∧ n < 100000 ∧ Q (.int n) H') E0
theorem call_lenO (F : FnOk X.prog X.w X.K X.mg X.base CX0 k f fd ps sp) (hr : Room (k + 1) X.A) (hb : Binds X.K fd ps []) (w : Own X.K C "__len__" f) : CallR X (.builtin "len") (rLenO C sp) := by
  intro pins s σ H xs us Q I rx h
  obtain ⟨y, dx, fv, rfl, hy, hs⟩ := h
  cases rx with
  | cons r1 r2 =>
    cases r2
    cases r1
    obtain ⟨ox, od, J⟩ := ins_at I hy
    obtain ⟨m, hF⟩ := I.fr
    refine PySem.W.len_K hF I.ok.mod.kin J w.at_ w.fn (wpAny_mono (run_in F hr hb I (.cons (rref y) .nil) hs) (fun u s' hu => ?_) fun _ _ z => z)
    obtain ⟨v, H', I', rv, n, rfl, hn, q⟩ := hu
    obtain ⟨tk, rfl⟩ := rv
    exact ⟨⟨Int.natCast_nonneg n, by omega⟩, ⟨.int n, H', I'.tok _, ⟨_, rfl⟩, q⟩⟩
theorem cv_lenO {n : Nat} (hn : n < 100000) (ho : R [.obj C fs] c (.val (.int n) n2 c)) : CV X.K p (rLenO C (spF X.K R)) [.obj C fs] (.int n) true c := fun vs H Q dvs hp kk => by
  cases dvs with
  | cons h r =>
    cases r
    cases h with
    | obj hv r => exact ⟨_, _, _, rfl, (hide_some hv).1, p, c, _, _, .cons (.obj hv r) .nil, hp, ho, fun v H2 e2 p2 dw _ => by
        cases dw
        exact ⟨n, rfl, hn, kk (.int n) H2 e2 p2 (.int _) fun _ => New.sc (by intro a h; cases h)⟩⟩
/-! ### x in o -/
def rInO (C : Addr) (sp : Sp) (neg : Bool) : R2 := fun x z H Q => ∃ y dx fv, z = .ref y ∧ H y = some (.ins C dx fv) ∧ sp [.ref y, x] H (fun v H' => ∃ k : Bool, v = .bl k ∧ Q (.bl (neg ^^ k)) H') E0
theorem op_inO (F : FnOk X.prog X.w X.K X.mg X.base CX0 k f fd ps sp) (hr : Room k X.A) (hb : Binds X.K fd ps []) (w : Own X.K C "__contains__" f) : OpR X (compareOp .In) (rInO C sp false) := by
  intro pins s σ H x z v u Q I rx rz h
  obtain ⟨y, dx, fv, rfl, hy, hs⟩ := h
  cases rz
  obtain ⟨ox, od, J⟩ := ins_at I hy
  obtain ⟨m, hF⟩ := I.fr
  refine PySem.W.in_K hF I.ok.mod.kin J w.at_ w.fn (wpAny_mono (run_at F hr hb I (.cons (rref y) (.cons rx .nil)) hs) (fun u s' hu => ?_) fun _ _ z => z)
  obtain ⟨v, H', I', rv, k, rfl, q⟩ := hu
  cases rv
  exact wpAny_truthy_bool ⟨.bl k, H', I', rfl, by rw [Bool.false_xor] at q; exact q⟩
theorem op_niO (F : FnOk X.prog X.w X.K X.mg X.base CX0 k f fd ps sp) (hr : Room k X.A) (hb : Binds X.K fd ps []) (w : Own X.K C "__contains__" f) : OpR X (compareOp .NotIn) (rInO C sp true) := by
  intro pins s σ H x z v u Q I rx rz h
  obtain ⟨y, dx, fv, rfl, hy, hs⟩ := h
  cases rz
  obtain ⟨ox, od, J⟩ := ins_at I hy
  obtain ⟨m, hF⟩ := I.fr
  refine PySem.W.notIn_K hF I.ok.mod.kin J w.at_ w.fn (wpAny_mono (run_at F hr hb I (.cons (rref y) (.cons rx .nil)) hs) (fun u s' hu => ?_) fun _ _ z => z)
  obtain ⟨v, H', I', rv, k, rfl, q⟩ := hu
  cases rv
  exact wpAny_truthy_bool ⟨.bl (!k), H', I', rfl, by rw [Bool.true_xor] at q; exact q⟩
theorem ov_inO {neg kb : Bool} (ho : R [.obj C fs, d1] c (.val (.bl kb) n2 c)) : OV X.K p (rInO C (spF X.K R) neg) d1 (.obj C fs) (.bl (neg ^^ kb)) true c := fun v u H Q dv du hp kk => by
  cases du with
  | obj hv r => exact ⟨_, _, _, rfl, (hide_some hv).1, p, c, _, _, .cons (.obj hv r) (.cons dv .nil), hp, ho, fun v H2 e2 p2 dw _ => by
      cases dw
      exact ⟨kb, rfl, kk (.bl _) H2 e2 p2 (.bl _) fun _ => New.sc (by intro a h; cases h)⟩⟩
/-! ### o == o' -/
def rEqO (C : Addr) (sp : Sp) : R2 := fun x z H Q => ∃ y y' dx fv dx' fv', x = .ref y ∧ z = .ref y' ∧ H y = some (.ins C dx fv) ∧ H y' = some (.ins C dx' fv') ∧ sp [.ref y, .ref y'] H (fun v H' => ∃ k : Bool, v = .bl k ∧ Q (.bl k) H') E0
theorem op_eqO (F : FnOk X.prog X.w X.K X.mg X.base CX0 k f fd ps sp) (hr : Room k X.A) (hb : Binds X.K fd ps []) (w : Own X.K C "__eq__" f) : OpR X (compareOp .Eq) (rEqO C sp) := by
  intro pins s σ H x z v u Q I rx rz h
  obtain ⟨y, y', dx, fv, dx', fv', rfl, rfl, hy, hy', hs⟩ := h
  cases rx
  cases rz
  obtain ⟨ox, od, J⟩ := ins_at I hy
  obtain ⟨ox', od', J'⟩ := ins_at I hy'
  obtain ⟨m, hF⟩ := I.fr
  show wpAny (model X.prog X.w) X.A (richCompare .Eq _ _) (EP X pins σ Q) X.xe s
  refine PySem.W.cmp_K (op := .Eq) (tb := .ref C) hr.units0 hF I.ok.mod.kin J J'.type (by simp [PySem.W.notFirst]) w.at_ w.fn (wpAny_mono (run_at F hr hb I (.cons (rref y) (.cons (rref y') .nil)) hs) (fun u s' hu => ?_) fun _ _ z => z)
  obtain ⟨v, H', I', rv, k, rfl, q⟩ := hu
  cases rv
  exact ⟨.bl k, H', I', rfl, q⟩
theorem ov_eqO {kb : Bool} (ho : R [.obj C fs, .obj C gs] c (.val (.bl kb) n2 c)) : OV X.K p (rEqO C (spF X.K R)) (.obj C fs) (.obj C gs) (.bl kb) true c := fun v u H Q dv du hp kk => by
  cases dv with
  | obj hv r =>
    cases du with
    | obj hv' r' => exact ⟨_, _, _, _, _, _, rfl, rfl, (hide_some hv).1, (hide_some hv').1, p, c, _, _, .cons (.obj hv r) (.cons (.obj hv' r') .nil), hp, ho, fun v H2 e2 p2 dw _ => by
        cases dw
        exact ⟨kb, rfl, kk (.bl _) H2 e2 p2 (.bl _) fun _ => New.sc (by intro a h; cases h)⟩⟩
/-! ### o == a text, a number, .. -/
def rEqX (X : Cx) (C : Addr) (sp : Sp) : R2 := fun x z H Q => ∃ y dx fv t, x = .ref y ∧ H y = some (.ins C dx fv) ∧ (∀ u, RelV z u → typeOf u = pure t) ∧ PySem.W.notFirst X.K C t = true ∧ sp [.ref y, z] H (fun v H' => ∃ k : Bool, v = .bl k ∧ Q (.bl k) H') E0
theorem op_eqX (F : FnOk X.prog X.w X.K X.mg X.base CX0 k f fd ps sp) (hr : Room k X.A) (hb : Binds X.K fd ps []) (w : Own X.K C "__eq__" f) : OpR X (compareOp .Eq) (rEqX X C sp) := by
  intro pins s σ H x z v u Q I rx rz h
  obtain ⟨y, dx, fv, t, rfl, hy, ht, hn, hs⟩ := h
  cases rx
  obtain ⟨ox, od, J⟩ := ins_at I hy
  obtain ⟨m, hF⟩ := I.fr
  show wpAny (model X.prog X.w) X.A (richCompare .Eq _ _) (EP X pins σ Q) X.xe s
  refine PySem.W.cmp_K (op := .Eq) (tb := t) hr.units0 hF I.ok.mod.kin J (PySem.W.Looks.of_pure (ht u rz)) hn w.at_ w.fn (wpAny_mono (run_at F hr hb I (.cons (rref y) (.cons rz .nil)) hs) (fun u s' hu => ?_) fun _ _ z => z)
  obtain ⟨v, H', I', rv, k, rfl, q⟩ := hu
  cases rv
  exact ⟨.bl k, H', I', rfl, q⟩
end
end LA

/-! own operators that may raise; an object's fields are set; its text -/
namespace LA
open PySem PySem.Spec PyProof.Rows L2
section
variable {X : Cx} {W : WX} {p : HD} {ρ ρ1 : Rho} {c c1 c2 c3 : PC} {e a b fe : Expr} {es : List Expr} {pos apos : Pos} {d d1 d2 : D} {n1 n2 nw : Bool} {o o' : EO}
variable {CX : CXT} {k : Nat} {f C g : Addr} {fd : FuncData} {ps : List Str} {R : FSpec} {x m : Str} {xp : Pos} {ds : List D} {fs gs : List (Str × D)} {sp : Sp} {E : L2.St → XK} {ta tb tf : TE} {t : TA}
/-! ### o(..) -/
def tCallI (C : Addr) (sp : Sp) (E : L2.St → XK) (tf : TE) (t : TA) : TE := fun σ H Q => tf σ H fun y H1 => ∃ z, y = V.ref z ∧ t σ H1 fun vs H2 => (∃ dx fv, H2 z = some (.ins C dx fv)) ∧ sp (V.ref z :: vs) H2 Q (E σ)
theorem pe_callI (hf : PE X fe tf) (w : StX.CallO X.K C g) (F : FnOk X.prog X.w X.K X.mg X.base CX k g fd ps sp) (hr : Room k X.A) (hb : Binds X.K fd ps []) (hx : ∀ σ, PassesAt CX X σ (E σ)) (ha : PA X (e :: es) t)
    (ht : eval (.Call fe (e :: es) [] pos) X.env = (do callWith pos (← eval fe X.env) [] (backTo pos (starEach (e :: es) X.env)) (backToKw pos (keywordEach [] X.env))))
    (he : starEach (e :: es) X.env = (false, eval e X.env) :: starEach es X.env) (hpl : (backTo pos (starEach es X.env)).any (·.1) = false) : PE X (.Call fe (e :: es) [] pos) (tCallI C sp E tf t) := ⟨fun pins s σ H Q I h => by
  refine Call_ (thn (hf.run pins s σ H _ I h) fun u s1 hu => ?_) ht
  obtain ⟨y, H1, I1, ry, z, rfl, q⟩ := hu
  obtain rfl : u = Value.ref z := ry
  refine StX.callO_with (thn (ha.run pos pins s1 σ H1 _ I1 q) fun us s2 hu => ?_) he hpl
  obtain ⟨vs, H2, I2, r, ⟨dx, fv, hz⟩, q2⟩ := hu
  obtain ⟨ox, od, J, hd⟩ := StX.insC_at I2 (C := C) (.inr ⟨dx, fv, hz⟩)
  refine ⟨⟨C, ox, od, J, hd⟩, wpAny_call (PySem.W.kco_code I2.kIn J hd w.at_ w.fn w.fi ?_)⟩
  have hl : (Value.ref z :: us).length = ps.length := by
    have rr : Vals (V.ref z :: vs) (Value.ref z :: us) := .cons rfl r
    rw [← rr.length]
    exact F.len _ _ _ _ q2
  have bd := hb s2 (Value.ref z :: us) I2.kIn (by rw [List.append_nil]; exact hl)
  rw [List.append_nil] at bd
  refine codeAny_mono (F.run X.A X.stack s2 H2 ⟨Value.ref z :: us, []⟩ (Value.ref z :: us) (V.ref z :: vs) Q (E σ) hr I2.env0 bd (.cons rfl r) q2) fun y s' hy => ?_
  match y, hy with
  | .error er, hy => exact hx σ pins H2 s2 er s' I2 hy
  | .ok (.ret u), hy => exact I2.after hy
  | .ok .next, hy => exact hy.elim
  | .ok .brk, hy => exact hy.elim
  | .ok .cont, hy => exact hy.elim⟩
theorem re_callO (tk : Takes X W) (G : FnOk X.prog X.w X.K X.mg X.base (L2.CX X.prog X.w) k g fd ps (spF X.K R)) (hr : Room k X.A) (hb : Binds X.K fd ps []) (w : StX.CallO X.K C g) (hf : RE X W p ρ c fe (.val (.obj C fs) nw c1)) (ha : RA X W p ρ c1 (e :: es) (.val ds c2)) (ho : R (.obj C fs :: ds) c2 o)
    (ht : eval (.Call fe (e :: es) [] pos) X.env = (do callWith pos (← eval fe X.env) [] (backTo pos (starEach (e :: es) X.env)) (backToKw pos (keywordEach [] X.env))) := by rfl)
    (he : starEach (e :: es) X.env = (false, eval e X.env) :: starEach es X.env := by rfl) (hpl : (backTo pos (starEach es X.env)).any (·.1) = false := by rfl) : RE X W p ρ c (.Call fe (e :: es) [] pos) o :=
  pe_imp (pe_callI hf w G hr hb (fun σ => passAt tk σ) ha ht he hpl) fun σ H Q h => ⟨tE_sr h, fun v H1 e1 p1 dv _ => by
    cases dv with
    | @obj y _ dx fv _ hv r =>
      refine ⟨y, rfl, (tE_sr h).mono e1 p1, fun vs H2 e2 p2 dvs => ?_⟩
      have d2 : DV X.K p H2 (.ref y) (.obj C fs) := (DV.obj hv r).mono e2
      have h2 := e2.hide y _ hv
      exact ⟨⟨dx, fv, (hide_some h2).1⟩, p, c2, _, o, .cons d2 dvs, p2, ho, fo_at h (e1.trans e2)⟩⟩
/-! ### o & o', and so on -/
def tBinO (C : Addr) (sp : Sp) (E : L2.St → XK) (ta tb : TE) : TE := fun σ H Q => ta σ H fun x H1 => tb σ H1 fun z H2 => ∃ y y' dx fv dx' fv', x = V.ref y ∧ z = V.ref y' ∧ H2 y = some (.ins C dx fv) ∧ H2 y' = some (.ins C dx' fv') ∧ sp [.ref y, .ref y'] H2 (fun v H' => (∃ r, v = V.ref r) ∧ Q v H') (E σ)
theorem pe_binO {op : Operator} (F : FnOk X.prog X.w X.K X.mg X.base CX k f fd ps sp) (hr : Room k X.A) (hb' : Binds X.K fd ps []) (hx : ∀ σ, PassesAt CX X σ (E σ)) (w : Own X.K C (PySem.dunder op.info.2) f) (hc : PySem.W.selfFirst X.K C = true)
    (ha : PE X a ta) (hb : PE X b tb) : PE X (.BinOp a op b pos) (tBinO C sp E ta tb) := ⟨fun pins s σ H Q I h =>
  wpAny_BinOp (binT ha hb I h fun v u s2 x z H2 I2 rx rz q => by
    obtain ⟨y, y', dx, fv, dx', fv', rfl, rfl, hy, hy', hs⟩ := q
    cases rx
    cases rz
    obtain ⟨ox, od, J⟩ := ins_at I2 hy
    obtain ⟨ox', od', J'⟩ := ins_at I2 hy'
    obtain ⟨m, hF⟩ := I2.fr
    refine PySem.W.binop_K hF I2.ok.mod.kin J J'.type hc w.at_ w.fn (wpAny_mono (run_fnS F hr hb' (hx σ) I2 (.cons (rref y) (.cons (rref y') .nil)) hs) (fun u s' hu => ?_) fun _ _ z => z)
    obtain ⟨v, H', I', rv, ⟨r, rfl⟩, q⟩ := hu
    cases rv
    exact ⟨.ref r, H', I', rfl, q⟩)⟩
def isObj : EO → Prop
  | .val (.obj _ _) _ _ => True
  | .ex _ _ _ => True
  | _ => False
theorem re_binO {op : Operator} (tk : Takes X W) (G : FnOk X.prog X.w X.K X.mg X.base (L2.CX X.prog X.w) k f fd ps (spF X.K R)) (hr : Room k X.A) (hb : Binds X.K fd ps []) (w : Own X.K C (PySem.dunder op.info.2) f) (hc : PySem.W.selfFirst X.K C = true)
    (ha : RE X W p ρ c a (.val (.obj C fs) n1 c1)) (hb' : RE X W p ρ c1 b (.val (.obj C gs) n2 c2)) (ho : R [.obj C fs, .obj C gs] c2 o) (hi : isObj o) : RE X W p ρ c (.BinOp a op b pos) o :=
  pe_imp (pe_binO G hr hb (fun σ => passAt tk σ) w hc ha hb') fun σ H Q h => two (W := W) (tE_sr h) rfl rfl fun v u H1 e1 p1 dv du => by
    cases dv with
    | obj hv r =>
      cases du with
      | obj hv' r' =>
        refine ⟨_, _, _, _, _, _, rfl, rfl, (hide_some hv).1, (hide_some hv').1, p, c2, _, o, .cons (.obj hv r) (.cons (.obj hv' r') .nil), p1, ho, ?_⟩
        cases o with
        | val dz nz cz =>
          cases dz <;> first | exact False.elim hi | skip
          intro w H2 e2 p2 dw hn
          refine ⟨?_, fo_at h e1 w H2 e2 p2 dw hn⟩
          cases dw
          exact ⟨_, rfl⟩
        | ex C' es' cz => exact fo_at h e1
/-! ### o.f = e, of what changes still -/
theorem hide_flat_sub {H : Hp} {y : Addr} {u : HO} (hm : y ∈ p.m) : Sub (hide p.flat H) (hide p.flat (L2.upd H y u)) := fun z q hz => by
  obtain ⟨h1, h2⟩ := hide_some hz
  rw [hide_ne h2, upd_ne (fun q => h2 (.inr (by rw [q]; exact List.mem_append.mpr (.inl hm))))]
  exact h1
def putD (f : Str) (v : D) : List (Str × D) → List (Str × D)
  | [] => [(f, v)]
  | (g, x) :: r => if g = f then (g, v) :: r else (g, x) :: putD f v r
theorem DVf.put {K : PySem.W.Frag} {H : Hp} {f : Str} {v : V} {d : D} (h : DV K p H v d) : ∀ {vs : List (Str × V)} {ds : List (Str × D)}, DVf K p H vs ds → DVf K p H (putF f v vs) (putD f d ds)
  | _, _, .nil => .cons h .nil
  | _, _, .cons (f := g) q r => by
    unfold putF putD
    split
    · exact .cons h r
    · exact .cons q (DVf.put h r)
theorem DVf.len {K : PySem.W.Frag} {H : Hp} : ∀ {vs : List (Str × V)} {ds : List (Str × D)}, DVf K p H vs ds → vs.length = ds.length
  | _, _, .nil => rfl
  | _, _, .cons _ r => by rw [List.length_cons, List.length_cons, DVf.len r]
theorem rs_fldM {i : Nat} {pos' : Pos} (he : RE X W p ρ c e (.val d nw c1)) (ha : RE X W p ρ c1 a (.val (.mut i) n2 c1)) (hc : c1[i]? = some (.ins C fs)) (cl : Cls X.K C) (na : NoAttr X.K C m) (hl : fs.length < 1000) (lo : lowD 0 d = true)
    (hs : swapsWith e (some (.Attribute a m pos')) pos.line X.env = pure false := by rfl) : RS X W p ρ c (.Assign [.Attribute a m pos'] e pos) (.nx ρ (c1.set i (.ins C (putD m d fs)))) :=
  ps_imp (ps_fld ha he hs) fun De σ H ⟨s, kk⟩ => ⟨s, fun v H1 e1 p1 dv _ => ⟨s.mono e1 p1, fun u H2 e2 p2 du hnn => by
    clear hnn
    generalize hm : D.mut i = dm at du
    cases du <;> cases hm
    rename_i y hi
    obtain ⟨dx, fv, hv, r⟩ : CellAt X.K p H2 y (.ins C fs) := p2.1.2.2 i y _ hi hc
    refine ⟨y, C, dx, fv, rfl, hv, cl, na, by rw [r.len]; exact hl, ?_⟩
    have hm := List.mem_of_getElem? hi
    have sb := hide_flat_sub (H := H2) (u := .ins C dx (putF m v fv)) hm
    have dz : DV X.K p.flat (L2.upd H2 y (.ins C dx (putF m v fv))) v d := ((dv.mono e2).low (n := 0) (p := p) (q := p.flat) (fun b q z => by rw [hide_flat]; exact z) (fun _ _ z => absurd z (Nat.not_lt_zero _)) lo).sub sb fun _ _ z => z
    have cell : CellAt X.K p (L2.upd H2 y (.ins C dx (putF m v fv))) y (.ins C (putD m d fs)) := ⟨dx, _, upd_same, DVf.put dz (r.sub sb fun _ _ z => z)⟩
    have pp := p2.put hi cell
    have ext : Ext p H (L2.upd H2 y (.ins C dx (putF m v fv))) := fun b q nb hq => by
      rw [upd_ne (fun z => nb (by rw [z]; exact hm))]
      exact e2 b q nb (e1 b q nb hq)
    exact kk σ _ ext (s.mono ext pp)⟩⟩
/-! ### str(o) -/
theorem run_in2 {pins : List (Addr × Obj)} {σ : L2.St} {H : Hp} {s : Shared} {Q : VK} {us : List Value} {vs : List V} {E' : Value → Shared → Prop} (F : FnOk X.prog X.w X.K X.mg X.base CX0 k f fd ps sp) (hr : Room (k + 1 + 1) X.A) (hb : Binds X.K fd ps [])
    (I : Inv X pins σ H s) (r : Vals vs us) (h : sp vs H Q E0) : wpAny (model X.prog X.w) X.A.in1.in1 (call (.ref f) us) (EP X pins σ Q) E' s := by
  have hl : us.length = ps.length := by
    rw [← r.length]
    exact F.len _ _ _ _ h
  have bd := hb s us I.kIn (by rw [List.append_nil]; exact hl)
  rw [List.append_nil] at bd
  have run := F.run X.A.in1.in1 X.stack s H ⟨us, []⟩ us vs Q E0 hr.in1.in1 I.env0.in1.in1 bd r h
  refine wpAny_call (codeAny_mono run fun z s' hz => ?_)
  match z, hz with
  | .error er, hz => exact hz.elim
  | .ok (.ret u), hz => exact I.after hz
  | .ok .next, hz => exact hz.elim
  | .ok .brk, hz => exact hz.elim
  | .ok .cont, hz => exact hz.elim
def rStrO (C : Addr) (sp : Sp) : List V → Hp → VK → Prop := fun xs H Q => ∃ y dx fv, xs = [.ref y] ∧ H y = some (.ins C dx fv) ∧ sp [.ref y] H (fun v H' => ∃ z, v = .str z ∧ Q (.str z) H') E0
theorem call_strO (F : FnOk X.prog X.w X.K X.mg X.base CX0 k f fd ps sp) (hr : Room (k + 1 + 1) X.A) (hb : Binds X.K fd ps []) (w : Own X.K C "__str__" f) : CallR X (.type "str") (rStrO C sp) := by
  intro pins s σ H xs us Q I rx h
  obtain ⟨y, dx, fv, rfl, hy, hs⟩ := h
  cases rx with
  | cons r1 r2 =>
    cases r2
    cases r1
    obtain ⟨ox, od, J⟩ := ins_at I hy
    refine PySem.W.kso_call hr.in1.in1.units0 I.kIn J w.at_ w.fn (wpAny_mono (run_in2 F hr hb I (.cons (rref y) .nil) hs) (fun u s' hu => ?_) fun _ _ z => z)
    obtain ⟨v, H', I', rv, z, rfl, q⟩ := hu
    obtain ⟨tk, rfl⟩ := rv
    exact ⟨.str z, H', I', ⟨_, rfl⟩, q⟩
theorem cv_strO {z : Str} (ho : R [.obj C fs] c (.val (.str z) n2 c)) : CV X.K p (rStrO C (spF X.K R)) [.obj C fs] (.str z) true c := fun vs H Q dvs hp kk => by
  cases dvs with
  | cons h r =>
    cases r
    cases h with
    | obj hv r => exact ⟨_, _, _, rfl, (hide_some hv).1, p, c, _, _, .cons (.obj hv r) .nil, hp, ho, fun v H2 e2 p2 dw _ => by
        cases dw
        exact ⟨z, rfl, kk (.str z) H2 e2 p2 (.str _) fun _ => New.sc (by intro a h; cases h)⟩⟩
end
end LA

/-! a walk over an object whose __iter__ gives the iterator of a list that it holds -/
namespace LA
open PySem PySem.Spec PyProof.Rows L2
/-- a def whose promise may speak of how large the heap is when it is called -/
structure FnSz (P : Program) (w : World) (K : PySem.W.Frag) (mg : Str → Option Value) (base : Heap) (k : Nat) (f : Addr) (fd : FuncData) (ps : List Str) (sp : Nat → Sp) : Prop where
  len : ∀ n vs H Q E, sp n vs H Q E → vs.length = ps.length
  run : ∀ (A : Around) (outer : List Env) (s : Shared) (H : Hp) (args : Args) (us : List Value) (vs : List V) (Q : VK) (E : XK), Room k A → Env0 P w K mg base A outer s H → BindsTo s fd args (ps.zip us) → Vals vs us → sp s.heap.objs.size vs H Q E →
    codeAny (model P w) A (.call (.ref f) args) (CR CX0 outer P w H s Q E) s
section
variable {P : Program} {w : World} {K : PySem.W.Frag} {mg : Str → Option Value} {base : Heap} {x qual : Str} {st : Stmt} {f : Addr} {fd : FuncData} {N ps : List Str} {k : Nat} {sp : Nat → Sp}
theorem fn_sz (F : Fun K x qual st f fd) (S : FnScope N ps (defScope st)) (hlen : ∀ n vs H Q E, sp n vs H Q E → vs.length = ps.length)
    (body : ∀ (cdv : Value) (A : Around) (outer : List Env) (s : Shared) (H : Hp) (vs : List V) (Q : VK) (E : XK), Room k (A.deeper (envOfC qual (defScope st) s.heap.objs.size f cdv)) → sp s.heap.objs.size vs H Q E →
      ∃ t, PSs (cxOf CX0 P w K mg base N qual (defScope st) f cdv A outer s H E).nox (defBody st) t ∧ t { nx := fun _ H' => Q .non H', rt := Q } (L2.start N vs) H) : FnSz P w K mg base (k + 1) f fd ps sp := by
  obtain ⟨oc, od, kV, doc, pm, an, cdv, ct, osl, rfl, lk, hcd⟩ := F.ex
  constructor
  · exact hlen
  · intro A outer s H args us vs Q E hr e0 hb rv hsp
    have eL := hlen _ _ _ _ _ hsp
    have kin : K.In s.heap := e0.mod.kin.keeps fun b o z => (e0.bs b o z).1
    have nol : s.heap.NoLimit := e0.mod.nolimit.keeps fun b o z => (e0.bs b o z).1
    have kinds : ∀ y ∈ ps.zip us, (defScope st).names.lookup y.1 = some .local ∨ ((defScope st).names.lookup y.1 = some .cell ∧ ((cellsFrom (s.heap.objs.size + 1) (defScope st).names []).lookup y.1).isSome = true) := by
      rintro ⟨n, v⟩ hy
      exact (S.par n (List.of_mem_zip hy).1).elim .inl fun q => .inr ⟨q, PySem.W.cellsFrom_some _ _ _ (.inl q)⟩
    refine codeAny_call_function hr.depth (kin _ _ lk) rfl S.co S.gen rfl (PySem.W.codeRec_of kin hcd) (hb _ _ _ _ (wpAny_newFunctionEnv_cells S.kind kinds fun env he s1 z => ?_))
    subst he
    refine ⟨nol.keeps z.toInCall.keep, codeAny_func ?_⟩
    obtain ⟨t, ht, hq⟩ := body cdv A outer s H vs Q E (hr.deeper _) hsp
    have J := inv_start (CX := CX0) (E := E) S hr.hd e0 eL rv z
    refine wpAny_mono (ht.nox.run [] s1 (L2.start N vs) H _ J hq) (fun fl s' hs => ?_) fun _ _ z => z
    match fl, hs with
    | .ret u, ⟨v, σ', H', J', rr, q⟩ => exact ⟨v, H', J'.os, J'.bare, J'.base, J'.hok, rr, q⟩
    | .next, ⟨σ', H', J', q⟩ => exact ⟨V.non, H', J'.os, J'.bare, J'.base, J'.hok, rfl, q⟩
    | .brk, ⟨_, _, _, q⟩ => exact q.elim
    | .cont, ⟨_, _, _, q⟩ => exact q.elim
end
/-- what such an __iter__ promises -/
def spIter (K : PySem.W.Frag) (C : Addr) (fld : Str) (n : Nat) : Sp := fun vs H Q _ => ∃ y dx fv l zs, vs = [.ref y] ∧ H y = some (.ins C dx fv) ∧ fv.lookup fld = some (.ref l) ∧ SqL K H l zs ∧ ∀ it, H it = none → n ≤ it → Q (.ref it) (L2.upd H it (ItO l it 0))
section
variable {X : Cx} {W : WX} {p : HD} {ρ ρ1 : Rho} {c c1 c2 : PC} {e tg : Expr} {nw : Bool} {k : Nat} {f C : Addr} {fd : FuncData} {ps : List Str} {fs : List (Str × D)} {m : Str}
theorem fn_iter {P : Program} {w : World} {K : PySem.W.Frag} {mg : Str → Option Value} {base : Heap} {x qual : Str} {st : Stmt} {N : List Str} {p1 p2 p3 p4 p5 : Pos} (F : Fun K x qual st f fd) (S : FnScope N ["self"] (defScope st)) (hN : N[0]? = some ("self" : Str)) (cl : Cls K C) (na : NoAttr K C m) (hm : mg "iter" = none)
    (hb : defBody st = [.Return (some (.Call (.Name "iter" p1) [.Attribute (.Name "self" p2) m p3] [] p4)) p5])
    (gl : ∀ (cdv : Value) (A : Around) (outer : List Env) (s : Shared) (H : Hp) (E : XK), Gl (cxOf CX0 P w K mg base N qual (defScope st) f cdv A outer s H E).nox "iter") : FnSz P w K mg base (k + 1) f fd ["self"] (spIter K C m) := by
  refine fn_sz F S (fun n vs H Q E h => ?_) fun cdv A outer s H vs Q E hr h => ?_
  · obtain ⟨y, dx, fv, l, zs, rfl, _⟩ := h
    rfl
  · obtain ⟨y, dx, fv, l, zs, rfl, hy, hl, hq, q⟩ := h
    rw [hb]
    refine ⟨_, pss_one (ps_ret (pe_callB ItX.call_iterN (gl cdv A outer s H E) hm (by first | rfl | decide +kernel) (pa_cons (pe_fld (pe_var (i := 0) hN ((S.par "self" (List.Mem.head _)).elim (fun z => .inl z) (fun z => .inr (.inl z)))) rfl) pa_nil))), ?_⟩
    exact ⟨.ref y, rfl, y, C, dx, fv, .ref l, rfl, hy, cl, na, hl, l, zs, rfl, hq, fun it n1 n2 => q it n1 n2⟩
def iObj (K : PySem.W.Frag) (C : Addr) (fld : Str) (tl : TE) : TI := fun σ H R => tl σ H fun x H1 => ∃ y dx fv l zs, x = .ref y ∧ H1 y = some (.ins C dx fv) ∧ fv.lookup fld = some (.ref l) ∧ SqL K H1 l zs ∧ R (Itl K l) H1
theorem pi_obj {tl : TE} (G : FnSz X.prog X.w X.K X.mg X.base k f fd ps (spIter X.K C m)) (hr : Room k X.A) (hb : Binds X.K fd ps []) (w : Own X.K C "__iter__" f) (hl : PE X e tl) : PI X tg e (iObj X.K C m tl) := ⟨fun pins s σ H R I h =>
  thn (hl.run pins s σ H _ I h) fun v s1 hv => by
    obtain ⟨xv, H1, I1, r1, y, dx, fv, l, zs, rfl, hy, hf, hq, q⟩ := hv
    cases r1
    obtain ⟨ox, od, J⟩ := ins_at I1 hy
    obtain ⟨mm, hF⟩ := I1.fr
    have hsp : spIter X.K C m s1.heap.objs.size [.ref y] H1 (fun z H' => ∃ it, z = .ref it ∧ H1 it = none ∧ s1.heap.objs.size ≤ it ∧ H' = L2.upd H1 it (ItO l it 0)) E0 := ⟨y, dx, fv, l, zs, rfl, hy, hf, hq, fun it n1 n2 => ⟨it, rfl, n1, n2, rfl⟩⟩
    have bd := hb s1 [Value.ref y] I1.kIn (by
      have := G.len _ _ _ _ _ hsp
      rw [List.append_nil]
      exact this)
    rw [List.append_nil] at bd
    have run := G.run X.A X.stack s1 H1 ⟨[.ref y], []⟩ [.ref y] [.ref y] _ E0 hr I1.env0 bd (.cons (rref y) .nil) hsp
    refine PySem.W.owit_iter hF I1.ok.mod.kin J w.at_ w.fn (wpAny_call (codeAny_mono run fun z s' hz => ?_))
    match z, hz with
    | .error er, hz => exact hz.elim
    | .ok .next, hz => exact hz.elim
    | .ok .brk, hz => exact hz.elim
    | .ok .cont, hz => exact hz.elim
    | .ok (.ret u), hz =>
      obtain ⟨v, H', I2, rv, it, rfl, n1, n2, rfl⟩ := I1.after hz
      cases rv
      have hi : L2.upd H1 it (ItO l it 0) it = some (ItO l it 0) := upd_same
      have eo := itO_get I2 hi
      have hT : s'.TypeIs (.ref it) "list_iterator" := ⟨_, eo, rfl⟩
      refine wpAny_specialOf (name := Str.ofString "__next__") hT slot_listiter_next.lookup ?_
      have hi' := hi
      unfold ItO at hi'
      have I3 := ItX.inv_drop I2 hi'
      have fp := ItX.inv_fp I2 hi (Nat.le_trans I1.sz n2)
      rw [ItX.dropH_upd n1] at I3 fp
      refine ⟨it, [it], _, _, H1, rfl, I3, turn_list l it, ⟨_, eo, rfl, rfl⟩, fun b hb' => ?_, q⟩
      obtain rfl : b = it := by simpa using hb'
      exact fp⟩
theorem ri_obj {g : LA.G} {xs : List D} (G : FnSz X.prog X.w X.K X.mg X.base k f fd ps (spIter X.K C m)) (hr : Room k X.A) (hb : Binds X.K fd ps []) (w : Own X.K C "__iter__" f) (h : RE X W p ρ c e (.val (.obj C fs) nw c1)) (hm : fs.lookup m = some (.lst g xs)) : RI X W p ρ c tg e xs c1 :=
  pi_imp (pi_obj G hr hb w h) fun σ H R ⟨s, kk⟩ => ⟨s, fun v H1 e1 p1 dv _ => by
    cases dv with
    | obj hv r =>
      obtain ⟨lv, hl, dl⟩ := r.get hm
      cases dl with
      | @lst a vs _ _ _ hq rr =>
        refine ⟨_, _, _, a, vs, rfl, (hide_some hv).1, hl, un_sqL hq, kk _ H1 e1 p1 fun q c' H2 qe qs p2 => ?_⟩
        have hq2 : SqL X.K H2 a vs := un_sqL (qs.sqL hq)
        refine ⟨⟨vs, hq2, Nat.le_of_eq rr.length⟩, fun i d hd => ?_⟩
        obtain ⟨u, h1, h2⟩ := rr.get hd
        refine ⟨⟨vs, u, hq2, h1⟩, fun z H3 yy => ?_⟩
        obtain ⟨rfl, h3⟩ := yy
        obtain rfl : z = u := Option.some.inj ((h3 vs hq2).symm.trans h1)
        exact ⟨Ext.refl _ _, p2, h2.sub qs (fun i b zz => by rw [qe]; exact zz)⟩⟩
end
end LA

/-! o != o', by an own __eq__ alone -/
namespace LA
open PySem PySem.Spec PyProof.Rows L2 PySem.W
section
variable {prog : Program} {w : World} {A : Around} {E : Value → Shared → Prop} {s : Shared} {K : Frag} {x C f : Addr} {ox : Obj} {od : Option Obj} {b tb : Value} {name : Str} {id : String}
theorem bound_blt {M : Model} {args : List Value} {Q : Option Value → Shared → Prop} (X : K.In s.heap) (I : InstAt s.heap x ox C od) (hs : findIn K (.ref C) name = some (some (.builtin id))) (hb : ∀ self, bindSpecial (.builtin id) self = pure (.builtin id, [self]))
    (h : wpAny M A (call (.builtin id) (.ref x :: args)) (fun v => Q (some v)) E s) : wpAny M A (callSpecialIfBound? (.ref x) name args) Q E s := by
  have done : wpAny M A (call (.builtin id) ([.ref x] ++ args) >>= fun v => pure (some v)) Q E s := wpAny_bind (wpAny_mono h (fun _ _ z => wpAny_pure z) fun _ _ z => z)
  simp only [callSpecialIfBound?, bindSpecialIfBound?]
  refine wpAny_holding (wpAny_bind (wpAny_bind (wpAny_bind (I.type.here ((looks_findIn X hs).here (wpAny_bind (wpAny_askSetting (wpAny_ite ?_))))))))
  split
  · exact wpAny_bind ((Looks.of_pure (hb _)).here (wpAny_pure (by exact done)))
  · exact wpAny_tryCatch (wpAny_bind ((Looks.of_pure (hb _)).here (wpAny_pure (by exact done))))
theorem obj_ne {Q : Value → Shared → Prop} (hu : A.in1.units < cLine) (X : K.In s.heap) (I : InstAt s.heap x ox C od) (hm : mroIn K C (.type "object") = some true) (hs : findIn K (.ref C) "__eq__" = some (some (.ref f))) (hf : isFn K (.ref f) = true)
    (h : wpAny (model prog w) A.in1 (call (.ref f) [.ref x, b]) (fun v s' => ∃ k, v = .bool k ∧ Q (.bool (!k)) s') E s) : wpAny (model prog w) A (call (.builtin "object.__ne__") [.ref x, b]) Q E s := by
  refine wpAny_call (codeAny_call_builtin PySem.F.slot_object_ne.plain PySem.F.cmpEntry_ne (check_slot (i := "object.__ne__") (owner := "object") (n := "__ne__") (by decide +kernel) (by decide +kernel) (I.type.andThen (looks_mroIn X hm)) (PySem.F.cmpArgs_ne _ _) ?_))
  unfold Builtin.«object.__ne__»
  repeat (first
    | with_reducible refine wpAny_cRoomFor hu ?_
    | (refine wpAny_bind (m := callSpecialIfBound? (.ref x) (Str.ofString "__eq__") [b]) (ifBound_K X I hs hf (wpAny_mono h (fun r s' hr => by
          obtain ⟨k, rfl, hq⟩ := hr
          repeat (first | exact hq | exact wpAny_pure hq | exact wpAny_truthy_bool hq | (refine wpAny_bind (m := truthy (.bool _)) (wpAny_truthy_bool ?_)) | wp_step)) fun _ _ e => e)))
    | wp_step)
theorem cmp_ne {Q : Value → Shared → Prop} (hu : A.units < cLine) (hu1 : A.in1.units < cLine) (X : K.In s.heap) (I : InstAt s.heap x ox C od) (hb : Looks (model prog w) s.heap (typeOf b) tb) (hn : notFirst K C tb = true)
    (hm : mroIn K C (.type "object") = some true) (hne : findIn K (.ref C) "__ne__" = some (some (.builtin "object.__ne__"))) (hs : findIn K (.ref C) "__eq__" = some (some (.ref f))) (hf : isFn K (.ref f) = true)
    (h : wpAny (model prog w) A.in1 (call (.ref f) [.ref x, b]) (fun v s' => ∃ k, v = .bool k ∧ Q (.bool (!k)) s') E s) : wpAny (model prog w) A (richCompare .NotEq (.ref x) b) Q E s := by
  have one : wpAny (model prog w) A (tryCompare (.ref x) "__ne__" b) (fun r s' => ∃ k, r = some (.bool k) ∧ Q (.bool k) s') E s := by
    simp only [tryCompare]
    refine wpAny_bind (bound_blt X I hne PySem.F.slot_object_ne.bind (obj_ne hu1 X I hm hs hf (wpAny_mono h (fun v s' hv => ?_) fun _ _ z => z)))
    obtain ⟨k, rfl, hq⟩ := hv
    exact ⟨k, rfl, wpAny_pure ⟨_, rfl, hq⟩⟩
  unfold richCompare
  simp only [oneThing_ref]
  refine wpAny_holding (wpAny_bind (wpAny_cRoomFor hu (wpAny_bind (I.type.here (wpAny_bind (hb.here ?_))))))
  rw [cmpInfo_NotEq]
  dsimp only
  split
  · rename_i q
    have e : subIn K tb (.ref C) = some false := (Bool.or_eq_true_iff.mp hn).elim (fun e => by
      rw [beq_iff_eq.mp e] at q
      simp at q) fun e => beq_iff_eq.mp e
    refine wpAny_bind ((looks_subIn X e).here ?_)
    simp only [Bool.false_eq_true, if_false]
    refine wpAny_bind (wpAny_mono one (fun r s' z => ?_) fun _ _ z => z)
    obtain ⟨k, rfl, hq⟩ := z
    exact wpAny_pure hq
  · refine wpAny_bind (wpAny_pure ?_)
    simp only [Bool.false_eq_true, if_false]
    refine wpAny_bind (wpAny_mono one (fun r s' z => ?_) fun _ _ z => z)
    obtain ⟨k, rfl, hq⟩ := z
    exact wpAny_pure hq
end
section
variable {X : Cx} {W : WX} {p : HD} {c : PC} {k : Nat} {f C : Addr} {fd : FuncData} {ps : List Str} {R : FSpec} {sp : Sp} {n2 : Bool} {fs gs : List (Str × D)}
def rNeO (C : Addr) (sp : Sp) : R2 := fun x z H Q => ∃ y y' dx fv dx' fv', x = .ref y ∧ z = .ref y' ∧ H y = some (.ins C dx fv) ∧ H y' = some (.ins C dx' fv') ∧ sp [.ref y, .ref y'] H (fun v H' => ∃ k : Bool, v = .bl k ∧ Q (.bl (!k)) H') E0
theorem op_neO (F : FnOk X.prog X.w X.K X.mg X.base CX0 k f fd ps sp) (hr : Room (k + 1) X.A) (hb : Binds X.K fd ps []) (w : Own X.K C "__eq__" f) (hm : mroIn X.K C (.type "object") = some true) (hne : findIn X.K (.ref C) "__ne__" = some (some (.builtin "object.__ne__"))) : OpR X (compareOp .NotEq) (rNeO C sp) := by
  intro pins s σ H x z v u Q I rx rz h
  obtain ⟨y, y', dx, fv, dx', fv', rfl, rfl, hy, hy', hs⟩ := h
  cases rx
  cases rz
  obtain ⟨ox, od, J⟩ := ins_at I hy
  obtain ⟨ox', od', J'⟩ := ins_at I hy'
  show wpAny (model X.prog X.w) X.A (richCompare .NotEq _ _) (EP X pins σ Q) X.xe s
  refine cmp_ne (tb := .ref C) hr.units0 hr.in1.units0 I.kIn J J'.type (by simp [PySem.W.notFirst]) hm hne w.at_ w.fn (wpAny_mono (run_in F hr hb I (.cons (rref y) (.cons (rref y') .nil)) hs) (fun u s' hu => ?_) fun _ _ z => z)
  obtain ⟨v, H', I', rv, k, rfl, q⟩ := hu
  cases rv
  exact ⟨k, rfl, .bl (!k), H', I', rfl, q⟩
theorem ov_neO {kb : Bool} (ho : R [.obj C fs, .obj C gs] c (.val (.bl kb) n2 c)) : OV X.K p (rNeO C (spF X.K R)) (.obj C fs) (.obj C gs) (.bl (!kb)) true c := fun v u H Q dv du hp kk => by
  cases dv with
  | obj hv r =>
    cases du with
    | obj hv' r' => exact ⟨_, _, _, _, _, _, rfl, rfl, (hide_some hv).1, (hide_some hv').1, p, c, _, _, .cons (.obj hv r) (.cons (.obj hv' r') .nil), hp, ho, fun v H2 e2 p2 dw _ => by
        cases dw
        exact ⟨kb, rfl, kk (.bl _) H2 e2 p2 (.bl _) fun _ => New.sc (by intro a h; cases h)⟩⟩
end
end LA

/-! int(t, 2) -/
namespace LA
open PySem PySem.Spec PyProof.Rows L2 PySem.NumText PySem.Calls L2.Hx
/-- the signs 0 and 1 -/
def IsB (c : Nat) : Prop := c = 48 ∨ c = 49
theorem IsB.hex {c : Nat} (h : IsB c) : IsHex c := .inl (by unfold IsB at h; omega)
theorem IsB.worth {c : Nat} (h : IsB c) : digit? c = some (c - 48) := by
  rw [digit_hex h.hex]
  unfold hv
  rw [if_pos (by unfold IsB at h; omega)]
theorem IsB.low {c : Nat} (h : IsB c) : c - 48 < 2 := by
  unfold IsB at h
  omega
def binNum (l : List Nat) : Nat := l.foldl (fun a c => a * 2 + (c - 48)) 0
theorem bin_step {ds : Array Nat} {b : Bool} {c : Nat} (h : IsB c) : PySem.NumText.step 2 (ds, b) c = some (ds.push (c - 48), true) := by
  have n95 : ¬ (c == 95) = true := fun z => by
    have := beq_iff_eq.mp z
    unfold IsB at h
    omega
  unfold PySem.NumText.step
  rw [if_neg n95, h.worth]
  exact if_pos h.low
theorem bin_fold : ∀ (cs : List Nat) (ds : Array Nat), (∀ c ∈ cs, IsB c) → cs.foldlM (PySem.NumText.step 2) (ds, true) = some (cs.foldl (fun acc c => acc.push (c - 48)) ds, true)
  | [], _, _ => rfl
  | c :: cs, ds, h => by
    rw [List.foldlM_cons, bin_step (h c List.mem_cons_self)]
    exact bin_fold cs (ds.push (c - 48)) fun z hz => h z (List.mem_cons_of_mem _ hz)
theorem bin_digits {cs : List Nat} (h : ∀ c ∈ cs, IsB c) (hne : cs ≠ []) : digits? 2 cs = some (cs.foldl (fun acc c => acc.push (c - 48)) #[]) := by
  match cs, hne with
  | c :: cs, _ =>
    unfold digits?
    rw [List.foldlM_cons, bin_step (h c List.mem_cons_self)]
    show (cs.foldlM (PySem.NumText.step 2) ((#[] : Array Nat).push (c - 48), true)).bind _ = _
    rw [bin_fold cs _ fun z hz => h z (List.mem_cons_of_mem _ hz)]
    rfl
theorem bin_push : ∀ (cs : List Nat) (ds : Array Nat), (cs.foldl (fun acc c => acc.push (c - 48)) ds).foldl (fun acc d => acc * 2 + d) 0 = cs.foldl (fun a c => a * 2 + (c - 48)) (ds.foldl (fun acc d => acc * 2 + d) 0)
  | [], _ => rfl
  | c :: cs, ds => by
    rw [List.foldl_cons, bin_push cs (ds.push (c - 48)), List.foldl_cons]
    congr 1
    simp
theorem bin_based {cs : List Nat} (h : ∀ c ∈ cs, IsB c) : based 2 cs = (2, false, cs) := match cs, h with
  | [], _ => rfl
  | [a], h => by rcases (show a = 48 ∨ a = 49 from h a List.mem_cons_self) with rfl | rfl <;> rfl
  | a :: c :: r, h => by
    rcases (show a = 48 ∨ a = 49 from h a List.mem_cons_self) with rfl | rfl
    · rcases (show c = 48 ∨ c = 49 from h c (List.mem_cons_of_mem _ List.mem_cons_self)) with rfl | rfl <;> rfl
    · rfl
theorem bin_read {cs : List Nat} (h : ∀ c ∈ cs, IsB c) (hne : cs ≠ []) : (int_private% "readNumeral") 0 2 cs = (int_private% "Numeral.value") ((binNum cs : Nat) : Int) := by
  have hh : ∀ c ∈ cs, IsHex c := fun c hc => (h c hc).hex
  have hr : ∀ c ∈ cs.reverse, IsHex c := fun c hc => hh c (List.mem_reverse.mp hc)
  refine (readNumeral_eq 0 2 cs).trans ?_
  rw [dropB hh, signH hh]
  show judge 0 false (based 2 cs).1 (based 2 cs).2.1 (digits? (based 2 cs).1 (((based 2 cs).2.2.reverse.dropWhile PySem.NumText.blank).reverse)) = _
  rw [bin_based h]
  show judge 0 false 2 false (digits? 2 ((cs.reverse.dropWhile PySem.NumText.blank).reverse)) = _
  rw [dropB hr, List.reverse_reverse, bin_digits h hne]
  show (int_private% "Numeral.value") (((cs.foldl (fun acc c => acc.push (c - 48)) (#[] : Array Nat)).foldl (fun acc d => acc * 2 + d) 0 : Nat) : Int) = _
  have z : (#[] : Array Nat).foldl (fun acc d => acc * 2 + d) 0 = 0 := by first | rfl | simp
  rw [bin_push, z] <;> rfl
theorem bin_gives {x : PySem.Str} {u t : Tok} (hl : x.length ≤ 640) (h : ∀ c ∈ x.cps.toList, IsB c) (hne : x.cps.toList ≠ []) : Gives (Builtin.«int.__new__» ⟨[.type "int", .str x u, .int 2 t], []⟩) (.int ((binNum x.cps.toList : Nat) : Int)) := .of_wp fun M A E s Q hQ => by
  have a1 := F.conv_sub_int
  have a2 := F.madeHere_int
  have a3 : typeOf (.str x u) = pure (.type "str") := rfl
  have seen := seen_hex (x := x) fun c hc => (h c hc).hex
  have k1 : (numSeenOf x).length ≤ 640 := by
    rw [seen.2, Array.length_toList]
    exact hl
  have k2 : (int_private% "readNumeral") 0 2 (numSeenOf x) = (int_private% "Numeral.value") ((binNum x.cps.toList : Nat) : Int) := by
    rw [seen.2]
    exact bin_read h hne
  have k3 : ((numSeenOf x).length == (numTextOf x).length) = true := by
    rw [seen.1, seen.2]
    exact beq_self_eq_true _
  have k := Hid.mk (And.intro k1 (And.intro k2 k3))
  clear k1 k2 k3 seen hl hne h
  obtain ⟨hp, gens, dr, tk, os⟩ := s
  repeat (any_goals (first | assumption | ((with_reducible show wpAny _ _ ((int_private% "intFromText") _ _ _) _ _ _); refine wp_textB k.out.1 k.out.2.1 k.out.2.2 ?_) | wp_step))
  all_goals first | exact ⟨_, rfl, hQ⟩ | skip
theorem bin_call {prog : Program} {w : World} {A : Around} {E : Value → Shared → Prop} {s : Shared} {Q : Value → Shared → Prop} {x : PySem.Str} {u t : Tok} (hl : x.length ≤ 640) (h : ∀ c ∈ x.cps.toList, IsB c) (hne : x.cps.toList ≠ [])
    (hQ : Q (.int ((binNum x.cps.toList : Nat) : Int) s.toks) { s with toks := s.toks + 1 }) : wpAny (model prog w) A (call (.type "int") [.str x u, .int 2 t]) Q E s :=
  callType_new F.called_int F.newNe_int (typeCall_int_2 _ _) (newCall_int_2 _ _) (fun obj => F.initArgs_range_2 obj _ _) F.entry_int_new (bin_gives hl h hne).meets (show (Made.int ((binNum x.cps.toList : Nat) : Int)).post _ s from ⟨rfl, hQ⟩)
def rBin : List V → Hp → VK → Prop := fun xs H Q => ∃ z : Str, xs = [.str z, .int 2] ∧ z.cps.toList ≠ [] ∧ z.length ≤ 640 ∧ (∀ c ∈ z.cps.toList, IsB c) ∧ Q (.int ((binNum z.cps.toList : Nat) : Int)) H
theorem call_bin {X : Cx} : CallR X (.type "int") rBin := by
  intro pins s σ H xs us Q I r h
  obtain ⟨z, rfl, hne, hl, hb, q⟩ := h
  obtain ⟨u, u', rfl, r1, r2⟩ := vals2 r
  obtain ⟨t1, rfl⟩ := r1
  obtain ⟨t2, rfl⟩ := r2
  exact bin_call hl hb hne ⟨.int ((binNum z.cps.toList : Nat) : Int), H, I.tok _, ⟨_, rfl⟩, q⟩
theorem cv_bin {K : PySem.W.Frag} {p : HD} {c : PC} {z : Str} (hl : z.length ≤ 640) (hb : ∀ c ∈ z.cps.toList, IsB c) (hne : z.cps.toList ≠ []) : CV K p rBin [.str z, .int 2] (.int ((binNum z.cps.toList : Nat) : Int)) true c := fun vs H Q dvs hp k => by
  match vs, dvs with
  | _, .cons h1 (.cons h2 .nil) =>
    cases h1
    cases h2
    exact ⟨z, rfl, hne, hl, hb, k _ H (Ext.refl _ _) hp (.int _) fun _ => New.sc (by intro a h; cases h)⟩
end LA

/-! list(o) of an object with an own __len__, whose __iter__ gives the iterator of a list that it holds -/
namespace LA
open PySem PySem.Spec PyProof.Rows L2 PySem.W
section
variable {prog : Program} {w : World} {A : Around} {E : Value → Shared → Prop} {s : Shared} {K : Frag} {y C f : Addr} {ox : Obj} {od : Option Obj}
theorem hint_own {Q : Bool → Shared → Prop} (X : K.In s.heap) (J : InstAt s.heap y ox C od) (hs : findIn K (.ref C) "__len__" = some (some (.ref f)))
    (h : wpAny (model prog w) A (call (.builtin "len") [.ref y]) (fun v s' => ∃ (n : Nat) (t : Tok), v = .int n t ∧ n < 100000 ∧ ∀ r, Q r s') (fun _ _ => False) s) : wpAny (model prog w) A (Builtin.List.listLengthHint (.ref y)) Q E s := by
  unfold Builtin.List.listLengthHint
  refine wpAny_bind (wpAny_bind (J.type.here ((looks_findIn X hs).here ?_)))
  refine KFB.if_not rfl ?_
  refine wpAny_ite_true rfl ?_
  refine wpAny_bind (wpAny_rule ?_)
  refine wpAny_bind (wpAny_attempt (wpAny_mono h (fun v s' hv => ?_) fun e s' he => ?_))
  · obtain ⟨n, t, rfl, hn, hq⟩ := hv
    dsimp only
    have nl : Builtin.List.listTooLong ((n : Int)).toNat = false := by
      rw [Int.toNat_natCast]
      exact notLongL (Nat.le_of_lt (sz_lt hn))
    repeat (any_goals (first | exact hq _ | exact wpAny_pure (hq _) | (refine KFB.if_not nl ?_) | wp_step))
  · exact he.elim
end
section
variable {X : Cx} {W : WX} {p : HD} {c : PC} {ki kl : Nat} {fi fl C : Addr} {fdi fdl : FuncData} {psi psl : List Str} {R : FSpec} {m : Str} {fs : List (Str × D)}
/-- the rest of a list goes behind the new one -/
theorem fill_it {pins : List (Addr × Obj)} {σ : L2.St} {H : Hp} {A1 : Around} {q it l : Addr} {zs : List V} {Rs : Result → Shared → Prop} (hh : A1.in1.handled = none) (ne : q ≠ l) (hz : zs.length < 100000) (hl : SqL X.K H l zs) (fp : FpOk X pins H it)
    (ni : q ≠ it) (hdone : ∀ s, Inv X pins σ (L2.upd H q (.lst zs)) s → Rs (.ok (.ret .none)) s) : ∀ (n i : Nat) (s : Shared), n = zs.length - i → i ≤ zs.length → Inv X pins σ (L2.upd H q (.lst (zs.take i))) s → s.heap.IsListIter it l i →
      codeAny (model X.prog X.w) A1 (.builtin "list.extend.loop" ⟨[.ref q, .ref it, .none], []⟩) Rs s := by
  have hl' : ∀ ys, SqL X.K (L2.upd H q (.lst ys)) l zs := fun ys => by
    have e : L2.upd H q (.lst ys) l = H l := upd_ne (Ne.symm ne)
    unfold SqL Rd at hl ⊢
    simp only [e]
    exact hl
  obtain ⟨f0, f1, f2, f3, f4, f5⟩ := fp
  have f0' : ∀ ys, L2.upd H q (.lst ys) it = none := fun ys => by
    rw [upd_ne (Ne.symm ni)]
    exact f0
  intro n
  induction n with
  | zero =>
    intro i s hn hi I st
    refine codeAny_builtin PySem.F.entry_extend_loop ?_
    rw [Around.under_plainId PySem.F.plain_extend_loop _]
    have ei : i = zs.length := by omega
    subst ei
    rw [List.take_length] at I
    obtain ⟨its, rv, pl, _⟩ := I.list (hl' _)
    have el := rv.length
    refine wpAny_bind (wpAny_pyNext_list_end hh st pl.isList (by simp; omega) fun h' eb => ?_)
    exact wpAny_pure (hdone _ (I.turned (t' := s.toks) (fun b o hb e => eb b o hb e) (f0' _) f1 f3 f4 f5))
  | succ n ih =>
    intro i s hn hi I st
    refine codeAny_builtin PySem.F.entry_extend_loop ?_
    rw [Around.under_plainId PySem.F.plain_extend_loop _]
    have li : i < zs.length := by omega
    obtain ⟨its, rv, pl, _⟩ := I.list (hl' _)
    obtain ⟨u, hu, ru⟩ := rv.get (List.getElem?_eq_getElem li)
    refine wpAny_bind (wpAny_pyNext_list_item st pl.isList (x := u) (by simpa using hu) fun h' st' sb => ?_)
    have I1 := I.turned (t' := s.toks) (fun b o hb e => (sb.2 b hb).trans e) (f0' _) f1 f3 f4 f5
    obtain ⟨z, its2, k, r2, h2, e⟩ := I1.lstM (l := q) upd_same
    have sz : its2.length < 100000 := by
      rw [← h2, List.length_take]
      omega
    refine wpAny_bind (wpAny_updateSeq e rfl (wpAny_pure ⟨plainId_quiet PySem.F.plain_extend_loop _, ?_⟩) (by rw [List.size_toArray]; exact Nat.le_of_lt (sz_lt sz)) (by rw [Array.size_push, List.size_toArray]; exact Nat.le_succ_of_le (Nat.succ_le_of_lt (sz_lt sz))))
    have J := I1.lset (f := (·.push u)) (its' := its2 ++ [u]) (t' := s.toks) upd_same e (by simp) (r2.append (.cons ru .nil)) (by
      rw [List.length_append, List.length_take, List.length_singleton]
      exact sz_le (by omega))
    rw [upd_upd] at J
    have tk : zs.take i ++ [zs[i]] = zs.take (i + 1) := by rw [List.take_add_one, List.getElem?_eq_getElem li]; rfl
    rw [tk] at J
    refine ih (i + 1) _ (by omega) (by omega) J ?_
    refine st'.at fun o ho => ?_
    exact (Heap.get?_update_other _ _ ni).trans ho
theorem run_on {k : Nat} {f : Addr} {fd : FuncData} {ps : List Str} {sp : Sp} {A1 : Around} {pins : List (Addr × Obj)} {σ : L2.St} {H : Hp} {s : Shared} {Q : VK} {us : List Value} {vs : List V} {E' : Value → Shared → Prop} (F : FnOk X.prog X.w X.K X.mg X.base CX0 k f fd ps sp) (hr : Room k A1) (he : Env0 X.prog X.w X.K X.mg X.base A1 X.stack s H)
    (hb : Binds X.K fd ps []) (I : Inv X pins σ H s) (r : Vals vs us) (h : sp vs H Q E0) : wpAny (model X.prog X.w) A1 (call (.ref f) us) (EP X pins σ Q) E' s := by
  have hl : us.length = ps.length := by
    rw [← r.length]
    exact F.len _ _ _ _ h
  have bd := hb s us I.kIn (by rw [List.append_nil]; exact hl)
  rw [List.append_nil] at bd
  refine wpAny_call (codeAny_mono (F.run A1 X.stack s H ⟨us, []⟩ us vs Q E0 hr he bd r h) fun z s' hz => ?_)
  match z, hz with
  | .error er, hz => exact hz.elim
  | .ok (.ret u), hz => exact I.after hz
  | .ok .next, hz => exact hz.elim
  | .ok .brk, hz => exact hz.elim
  | .ok .cont, hz => exact hz.elim
def rListO (K : Frag) (C : Addr) (m : Str) (spl : Sp) : List V → Hp → VK → Prop := fun xs H Q => ∃ y dx fv l zs, xs = [V.ref y] ∧ H y = some (.ins C dx fv) ∧ fv.lookup m = some (.ref l) ∧ SqL K H l zs ∧ zs.length < 100000 ∧
  ∀ q it, H q = none → H it = none → q ≠ it → spl [.ref y] (L2.upd (L2.upd H q (.lst [])) it (ItO l it 0)) (fun v H' => (∃ n : Nat, n < 100000 ∧ v = .int n) ∧ H' q = some (.lst []) ∧ H' it = some (ItO l it 0) ∧ SqL K H' l zs ∧ Q (.ref q) (L2.upd (ItX.dropH H' it) q (.lst zs))) E0
theorem call_listO {spl : Sp} (hc : X.calm = true) (Gi : FnSz X.prog X.w X.K X.mg X.base ki fi fdi psi (spIter X.K C m)) (hri : Room (ki + 1 + 1) X.A) (hbi : Binds X.K fdi psi []) (wi : Own X.K C "__iter__" fi)
    (Gl : FnOk X.prog X.w X.K X.mg X.base CX0 kl fl fdl psl spl) (hrl : Room (kl + 1 + 1 + 1) X.A) (hbl : Binds X.K fdl psl []) (wl : Own X.K C "__len__" fl) : CallR X (.type "list") (rListO X.K C m spl) := by
  intro pins s σ H xs us Q I rv h
  obtain ⟨y, dx, fv, l, zs, rfl, hy, hf, hq, hz, hk⟩ := h
  obtain ⟨u, rfl, ru⟩ := rv.one
  cases ru
  let nl : Obj := { cls := .type "list", data := .seq #[] }
  let q := s.heap.objs.size
  refine callType_codes (Q₁ := fun ob t => ob = .ref q ∧ t = { s with heap := s.heap.push nl }) PySem.F.called_list (PySem.F.typeCall_list_1 _) PySem.F.entry_list_init (code_list_new _ ⟨rfl, rfl⟩) fun ob t ht => ?_
  obtain ⟨rfl, rfl⟩ := ht
  have at_q : (s.heap.push nl).get? q = some nl := Heap.get?_push_size _ rfl
  refine ⟨⟨_, at_q, rfl⟩, PySem.F.args_list_init_2 _ _, ?_⟩
  have nq : H q = none := I.hok.fresh (Nat.le_refl _)
  have neL : q ≠ l := by
    obtain ⟨its, _, pl, _⟩ := I.list hq
    obtain ⟨o, ho, _⟩ := pl.isList
    exact Nat.ne_of_gt (Heap.lt_size ho)
  have I1 : Inv X pins σ (L2.upd H q (.lst [])) { s with heap := s.heap.push nl } := I.lnew (its := []) (t' := s.toks) .nil (Nat.zero_le _)
  show wpAny _ _ (do
    let old ← Builtin.List.listItems (.ref q)
    Builtin.List.listUpdate (.ref q) (fun _ => #[])
    letGo old.toList.reverse
    Builtin.List.listExtendWith (.ref q) (.ref y) .none) _ _ _
  refine wpAny_bind ?_
  unfold Builtin.List.listItems
  refine wpAny_bind (wpAny_seqItems at_q rfl (wpAny_pure ?_))
  show wpAny _ _ (do
    updateSeq q (fun _ => #[])
    letGo (#[] : Array Value).toList.reverse
    Builtin.List.listExtendWith (.ref q) (.ref y) .none) _ _ _
  refine wpAny_bind (wpAny_updateSeq at_q rfl ?_)
  have I2 := I1.lset (f := fun _ => #[]) (its := []) (its' := []) (ys := []) (t' := s.toks) upd_same at_q rfl .nil (Nat.zero_le _)
  rw [upd_upd] at I2
  refine wpAny_bind (wpAny_letGo ?_)
  have hy2 : L2.upd H q (.lst []) y = some (.ins C dx fv) := by
    rw [upd_ne (ne_of_none hy nq)]
    exact hy
  have hq2 : SqL X.K (L2.upd H q (.lst [])) l zs := by
    have e : L2.upd H q (.lst []) l = H l := upd_ne (Ne.symm neL)
    unfold SqL Rd at hq ⊢
    simp only [e]
    exact hq
  obtain ⟨ox, od, J⟩ := ins_at I2 hy2
  obtain ⟨mm, hF⟩ := I2.fr
  have neY : q ≠ y := fun z => by
    rw [← z, nq] at hy
    cases hy
  unfold Builtin.List.listExtendWith
  refine wpAny_bind (J.type.here ?_)
  have b1 : Builtin.List.listSameRef (.ref q) (.ref y) = false := by simp [Builtin.List.listSameRef, neY]
  have b2 : (Value.ref C == Value.type "list") = false := rfl
  have b3 : (Value.ref C == Value.type "tuple") = false := rfl
  simp only [b1, b2, b3, Bool.or_false, Bool.false_eq_true, if_false]
  -- __iter__
  refine wpAny_bind (PySem.W.owit_iter hF I2.ok.mod.kin J wi.at_ wi.fn ?_)
  generalize hs2 : ({ s with heap := (s.heap.push nl).update q (Obj.mapSeq fun _ => #[]), toks := s.toks } : Shared) = s2 at I2
  have gi : spIter X.K C m s2.heap.objs.size [.ref y] (L2.upd H q (.lst [])) (fun z H' => ∃ it, z = .ref it ∧ L2.upd H q (.lst []) it = none ∧ s2.heap.objs.size ≤ it ∧ H' = L2.upd (L2.upd H q (.lst [])) it (ItO l it 0)) E0 := ⟨y, dx, fv, l, zs, rfl, hy2, hf, hq2, fun it n1 n2 => ⟨it, rfl, n1, n2, rfl⟩⟩
  have bd := hbi s2 [Value.ref y] I2.kIn (by
    have := Gi.len _ _ _ _ _ gi
    rw [List.append_nil]
    exact this)
  rw [List.append_nil] at bd
  refine wpAny_call (codeAny_mono (Gi.run X.A.in1.in1 X.stack s2 _ ⟨[.ref y], []⟩ [.ref y] [.ref y] _ E0 hri.in1.in1 I2.env0.in1.in1 bd (.cons (rref y) .nil) gi) fun z s' hz' => ?_)
  match z, hz' with
  | .error er, hz' => exact hz'.elim
  | .ok .next, hz' => exact hz'.elim
  | .ok .brk, hz' => exact hz'.elim
  | .ok .cont, hz' => exact hz'.elim
  | .ok (.ret u), hz' =>
    obtain ⟨v, H', I3, rv', it, rfl, n1, n2, rfl⟩ := I2.after hz'
    cases rv'
    have hi : L2.upd (L2.upd H q (.lst [])) it (ItO l it 0) it = some (ItO l it 0) := upd_same
    have hT : s'.TypeIs (.ref it) "list_iterator" := ⟨_, itO_get I3 hi, rfl⟩
    have nqi : q ≠ it := fun z => by
      rw [← z, upd_same] at n1
      cases n1
    have nit : H it = none := by
      rw [upd_ne (Ne.symm nqi)] at n1
      exact n1
    refine wpAny_specialOf (name := Str.ofString "__next__") hT slot_listiter_next.lookup ?_
    -- the length
    have hy3 : L2.upd (L2.upd H q (.lst [])) it (ItO l it 0) y = some (.ins C dx fv) := by
      rw [upd_ne (ne_of_none hy2 n1)]
      exact hy2
    obtain ⟨ox3, od3, J3⟩ := ins_at I3 hy3
    obtain ⟨mm3, hF3⟩ := I3.fr
    refine wpAny_bind (wpAny_holding (hint_own I3.kIn J3 wl.at_ (PySem.W.len_K hF3 I3.ok.mod.kin J3 wl.at_ wl.fn (wpAny_mono (run_on Gl hrl.in1.in1.in1 I3.env0.in1.in1.in1 hbl I3 (.cons (rref y) .nil) (hk q it nq nit nqi)) (fun u s4 hu => ?_) fun _ _ z => z))))
    obtain ⟨v4, H4, I4, rv4, ⟨n, hn, rfl⟩, hq4, hi4, hl4, fin⟩ := hu
    obtain ⟨tk4, rfl⟩ := rv4
    refine ⟨⟨Int.natCast_nonneg n, by omega⟩, n, _, rfl, hn, fun rr => ?_⟩
    have I5 : Inv X pins σ H4 { s4 with toks := s4.toks + 1 } := I4.tok _
    have eo := itO_get I5 hi4
    have hi4' := hi4
    unfold ItO at hi4'
    have sz : X.s_0.heap.objs.size ≤ it := Nat.le_trans I2.sz n2
    have I6 := ItX.inv_drop I5 hi4'
    have fp := ItX.inv_fp I5 hi4 sz
    have hqd : ItX.dropH H4 it q = some (.lst []) := by
      rw [ItX.dropH_ne nqi]
      exact hq4
    have nel : it ≠ l := by
      obtain ⟨its, _, pl, _⟩ := I5.list hl4
      rintro rfl
      obtain ⟨o, ho, ec, _⟩ := pl.isList
      rw [eo] at ho
      cases ho
      exact absurd (Value.type.inj (show Value.type "list_iterator" = Value.type "list" from ec)) (by decide)
    have hld : SqL X.K (ItX.dropH H4 it) l zs := ItX.sqL_drop hl4 nel
    have same : L2.upd (ItX.dropH H4 it) q (.lst []) = ItX.dropH H4 it := by
      funext b
      by_cases hb : b = q
      · rw [hb, upd_same, hqd]
      · rw [upd_ne hb]
    have loop := fill_it (X := X) (A1 := X.A.in1) (Rs := wants (fun r s₂ => r = .none ∧ EP X pins σ Q (.ref q) s₂) X.xe) (I5.ok.hd hc) neL hz hld fp nqi fun s₂ I₂ => ⟨rfl, .ref q, _, I₂, rfl, fin⟩
    have st : ({ s4 with toks := s4.toks + 1 } : Shared).heap.IsListIter it l 0 := ⟨_, eo, rfl, rfl⟩
    refine wpAny_ite_split (fun _ => ?_) (fun _ => wpAny_pure ⟨plainId_quiet PySem.F.plain_extend_loop _, loop _ 0 _ rfl (Nat.zero_le _) (by rw [List.take_zero, same]; exact I6) st⟩)
    refine wpAny_bind (wpAny_rule (wpAny_bind ?_))
    show wpAny _ _ (updateSeq q (·.push .none) >>= fun _ => updateSeq q (·.pop)) _ _ _
    obtain ⟨_, ia, ka, ra, _, ea⟩ := I6.lstM hqd
    cases ra
    refine wpAny_bind (wpAny_updateSeq ea rfl ?_)
    have I7 := I6.lset (f := (·.push Value.none)) (its' := [Value.none]) (ys := [.non]) (t' := s4.toks + 1) hqd ea (by simp) (.cons rfl .nil) (sz_le (by decide))
    obtain ⟨_, ib, kb, rb, _, eb⟩ := I7.lstM upd_same
    obtain ⟨ub, rfl, rub⟩ := rb.one
    refine wpAny_updateSeq eb rfl ?_ (show 1 ≤ sizeLine from sz_le (by decide)) (Nat.zero_le _)
    have I8 := I7.lset (f := (·.pop)) (its := [ub]) (its' := []) (ys := []) (t' := s4.toks + 1) upd_same eb (by rfl) .nil (Nat.zero_le _)
    rw [upd_upd] at I8
    refine wpAny_pure ⟨plainId_quiet PySem.F.plain_extend_loop _, loop _ 0 _ rfl (Nat.zero_le _) (by rw [List.take_zero]; exact I8) ?_⟩
    refine st.at fun o ho => ?_
    exact (Heap.get?_update_other _ _ nqi).trans ((Heap.get?_update_other _ _ nqi).trans ho)
/-- what such a __len__ promises -/
def spLen (K : Frag) (C : Addr) (fld : Str) : Sp := fun vs H Q _ => ∃ y dx fv l zs, vs = [V.ref y] ∧ H y = some (.ins C dx fv) ∧ fv.lookup fld = some (.ref l) ∧ SqL K H l zs ∧ Q (.int (zs.length : Nat)) H
theorem fn_len {P : Program} {w : World} {K : Frag} {mg : Str → Option Value} {base : Heap} {k : Nat} {f : Addr} {fd : FuncData} {x qual : Str} {st : Stmt} {N : List Str} {p1 p2 p3 p4 p5 : Pos} (F : Fun K x qual st f fd) (S : FnScope N ["self"] (defScope st)) (hN : N[0]? = some ("self" : Str)) (cl : Cls K C) (na : NoAttr K C m) (hm : mg "len" = none)
    (hb : defBody st = [.Return (some (.Call (.Name "len" p1) [.Attribute (.Name "self" p2) m p3] [] p4)) p5])
    (gl : ∀ (cdv : Value) (A : Around) (outer : List Env) (s : Shared) (H : Hp) (E : XK), Gl (cxOf CX0 P w K mg base N qual (defScope st) f cdv A outer s H E).nox "len") : FnOk P w K mg base CX0 (k + 1) f fd ["self"] (spLen K C m) := by
  refine F.ok S (fun vs H Q E h => ?_) fun cdv A outer s H vs Q E hr h => ?_
  · obtain ⟨y, dx, fv, l, zs, rfl, _⟩ := h
    rfl
  · obtain ⟨y, dx, fv, l, zs, rfl, hy, hl, hq, q⟩ := h
    rw [hb]
    refine ⟨_, pss_one (ps_ret (pe_callB call_len_seq (gl cdv A outer s H E) hm (by first | rfl | decide +kernel) (pa_cons (pe_fld (pe_var (i := 0) hN ((S.par "self" (List.Mem.head _)).elim (fun z => .inl z) (fun z => .inr (.inl z)))) rfl) pa_nil))), ?_⟩
    exact ⟨.ref y, rfl, y, C, dx, fv, .ref l, rfl, hy, cl, na, hl, l, zs, rfl, .inl hq, q⟩
def rLenF (C : Addr) (m : Str) : FSpec := fun ds c o => ∃ fs g xs, ds = [.obj C fs] ∧ fs.lookup m = some (.lst g xs) ∧ o = .val (.int (xs.length : Nat)) true c
theorem len_spF {P : Program} {w : World} {K : Frag} {mg : Str → Option Value} {base : Heap} {k : Nat} {f : Addr} {fd : FuncData} {ps : List Str} (G : FnOk P w K mg base CX0 k f fd ps (spLen K C m)) : FnOk P w K mg base CX0 k f fd ps (spF K (rLenF C m)) := by
  refine G.imp fun vs H Q E h => ?_
  obtain ⟨p, c, ds, o, h1, h2, ⟨fs, g, xs, rfl, hm, rfl⟩, h4⟩ := h
  match vs, h1 with
  | _, .cons (.obj hv r) .nil =>
    obtain ⟨lv, hl, dl⟩ := r.get hm
    cases dl with
    | @lst a zs _ _ _ hq rr => exact ⟨_, _, _, a, zs, rfl, (hide_some hv).1, hl, un_sqL hq, h4 _ H (Ext.refl _ _) h2 (by rw [rr.length]; exact .int _) fun _ => New.sc (by intro a z; cases z)⟩
theorem cv_listO {g : LA.G} {xs : List D} (hm : fs.lookup m = some (.lst g xs)) (hz : xs.length < 100000) : CV X.K p (rListO X.K C m (spLen X.K C m)) [.obj C fs] (.lst ⟨false, true⟩ xs) true c := fun vs H Q dvs hp kk => by
  match vs, dvs with
  | _, .cons (.obj hv r) .nil =>
    obtain ⟨lv, hl, dl⟩ := r.get hm
    cases dl with
    | @lst a zs _ _ _ hq rr =>
      refine ⟨_, _, _, a, zs, rfl, (hide_some hv).1, hl, un_sqL hq, by rw [rr.length]; exact hz, fun q it nq nit nqi => ?_⟩
      have n1 : L2.upd H q (.lst []) it = none := by
        rw [upd_ne (Ne.symm nqi)]
        exact nit
      have e1 : Ext p H (L2.upd (L2.upd H q (.lst [])) it (ItO a it 0)) := (Ext.new nq).trans (Ext.new n1)
      have hv2 := e1.hide _ _ hv
      have hq2 := un_sqL (e1.sqL hq)
      refine ⟨_, _, _, a, zs, rfl, (hide_some hv2).1, hl, hq2, ⟨zs.length, by rw [rr.length]; exact hz, rfl⟩, ?_, upd_same, hq2, ?_⟩
      · rw [upd_ne nqi, upd_same]
      · rw [ItX.dropH_upd n1, upd_upd]
        have vis : hide p (L2.upd H q (.lst zs)) q = some (.lst zs) := hide_upd hp nq
        exact kk (.ref q) _ (Ext.new nq) (hp.upd nq) (.lst ⟨(fun z => nomatch z), fun _ => vis⟩ (.inl (.inl vis)) (rr.mono (Ext.new nq))) fun _ => New.lst hp nq rr
end
end LA

namespace K41
open PySem PySem.Spec PyProof.Rows L2 LA
/-! ### what the law hands in -/
structure Fit (d : D) : Prop where
  ty : ∃ t, tyD d = some t
  len : ∀ l, d = .str (tx l) → l.length ≤ 1000
/-- what any value may be: its type is told -/
def Ty (d : D) : Prop := ∃ t, tyD d = some t
/-! ### positions, bits, words -/
def cds : D → List Nat
  | .str s => s.cps.toList
  | _ => []
theorem cds_tx (l : List Nat) : cds (.str (tx l)) = l := tx_list l
def isW (a : List Nat) (d : D) : Bool := isStrD d && (decide ((cds d).length ≤ 6) && (cds d).all fun n => decide (n ∈ a))
def pats : List Nat := (Str.ofString "-01").cps.toList
def bins : List Nat := (Str.ofString "01").cps.toList
def wholeD : D → Bool
  | .int _ => true
  | _ => false
def posD (d : D) (n : Int) : Bool := match d with
  | .int i => decide (0 ≤ i) && decide (i < n)
  | _ => false
def intOf : D → Int
  | .int i => i
  | _ => 0
def wordR : FSpec := fun ds c o => ∃ d s, ds = [d, .str s] ∧ Fit d ∧ o = .val (.bl (isW s.cps.toList d)) true c
def isInR (s : Str) : FSpec := fun ds c o => ∃ d, ds = [d] ∧ Fit d ∧ o = .val (.bl (isW s.cps.toList d)) true c
def wholeR : FSpec := fun ds c o => ∃ d, ds = [d] ∧ Ty d ∧ o = .val (.bl (wholeD d)) true c
def posR : FSpec := fun ds c o => ∃ d n, ds = [d, .int n] ∧ Ty d ∧ o = .val (.bl (posD d n)) true c
section
variable {P : Program} {w : World} {K : PySem.W.Frag} {mg : Str → Option Value} {base : Heap} {B Cn fB fC : Addr}
theorem scWord : FnScope ["value", "letters", "one"] ["value", "letters"] (defScope (top 23)) := ⟨rfl, rfl, rfl, by decide +kernel, rfl, by decide +kernel, by decide +kernel⟩
theorem ok_word {f : Addr} {fd : FuncData} {tk : Tok} (G : Glb mg) (hM : mg "MOST" = some (.int 6 tk)) (F : Fun K "_is_word" "_is_word" (top 23) f fd) : FnOk P w K mg base CX0 1 f fd ["value", "letters"] (spF K wordR) := by
  refine fn_val F scWord (fun ds c o h => ?_) (fun ds c o h => ?_) (fun cdv A outer s H E hr p ds c o h => ?_)
  · obtain ⟨d, s, rfl, _⟩ := h
    rfl
  · obtain ⟨d, s, _, _, rfl⟩ := h
    exact ⟨_, _, _, rfl⟩
  · obtain ⟨d, z, rfl, fd', rfl⟩ := h
    obtain ⟨t, ht⟩ := fd'.ty
    obtain ⟨a, rfl⟩ := str_tx z
    rw [tx_list]
    refine .inl (rss_ret (rs_ret (re_and (k1 := isStrD d) (re_callB call_isi G.isi PyProof.Rows.boot_isinstance (ra_cons (re_var 0) (ra_cons (re_ty G.str PyProof.Rows.boot_str) ra_nil)) (cv_isi ht (isi_str ht))) (fun hk => ?_))))
    cases d with
    | str s =>
      obtain ⟨l, rfl⟩ := str_tx s
      have hl := fd'.len l rfl
      rw [cds_tx]
      refine re_and (n1 := true) (k1 := decide (l.length ≤ 6)) ?_ (fun hk => re_and1 ?_)
      · have e : decide (l.length ≤ 6) = decide (((l.length : Nat) : Int) ≤ 6) := by
          rw [Bool.eq_iff_iff]
          simp
          omega
        rw [e]
        exact re_cmp op_le (re_callB call_len G.len PySem.boot_len (ra_cons (re_var 0) ra_nil) (cv_lenT (by omega))) (re_gint hM) ov_ib
      · have key : ((List.range (chars (tx l)).length).map fun i => D.bl (decide (l.getD i 0 ∈ a))) = (l.map fun n => decide (n ∈ a)).map D.bl := by
          rw [signs_len]
          refine List.ext_getElem? fun i => ?_
          by_cases hi : i < l.length
          · simp [hi, List.getElem?_range]
          · simp [hi]
        have e : (l.all fun n => decide (n ∈ a)) = (l.map fun n => decide (n ∈ a)).all id := by rw [List.all_map]; rfl
        rw [e]
        refine re_callB (ds := [.lst ⟨false, true⟩ ((l.map fun n => decide (n ∈ a)).map D.bl)]) (cr_all rfl) G.all PyProof.Rows.boot_all (ra_cons (nw := true) ?_ ra_nil) cv_all
        rw [← key]
        refine re_lcA (own := [("one", 2)]) (g := gName 2) _ (fun _ => c) (fun i => [some (.str (tx l)), some (.str (tx a)), some (.str (chr1 (l.getD i 0)))]) (fun _ => true) rfl scWord.nd (ri_str (re_var 0)) (blkOk_by (N := ["value", "letters", "one"]) (sc := defScope (top 23)) (by decide +kernel)) (fun _ _ _ _ _ => pg_name (i := 2) scWord.nd rfl (Or.inl rfl)) (fun i d h => ?_) (fun i d h q s H C cl fp => ?_) (by rw [signs_len]; omega)
        · obtain ⟨rfl, _⟩ := signs_at h
          exact tg_name (by decide)
        · have q := ov_inC (K := K) (p := q) (c := c) (ch := l.getD i 0) (z := tx a)
          rw [tx_list] at q
          exact re_cmp op_in_sign (re_var 2) (re_var 1) q
    | _ => cases hk
abbrev WordD (P : Program) (w : World) (K : PySem.W.Frag) (mg : Str → Option Value) (base : Heap) := Def0 P w K mg base 1 "_is_word" ["value", "letters"] wordR
abbrev IsInD (P : Program) (w : World) (K : PySem.W.Frag) (mg : Str → Option Value) (base : Heap) := Def0 P w K mg base 2 "is_input" ["value"] (isInR "01")
theorem ok_isIn {f : Addr} {fd : FuncData} (T : WordD P w K mg base) (F : Fun K "is_input" "is_input" (top 14) f fd) : FnOk P w K mg base CX0 2 f fd ["value"] (spF K (isInR "01")) := by
  refine fn_val F (N := ["value"]) ⟨rfl, rfl, rfl, by decide +kernel, rfl, by decide +kernel, by decide +kernel⟩ (fun ds c o h => ?_) (fun ds c o h => ?_) (fun cdv A outer s H E hr p ds c o h => ?_)
  · obtain ⟨d, rfl, _⟩ := h
    rfl
  · obtain ⟨d, _, _, rfl⟩ := h
    exact ⟨_, _, _, rfl⟩
  · obtain ⟨d, rfl, fd', rfl⟩ := h
    exact .inl (rss_ret (rs_ret (re_c0 T hr (ra_cons (re_var 0) (ra_cons re_str ra_nil)) ⟨d, _, rfl, fd', rfl⟩)))
theorem ok_whole {f : Addr} {fd : FuncData} (G : Glb mg) (F : Fun K "is_whole" "is_whole" (top 10) f fd) : FnOk P w K mg base CX0 1 f fd ["value"] (spF K wholeR) := by
  refine fn_val F (N := ["value"]) ⟨rfl, rfl, rfl, by decide +kernel, rfl, by decide +kernel, by decide +kernel⟩ (fun ds c o h => ?_) (fun ds c o h => ?_) (fun cdv A outer s H E hr p ds c o h => ?_)
  · obtain ⟨d, rfl, _⟩ := h
    rfl
  · obtain ⟨d, _, _, rfl⟩ := h
    exact ⟨_, _, _, rfl⟩
  · obtain ⟨d, rfl, ⟨t, ht⟩, rfl⟩ := h
    have e : wholeD d = (isIntD d && !isBlD d) := by cases d <;> rfl
    rw [e]
    exact .inl (rss_ret (rs_ret (re_and (re_callB call_isi G.isi PyProof.Rows.boot_isinstance (ra_cons (re_var 0) (ra_cons (re_ty G.int PyProof.Rows.boot_int) ra_nil)) (cv_isi ht (isi_int ht))) fun _ => re_and1 (re_not (re_callB call_isi G.isi PyProof.Rows.boot_isinstance (ra_cons (re_var 0) (ra_cons (re_ty G.bool PyProof.Rows.boot_bool) ra_nil)) (cv_isi ht (isi_bool ht)))))))
abbrev WholeD (P : Program) (w : World) (K : PySem.W.Frag) (mg : Str → Option Value) (base : Heap) := Def0 P w K mg base 1 "is_whole" ["value"] wholeR
abbrev PosD (P : Program) (w : World) (K : PySem.W.Frag) (mg : Str → Option Value) (base : Heap) := Def0 P w K mg base 2 "is_position" ["value", "many"] posR
theorem ok_pos {f : Addr} {fd : FuncData} (T : WholeD P w K mg base) (F : Fun K "is_position" "is_position" (top 11) f fd) : FnOk P w K mg base CX0 2 f fd ["value", "many"] (spF K posR) := by
  refine fn_val F (N := ["value", "many"]) ⟨rfl, rfl, rfl, by decide +kernel, rfl, by decide +kernel, by decide +kernel⟩ (fun ds c o h => ?_) (fun ds c o h => ?_) (fun cdv A outer s H E hr p ds c o h => ?_)
  · obtain ⟨d, n, rfl, _⟩ := h
    rfl
  · obtain ⟨d, n, _, _, rfl⟩ := h
    exact ⟨_, _, _, rfl⟩
  · obtain ⟨d, n, rfl, fd', rfl⟩ := h
    have e : posD d n = (wholeD d && posD d n) := by cases d <;> rfl
    rw [e]
    refine .inl (rss_ret (rs_ret (re_and (re_c0 T hr (ra_cons (re_var 0) ra_nil) ⟨d, rfl, fd', rfl⟩) fun hk => re_and1 ?_)))
    cases d with
    | int i => exact re_chain op_le op_lt re_int (re_var 0) (re_var 1) ov_ib ov_ib
    | _ => cases hk
end
end K41

namespace K41
open PySem PySem.Spec PyProof.Rows L2 LA
def cntR (Cn : Addr) : FSpec := fun ds c o => ∃ d, ds = [d, .int 6] ∧ Ty d ∧ o = if posD d 7 then .val .non true c else .ex Cn [("given", d)] c
/-! ### words -/
def step (ws : List (List Nat)) (ls : List Nat) : List (List Nat) := ws.flatMap fun w => ls.map fun a => w ++ [a]
def wordsV : List (List Nat) → List (List Nat) → List (List Nat)
  | ws, [] => ws
  | ws, l :: r => wordsV (step ws l) r
def wD (ws : List (List Nat)) : List D := ws.map fun w => D.str (tx w)
theorem wordsV_app (ws : List (List Nat)) : ∀ (a b : List (List Nat)), wordsV ws (a ++ b) = wordsV (wordsV ws a) b := by
  intro a
  induction a generalizing ws with
  | nil => intro b; rfl
  | cons l r ih => intro b; exact ih (step ws l) b
theorem step_len (ws : List (List Nat)) (ls : List Nat) : (step ws ls).length = ws.length * ls.length := by
  unfold step
  induction ws with
  | nil => simp
  | cons a r ih => rw [List.flatMap_cons, List.length_append, ih, List.length_map, List.length_cons]; rw [Nat.add_mul]; omega
theorem step_all {ws : List (List Nat)} {ls : List Nat} {n : Nat} (h : ∀ w ∈ ws, w.length = n) : ∀ w ∈ step ws ls, w.length = n + 1 := by
  intro w hw
  unfold step at hw
  obtain ⟨a, ha, hb⟩ := List.mem_flatMap.mp hw
  obtain ⟨x, _, rfl⟩ := List.mem_map.mp hb
  rw [List.length_append, h a ha]
  rfl
theorem words_all : ∀ (cs : List (List Nat)) {ws : List (List Nat)} {n : Nat}, (∀ w ∈ ws, w.length = n) → ∀ w ∈ wordsV ws cs, w.length = n + cs.length
  | [], _, _, h => h
  | l :: r, ws, n, h => fun w hw => by
    have := words_all r (step_all (ls := l) h) w hw
    rw [this, List.length_cons]
    omega
theorem words_len : ∀ (cs : List (List Nat)) {ws : List (List Nat)}, (∀ l ∈ cs, l.length ≤ 3) → (wordsV ws cs).length ≤ ws.length * 3 ^ cs.length
  | [], ws, _ => by simp [wordsV]
  | l :: r, ws, h => by
    have a := words_len r (ws := step ws l) fun m hm => h m (List.mem_cons_of_mem _ hm)
    rw [step_len] at a
    have b := h l List.mem_cons_self
    show (wordsV (step ws l) r).length ≤ _
    rw [List.length_cons, Nat.pow_succ]
    have c : ws.length * l.length * 3 ^ r.length ≤ ws.length * 3 * 3 ^ r.length := Nat.mul_le_mul_right _ (Nat.mul_le_mul_left _ b)
    have d : ws.length * 3 * 3 ^ r.length = ws.length * (3 ^ r.length * 3) := by rw [Nat.mul_assoc, Nat.mul_comm 3]
    omega
theorem flat2_words (ws : List (List Nat)) (l : List Nat) : ∀ n, n ≤ ws.length → flat2 (fun _ => chars (tx l)) (fun i m => D.str (tx (ws.getD i []) ++ chr1 (l.getD m 0))) n = wD (step (ws.take n) l)
  | 0, _ => by simp [flat2, step, wD]
  | n + 1, h => by
    have ih := flat2_words ws l n (by omega)
    unfold flat2
    rw [ih]
    have e : ws.take (n + 1) = ws.take n ++ [ws.getD n []] := by
      rw [List.take_add_one, List.getD_eq_getElem?_getD, List.getElem?_eq_getElem (by omega)]
      rfl
    rw [e]
    unfold step wD
    rw [List.flatMap_append, List.map_append]
    congr 1
    rw [signs_len, List.flatMap_cons, List.flatMap_nil, List.append_nil, List.map_map]
    have q := range_get l (fun a => D.str (tx (ws.getD n []) ++ chr1 a))
    rw [show ((List.range l.length).map fun m => D.str (tx (ws.getD n []) ++ chr1 (l.getD m 0))) = l.map fun a => D.str (tx (ws.getD n []) ++ chr1 a) from q]
    refine List.map_congr_left fun a _ => ?_
    show D.str (tx _ ++ tx [a]) = D.str (tx (_ ++ [a]))
    rw [tx_app]
def wordsR : FSpec := fun ds c o => ∃ (g : G) (cs : List (List Nat)), ds = [.lst g (wD cs)] ∧ cs.length ≤ 6 ∧ (∀ l ∈ cs, l.length ≤ 3) ∧ o = .val (.lst ⟨decide (cs.length = 0), true⟩ (wD (wordsV [[]] cs))) false c
theorem range_get {α β : Type} [Inhabited α] (l : List α) (f : α → β) {z : α} : ((List.range l.length).map fun i => f (l.getD i z)) = l.map f := by
  refine List.ext_getElem? fun i => ?_
  by_cases hi : i < l.length
  · simp [hi, List.getElem?_range]
  · simp [hi]
section
variable {P : Program} {w : World} {K : PySem.W.Frag} {mg : Str → Option Value} {base : Heap} {B Cn : Addr}
theorem ok_cnt {f : Addr} {fd : FuncData} (T : PosD P w K mg base) (Er : Err1 P w K mg base "BadCount" "given" Cn) (F : FunD K "check_count" "check_count" (defArgs (top 12)) (defBody (top 12)) (defScope (top 12)) [.int 6] [] f fd) : FnOk P w K mg base (L2.CX P w) 3 f fd ["many", "most"] (spF K (cntR Cn)) := by
  refine fn_excD F (N := ["many", "most"]) ⟨rfl, rfl, rfl, by decide +kernel, rfl, by decide +kernel, by decide +kernel⟩ (fun ds c o h => ?_) (fun cdv A outer s H E hr p ds c o h tk => ?_)
  · obtain ⟨d, rfl, _⟩ := h
    rfl
  · obtain ⟨d, rfl, fd', rfl⟩ := h
    cases h : posD d 7 with
    | true =>
      rw [if_pos rfl]
      exact .inr ⟨rfl, _, rss_cons (rs_if (kb := false) (rt_not (rt_val (re_c0 (d := .bl true) T hr (ra_cons (re_var 0) (ra_cons (re_bin op_add (re_var 1) re_int ov_ii) ra_nil)) ⟨d, 7, rfl, fd', by rw [← h]⟩))) (fun z => nomatch z) fun _ => rss_nil) rss_nil⟩
    | false =>
      rw [if_neg Bool.false_ne_true]
      exact rss_ex (rs_if (kb := true) (rt_not (rt_val (re_c0 (d := .bl false) T hr (ra_cons (re_var 0) (ra_cons (re_bin op_add (re_var 1) re_int ov_ii) ra_nil)) ⟨d, 7, rfl, fd', by rw [← h]⟩))) (fun _ => rss_ex (rs_raiseG rfl tk Er hr (re_var 0))) fun z => nomatch z)
abbrev nWords : List Str := ["choices", "words", "letters", "word", "letter"]
theorem scWords : FnScope nWords ["choices"] (defScope (top 24)) := ⟨rfl, rfl, rfl, by decide +kernel, rfl, by decide +kernel, by decide +kernel⟩
theorem ok_words {f : Addr} {fd : FuncData} (F : Fun K "_words" "_words" (top 24) f fd) : FnOk P w K mg base CX0 1 f fd ["choices"] (spF K wordsR) := by
  refine fn_val F scWords (fun ds c o h => ?_) (fun ds c o h => ?_) (fun cdv A outer s H E hr p ds c o h => ?_)
  · obtain ⟨g, cs, rfl, _⟩ := h
    rfl
  · obtain ⟨g, cs, _, _, _, rfl⟩ := h
    exact ⟨_, _, _, rfl⟩
  · obtain ⟨g, cs, rfl, h6, h3, rfl⟩ := h
    refine .inl ?_
    have lz : (wD cs).length = cs.length := by unfold wD; rw [List.length_map]
    have fin : (.lst ⟨decide (cs.length = 0), true⟩ (wD (wordsV [[]] cs)) : D) = .lst ⟨decide ((wD cs).length = 0), true⟩ (wD (wordsV [[]] (cs.take (wD cs).length))) := by rw [lz, List.take_length]
    rw [fin]
    have at' : ∀ {j : Nat} {d : D}, (wD cs)[j]? = some d → d = .str (tx (cs.getD j [])) ∧ j < cs.length := fun {j d} h => by
      unfold wD at h
      rw [List.getElem?_map] at h
      by_cases hj : j < cs.length
      · rw [List.getElem?_eq_getElem hj] at h
        rw [List.getD_eq_getElem?_getD, List.getElem?_eq_getElem hj]
        exact ⟨(Option.some.inj h).symm, hj⟩
      · rw [List.getElem?_eq_none (by omega)] at h
        cases h
    have loop := rs_for_all (X := (cxOf CX0 P w K mg base nWords "_words" (defScope (top 24)) f cdv A outer s H E).nox) (W := Wf) (p := p) (ρ := [some (.lst g (wD cs)), some (.lst ⟨decide (0 = 0), true⟩ (wD (wordsV [[]] (cs.take 0)))), none, none, none]) (c := c) (xs := wD cs) (vs := [2]) (g := gName 2) (tg := (match defBody (top 24) with | [_, .For a _ _ _ _, _] => a | _ => .Name "" ⟨0, 0, 0, 0⟩)) (it := (match defBody (top 24) with | [_, .For _ a _ _ _, _] => a | _ => .Name "" ⟨0, 0, 0, 0⟩)) (body := (match defBody (top 24) with | [_, .For _ _ a _ _, _] => a | _ => [])) (pos := (match defBody (top 24) with | [_, .For _ _ _ _ a, _] => a | _ => ⟨0, 0, 0, 0⟩))
      (fun j => [some (.lst g (wD cs)), some (.lst ⟨decide (j = 0), true⟩ (wD (wordsV [[]] (cs.take j)))), none, none, none]) (fun j => [some (.lst g (wD cs)), some (.lst ⟨decide (j = 0), true⟩ (wD (wordsV [[]] (cs.take j)))), some (.str (tx (cs.getD j []))), none, none]) (fun _ => c) PassesOwn.never rfl rfl (ri_lst (re_var 0)) (pg_name (i := 2) scWords.nd rfl (Or.inr rfl)) (fun j d h => ?_) (fun j d h => rss_less (ρ1 := [some (.lst g (wD cs)), some (.lst ⟨decide (j + 1 = 0), true⟩ (wD (wordsV [[]] (cs.take (j + 1))))), some (.str (tx (cs.getD j []))), none, none]) (rss_cons (rest := []) ?_ rss_nil) (by repeat (first | exact Less.nil | apply Less.same | apply Less.skip)))
    · exact rss_cons (rs_set 1 scWords.nd (re_lst (ra_cons re_str ra_nil) (by show 1 ≤ 100000; decide))) (rss_cons loop (rss_ret (rs_ret (re_var 1))))
    · obtain ⟨rfl, _⟩ := at' h
      exact tg_name (by decide)
    · obtain ⟨rfl, hj⟩ := at' h
      have wl := words_all (cs.take j) (ws := [[]]) (n := 0) (fun w hw => by rcases List.mem_cons.mp hw with rfl | hw; rfl; cases hw)
      have wn := words_len (cs.take j) (ws := [[]]) fun l hl => h3 l (List.mem_of_mem_take hl)
      generalize hws : wordsV [[]] (cs.take j) = ws at *
      have tj : (cs.take j).length ≤ 6 := by rw [List.length_take]; omega
      have wn' : ws.length ≤ 729 := by
        have : 3 ^ (cs.take j).length ≤ 3 ^ 6 := Nat.pow_le_pow_right (by decide) tj
        have e : (3 : Nat) ^ 6 = 729 := by decide
        simp only [List.length_cons, List.length_nil] at wn
        omega
      have l3 : (cs.getD j []).length ≤ 3 := h3 _ (by rw [List.getD_eq_getElem?_getD, List.getElem?_eq_getElem hj]; exact List.getElem_mem _)
      generalize hl : cs.getD j [] = l at *
      have wz : (wD ws).length = ws.length := by unfold wD; rw [List.length_map]
      have next : (.lst ⟨decide (j + 1 = 0), true⟩ (wD (wordsV [[]] (cs.take (j + 1)))) : D) = .lst ⟨false, true⟩ (flat2 (fun _ => chars (tx l)) (fun i m => D.str (tx (ws.getD i []) ++ chr1 (l.getD m 0))) (wD ws).length) := by
        rw [wz, flat2_words ws l _ (Nat.le_refl _), List.take_length]
        have e : cs.take (j + 1) = cs.take j ++ [l] := by
          rw [List.take_add_one, ← hl, List.getD_eq_getElem?_getD, List.getElem?_eq_getElem hj]
          rfl
        rw [e, wordsV_app, hws]
        rfl
      rw [next]
      have wat : ∀ {i : Nat} {d : D}, (wD ws)[i]? = some d → d = .str (tx (ws.getD i [])) ∧ (ws.getD i []).length ≤ 6 := fun {i d} h => by
        unfold wD at h
        rw [List.getElem?_map] at h
        by_cases hi : i < ws.length
        · rw [List.getElem?_eq_getElem hi] at h
          have m : ws.getD i [] ∈ ws := by
            rw [List.getD_eq_getElem?_getD, List.getElem?_eq_getElem hi]
            exact List.getElem_mem _
          refine ⟨?_, by rw [wl _ m]; omega⟩
          rw [List.getD_eq_getElem?_getD, List.getElem?_eq_getElem hi]
          exact (Option.some.inj h).symm
        · rw [List.getElem?_eq_none (by omega)] at h
          cases h
      refine rs_lc2 (W := Wf) (own := [("word", 3), ("letter", 4)]) (vs1 := [4]) (g := gName 3) (g1 := gName 4) 1 (fun _ => chars (tx l)) (fun i m => D.str (tx (ws.getD i []) ++ chr1 (l.getD m 0))) (fun i => [some (.lst g (wD cs)), some (.lst ⟨decide (j = 0), true⟩ (wD ws)), some (.str (tx l)), some (.str (tx (ws.getD i []))), none]) (fun i m => [some (.lst g (wD cs)), some (.lst ⟨decide (j = 0), true⟩ (wD ws)), some (.str (tx l)), some (.str (tx (ws.getD i []))), some (.str (chr1 (l.getD m 0)))]) true rfl scWords.nd (ri_lst (re_var 1)) (blkOk_by (N := nWords) (sc := defScope (top 24)) (by decide +kernel)) (by decide) (fun _ _ _ _ _ => pg_name (i := 3) scWords.nd rfl (Or.inl rfl)) (fun _ _ _ _ _ => pg_name (i := 4) scWords.nd rfl (Or.inl rfl)) (fun i d h q s H C cl fp => ri_str (re_var 2)) (fun i d h => ?_) (fun i m d e h h' => ?_) (fun i m d e h h' q s H C cl fp => ?_) (fun i m d h hm => ?_)
      · obtain ⟨rfl, _⟩ := wat h
        exact tg_name (by decide)
      · obtain ⟨rfl, _⟩ := signs_at h'
        exact tg_name (by decide)
      · obtain ⟨_, hw⟩ := wat h
        exact re_bin op_add_str (re_var 3) (re_var 4) (ov_addS (sz_le (by rw [tx_len]; show _ + 1 ≤ _; omega)))
      · have hi : i < ws.length := by have := (List.getElem?_eq_some_iff.mp h).1; rw [wz] at this; exact this
        rw [flat2_words ws l i (by omega)]
        unfold wD
        rw [List.length_map, step_len, List.length_take]
        rw [signs_len] at hm
        have : min i ws.length * l.length ≤ 729 * 3 := Nat.mul_le_mul (by omega) l3
        omega
def cntN : D → Nat
  | .int i => i.toNat
  | _ => 0
def allV (a : List Nat) (n : Nat) : D := .lst ⟨decide (n = 0), true⟩ (wD (wordsV [[]] (List.replicate n a)))
def allR (Cn : Addr) (a : List Nat) : FSpec := fun ds c o => ∃ d, ds = [d] ∧ Ty d ∧ o = if posD d 7 then .val (allV a (cntN d)) false c else .ex Cn [("given", d)] c
theorem rep_wD (a : List Nat) : ∀ n : Nat, (List.replicate n [D.str (tx a)]).flatten = wD (List.replicate n a)
  | 0 => rfl
  | n + 1 => by
    rw [List.replicate_succ, List.replicate_succ, List.flatten_cons, rep_wD a n]
    rfl
abbrev CntD (P : Program) (w : World) (K : PySem.W.Frag) (mg : Str → Option Value) (base : Heap) (Cn : Addr) := Def1D P w K mg base 3 "check_count" ["many", "most"] (cntR Cn) [.int 6]
abbrev WordsD (P : Program) (w : World) (K : PySem.W.Frag) (mg : Str → Option Value) (base : Heap) := Def0 P w K mg base 1 "_words" ["choices"] wordsR
abbrev AllD (P : Program) (w : World) (K : PySem.W.Frag) (mg : Str → Option Value) (base : Heap) (Cn : Addr) (x : Str) (a : List Nat) := Def1 P w K mg base 4 x ["many"] (allR Cn a)
theorem sixes {q : HD} {H : Hp} : DVs K q H [V.int 6] [D.int 6] := .cons (.int 6) .nil
theorem ok_inputs {f : Addr} {fd : FuncData} (TC : CntD P w K mg base Cn) (TW : WordsD P w K mg base) (F : Fun K "inputs" "inputs" (top 16) f fd) : FnOk P w K mg base (L2.CX P w) 4 f fd ["many"] (spF K (allR Cn bins)) := by
  refine fn_exc F (N := ["many"]) ⟨rfl, rfl, rfl, by decide +kernel, rfl, by decide +kernel, by decide +kernel⟩ (fun ds c o h => ?_) (fun cdv A outer s H E hr p ds c o h tk => ?_)
  · obtain ⟨d, rfl, _⟩ := h
    rfl
  · obtain ⟨d, rfl, fd', rfl⟩ := h
    cases h : posD d 7 with
    | false =>
      rw [if_neg Bool.false_ne_true]
      exact rss_ex (rs_exprX (re_c1D (es' := [.int 6]) tk TC hr (ra_cons (re_var 0) ra_nil) (fun q H => sixes) ⟨d, rfl, fd', by rw [h, if_neg Bool.false_ne_true]⟩))
    | true =>
      rw [if_pos rfl]
      refine .inl (rss_cons (rs_expr (re_c1D (es' := [.int 6]) (o := .val .non true c) tk TC hr (ra_cons (re_var 0) ra_nil) (fun q H => sixes) ⟨d, rfl, fd', by rw [h, if_pos rfl]⟩)) ?_)
      cases d with
      | int i =>
        obtain ⟨i0, i1⟩ := Bool.and_eq_true_iff.mp (show (decide (0 ≤ i) && decide (i < 7)) = true from h)
        have i0 := of_decide_eq_true i0
        have i1 := of_decide_eq_true i1
        refine rss_ret (rs_ret (re_c0 (ds := [.lst ⟨false, true⟩ (List.replicate i.toNat [D.str (tx bins)]).flatten]) TW (hr.mono (by decide)) (ra_cons (re_bin op_rep (re_lst (ra_cons re_str ra_nil) (by show 1 ≤ 100000; decide)) (re_var 0) (ov_rep rfl (by omega) (by omega) (by show 1 * _ ≤ _; omega))) ra_nil) ⟨⟨false, true⟩, List.replicate i.toNat bins, by rw [rep_wD], by rw [List.length_replicate]; omega, fun l hl => by rw [List.eq_of_mem_replicate hl]; decide, ?_⟩))
        rw [List.length_replicate]
        rfl
      | _ => cases h
end
end K41

/-! a tuple of ints that stands at the top: read, its index, in it -/
namespace LA
open PySem PySem.Spec PyProof.Rows L2
structure CTup (K : PySem.W.Frag) (mg : Str → Option Value) (x : Str) (ns : List Int) : Prop where
  ex : ∃ (T : Addr) (o : Obj) (its : Array Value) (n : Nat), mg x = some (.ref T) ∧ K.lookup T = some o ∧ o.cls = .type "tuple" ∧ o.dict = none ∧ o.data = .seq its n ∧ its.size ≤ sizeLine ∧ Vals (ns.map V.int) its.toList
theorem dvs_intsZ {K : PySem.W.Frag} {p : HD} {H : Hp} : ∀ ns : List Int, DVs K p H (ns.map V.int) (ns.map D.int)
  | [] => .nil
  | n :: r => .cons (.int n) (dvs_intsZ r)
section
variable {X : Cx} {W : WX} {p : HD} {ρ : Rho} {c c1 : PC} {e : Expr} {pos apos np : Pos} {x : Str} {ns : List Int} {k : Int} {nw : Bool}
theorem re_ctup (t : CTup X.K X.mg x ns) (hg : Gl X x := by rfl) (hd : (x == ("__debug__" : Str)) = false := by decide) : RE X W p ρ c (.Name x np) (.val (.tup (ns.map D.int)) false c) := by
  obtain ⟨T, o, its, n, h1, h2, h3, _, h5, h6, h7⟩ := t.ex
  exact pe_imp (pe_glob (v := .ref T) hg h1 rfl hd) fun σ H Q ⟨s, kk⟩ => kk (.ref T) H (Ext.refl p H) s.pl (.tup (.inr ⟨o, its, n, h2, h3, h5, h6, h7⟩) (dvs_intsZ ns)) fun z => nomatch z
theorem mt_tupIx : MtR X "tuple.index" (fun x xs H Q => ∃ (q : Addr) (ns : List Int) (k : Int), x = V.ref q ∧ xs = [V.int k] ∧ SqT X.K H q (ns.map V.int) ∧ k ∈ ns ∧ Q (.int (ns.idxOf k : Nat)) H) := by
  intro pins s σ H x xs v us Q I rx rs h
  obtain ⟨q, ns, k, rfl, rfl, hq, hk, fin⟩ := h
  cases rx
  obtain ⟨u, rfl, t, rfl⟩ := vals1 rs
  obtain ⟨its, r, pl, hz⟩ := I.tuple hq
  exact PySem.SeqAt.tuple_index_ints (vs := its) (show s.heap.IsTuple q its.toArray from pl) (ints_of_vals r) hk ⟨.int (ns.idxOf k : Nat), H, I.tok _, ⟨_, rfl⟩, fin⟩
theorem re_ctupIx (t : CTup X.K X.mg x ns) (he : RE X W p ρ c e (.val (.int k) nw c1)) (hk : k ∈ ns) (hg : Gl X x := by rfl) (hd : (x == ("__debug__" : Str)) = false := by decide)
    (hbase : attributeBase (.Name x np) "index" X.env (eval (.Name x np) X.env) = eval (.Name x np) X.env := by rfl)
    (hfew : ((backTo pos (starEach [e] X.env)).all (fun x => !x.1) && (backToKw pos (keywordEach [] X.env)).all (fun x => x.1.isSome) && decide (([e] : List Expr).length + ([] : List Keyword).length + (if ([] : List Keyword).isEmpty then 0 else 1) < 30)) = true := by rfl)
    (hline : (apos.endLine == pos.line) = true := by rfl) (hs : starEach [e] X.env = (false, eval e X.env) :: starEach [] X.env := by rfl) (hplain : (backTo pos (starEach [] X.env)).any (·.1) = false := by rfl) :
    RE X W p ρ c (.Call (.Attribute (.Name x np) "index" apos) [e] [] pos) (.val (.int (ns.idxOf k : Nat)) true c1) := by
  obtain ⟨T, o, its, n, h1, h2, h3, h4, h5, h6, h7⟩ := t.ex
  refine pe_imp (pe_bm PySem.F.plainAttrs_tuple PySem.F.slot_tuple_index (by first | rfl | (show builtinType _ = _; rw [builtinType_eq_fast]; kernel_rfl)) mt_tupIx (pe_glob (v := .ref T) hg h1 rfl hd) (ra_cons (W := W) he ra_nil hs) hbase hfew hline hs hplain) fun σ H Q ⟨s, kk⟩ => ?_
  refine ⟨.inr (.inl ⟨rfl, o, h2, h3, h4⟩), s, fun vs H1 e1 p1 dvs => ?_⟩
  cases dvs with
  | cons hv hr =>
    cases hr
    cases hv
    exact ⟨T, ns, k, rfl, rfl, .inr ⟨o, its, n, h2, h3, h5, h6, h7⟩, hk, kk _ H1 e1 p1 (.int _) fun _ => New.sc (by intro a z; cases z)⟩
end
end LA

/-! a walk over zip(a list, a text) -/
namespace LA
open PySem PySem.Spec PyProof.Rows L2
def ItZ (K : PySem.W.Frag) (a : Addr) (z : Str) : It :=
  ⟨fun i H => ∃ xs, SqL K H a xs ∧ i < min xs.length z.cps.size, fun i H v H' => ∃ T x, v = .ref T ∧ H T = none ∧ (∀ ys, SqL K H a ys → ys[i]? = some x) ∧ H' = L2.upd H T (.tup [x, sgn z i]), fun i H => ∃ xs, SqL K H a xs ∧ i = min xs.length z.cps.size⟩
section
variable {P : Program} {w : World} {K : PySem.W.Frag} {elts : List Expr} {kk : Nat} {tpos : Pos} {a it TI TO i1 i2 : Addr} {z : Str} {tz : Tok}
def zSt (it TI TO i1 i2 a : Addr) (z : Str) (tz : Tok) (i : Nat) (h : Heap) : Prop := IsZip h it TI TO .none ∧ IsTupOf2 h TI (.ref i1) (.ref i2) ∧ (∃ a1 a2, IsTupOf2 h TO a1 a2) ∧ h.IsListIter i1 a i ∧ h.IsStrIter i2 (strIterType z) z tz i
theorem turn_zLS (S : ZipSep2 it TI TO i1 i2 [i1, a] [i2]) (hne : a ≠ i1) : Turn P w K (.Tuple elts kk tpos) (ItZ K a z) [it, TI, TO, i1, i2] it (zSt it TI TO i1 i2 a z tz) where
  mem := List.mem_cons_self
  obj := fun i h st c hc => by
    obtain ⟨e1, e2, ⟨x, y, e3⟩, ⟨o4, q4, _, d4⟩, ⟨o5, q5, _, d5⟩⟩ := st
    have q : c = it ∨ c = TI ∨ c = TO ∨ c = i1 ∨ c = i2 := by simpa using hc
    rcases q with rfl | rfl | rfl | rfl | rfl
    · exact ⟨_, e1, fun v q => nomatch q⟩
    · exact ⟨_, e2, fun v q => nomatch q⟩
    · exact ⟨_, e3, fun v q => nomatch q⟩
    · exact ⟨o4, q4, fun v q => by rw [d4] at q; cases q⟩
    · exact ⟨o5, q5, fun v q => by rw [d5] at q; cases q⟩
  keep := fun i h h' st k => by
    obtain ⟨e1, e2, ⟨x, y, e3⟩, e4, ⟨o5, q5, c5, d5⟩⟩ := st
    exact ⟨k it (by simp) _ e1, k TI (by simp) _ e2, ⟨x, y, k TO (by simp) _ e3⟩, e4.at fun o e => k i1 (by simp) o e, ⟨o5, k i2 (by simp) o5 q5, c5, d5⟩⟩
  item := by
    intro X hP hw hK hc i pins s σ H E I hf st hg
    subst hP hw hK
    obtain ⟨xs, hq, hi⟩ := hg
    obtain ⟨its, rv, pl, _⟩ := I.list hq
    have el := rv.length
    have hh := I.ok.hd hc
    obtain ⟨e1, e2, e3, e4, e5⟩ := st
    have G := GoesN.zip2 (elts := elts) (x1 := kk) (pos := tpos) S (Draws.list (prog := X.prog) (w := X.w) (A := X.A.in1) hh i1 a hne its.toArray) (Draws.text (prog := X.prog) (w := X.w) (A := X.A.in1) hh i2 z tz)
    have hi' : i < min its.toArray.size z.cps.size := by
      rw [List.size_toArray, ← el]
      exact hi
    refine wpAny_mono (G.goes i s (fun v s₂ => ∃ x H', Inv X pins σ H' s₂ ∧ RelV x v ∧ (ItZ X.K a z).yld i H x H' ∧ zSt it TI TO i1 i2 a z tz (i + 1) s₂.heap ∧ ∀ b ∈ [it, TI, TO, i1, i2], H' b = none) E hi' ⟨e1, e2, e3, ⟨e4, pl.isList⟩, e5⟩ fun v h' tk hY st' hk _ => ?_) (fun r s1 ⟨v, e, q⟩ => ⟨v, e, q⟩) fun _ _ q => q
    obtain ⟨T, x, y, rfl, hT, px, py, ht⟩ := hY
    have hx : its[i]? = some x := by simpa using px
    have li : i < xs.length := Nat.lt_of_lt_of_le hi (Nat.min_le_left _ _)
    obtain ⟨x', hx', rx⟩ := rv.get (List.getElem?_eq_getElem li)
    obtain rfl : x' = x := Option.some.inj (hx'.symm.trans hx)
    have new : ObjOk X.prog X.w (L2.upd H T (.tup [xs[i], sgn z i])) h' T (.tup [xs[i], sgn z i]) := ⟨by show 2 ≤ sizeLine; decide, [x', y], .cons rx (.cons (sgn_of py) .nil), ht⟩
    have I1 := I.turnedNew (t' := tk) (ch := [it, TO, i1, i2]) hk (fun b hb => hf b (by
      have q : b = it ∨ b = TO ∨ b = i1 ∨ b = i2 := by simpa using hb
      rcases q with rfl | rfl | rfl | rfl <;> simp)) hT new
    obtain ⟨t1, t2, t3, t4, t5⟩ := st'
    refine ⟨.ref T, _, I1, rfl, ⟨T, xs[i], rfl, I.hok.fresh hT, fun ys hy => by rw [I.list_inj hy hq]; exact List.getElem?_eq_getElem li, rfl⟩, ⟨t1, t2, t3, t4.1, t5⟩, fun b hb => ?_⟩
    have lt : b < s.heap.objs.size := by
      obtain ⟨x3, y3, e3⟩ := e3
      obtain ⟨o4, q4, _⟩ := e4
      obtain ⟨o5, q5, _⟩ := e5
      have q : b = it ∨ b = TI ∨ b = TO ∨ b = i1 ∨ b = i2 := by simpa using hb
      rcases q with rfl | rfl | rfl | rfl | rfl
      · exact Heap.lt_size e1
      · exact Heap.lt_size e2
      · exact Heap.lt_size e3
      · exact Heap.lt_size q4
      · exact Heap.lt_size q5
    rw [upd_ne (Nat.ne_of_lt (Nat.lt_of_lt_of_le lt hT))]
    exact (hf b hb).1
  done := by
    intro X hP hw hK hc i pins s σ H E I hf st hg
    subst hP hw hK
    obtain ⟨xs, hq, hi⟩ := hg
    obtain ⟨its, rv, pl, _⟩ := I.list hq
    have el := rv.length
    have hh := I.ok.hd hc
    obtain ⟨e1, e2, e3, e4, e5⟩ := st
    have G := GoesN.zip2 (elts := elts) (x1 := kk) (pos := tpos) S (Draws.list (prog := X.prog) (w := X.w) (A := X.A.in1) hh i1 a hne its.toArray) (Draws.text (prog := X.prog) (w := X.w) (A := X.A.in1) hh i2 z tz)
    have ei : i = min its.toArray.size z.cps.size := by
      rw [List.size_toArray, ← el]
      exact hi
    subst ei
    refine wpAny_mono (G.stops s (fun s1 => Inv X pins σ H s1) E ⟨e1, e2, e3, ⟨e4, pl.isList⟩, e5⟩ fun h' tk hk _ => I.turnedL (ch := [it, TO, i1, i2]) hk fun b hb => hf b ?_) (fun r s1 q => q) fun _ _ q => q
    have q : b = it ∨ b = TO ∨ b = i1 ∨ b = i2 := by simpa using hb
    rcases q with rfl | rfl | rfl | rfl <;> simp
  self := fun A i s Q E st h => wpAny_pyIter_zip st.1 h
end
def iZLS (K : PySem.W.Frag) (ta : TA) : TI := fun σ H R => ta σ H fun vs H1 => ∃ (a : Addr) (z : Str) (xs : List V), vs = [.ref a, .str z] ∧ SqL K H1 a xs ∧ R (ItZ K a z) H1
theorem pi_zLS {X : Cx} {e e2 : Expr} {ta : TA} {p pos tpos : Pos} {elts : List Expr} {kk : Nat} (hg : Gl X "zip") (hm : X.mg "zip" = none) (ha : PA X [e, e2] ta)
    (hs : starEach [e, e2] X.env = (false, eval e X.env) :: starEach [e2] X.env) (hpl : (backTo pos (starEach [e2] X.env)).any (·.1) = false) : PI X (.Tuple elts kk tpos) (.Call (.Name "zip" p) [e, e2] [] pos) (iZLS X.K ta) := ⟨fun pins s σ H R I h => by
  refine Call_ (ld_blt I hg hm PyProof.Rows.boot_zip (PyProof.Rows.callWith_type1 (thn (ha.run pos pins s σ H _ I h) fun us s1 hu => ?_) hs hpl))
  obtain ⟨vs, H1, I1, r1, a, z, xs, rfl, hq, q⟩ := hu
  obtain ⟨u, u', rfl, ra, rz⟩ := vals2 r1
  cases ra
  obtain ⟨tz, rfl⟩ := rz
  obtain ⟨its, rv, pl, _⟩ := I1.list hq
  have la : a < s1.heap.objs.size := by
    obtain ⟨o, ho, _⟩ := pl.isList
    exact Heap.lt_size ho
  let N := s1.heap.objs.size
  refine zip_begins2 (begins_list a its.toArray) (begins_text z tz) pl.isList trivial fun h' hz hTI hTO o1 o2 hsz hk => wpAny_pyIter_zip hz ?_
  have I2 : Inv X pins σ H1 { s1 with heap := h' } := I1.kept (t' := s1.toks) hk
  have S : ZipSep2 (N + 4) (N + 2) (N + 3) N (N + 1) [N, a] [N + 1] := zip_sep2 (N := N) (fp1 := [a]) (fp2 := []) (fun b hb => by
    rw [List.mem_singleton.mp hb]
    exact la) (fun b hb => nomatch hb)
  refine ⟨N + 4, [N + 4, N + 2, N + 3, N, N + 1], _, _, H1, rfl, I2, turn_zLS S (Nat.ne_of_lt la) (tz := tz), ⟨hz, hTI, ⟨_, _, hTO⟩, ⟨_, o1, rfl, rfl⟩, ⟨_, o2, rfl, rfl⟩⟩, fun c hc => ?_, q⟩
  have hle : N ≤ c := by
    have e : c = N + 4 ∨ c = N + 2 ∨ c = N + 3 ∨ c = N ∨ c = N + 1 := by simpa using hc
    rcases e with e | e | e | e | e
    · rw [e]; exact Nat.le_add_right _ _
    · rw [e]; exact Nat.le_add_right _ _
    · rw [e]; exact Nat.le_add_right _ _
    · rw [e]; exact Nat.le_refl _
    · rw [e]; exact Nat.le_add_right _ _
  exact I1.fpOk hle (I1.hok.fresh hle)⟩
/-- pairs of an item and a sign -/
def zipLS (xs : List D) (z : Str) : List D := (List.range (min xs.length z.cps.size)).map fun i => D.tup [xs.getD i .non, .str ⟨#[z.cps.toList.getD i 0]⟩]
theorem zipLS_at {xs : List D} {z : Str} {i : Nat} {d : D} (h : (zipLS xs z)[i]? = some d) : i < min xs.length z.cps.size ∧ d = D.tup [xs.getD i .non, .str ⟨#[z.cps.toList.getD i 0]⟩] := by
  have l := (List.getElem?_eq_some_iff.mp h).1
  unfold zipLS at h l
  rw [List.length_map, List.length_range] at l
  rw [List.getElem?_map, List.getElem?_range l] at h
  exact ⟨l, (Option.some.inj h).symm⟩
section
variable {X : Cx} {W : WX} {p : HD} {ρ : Rho} {c c1 : PC} {e e2 : Expr} {pos : Pos}
theorem ri_zLS {ps tpos : Pos} {elts : List Expr} {kk : Nat} {g : LA.G} {xs : List D} {z : Str} (hm : X.mg "zip" = none) (h : RA X W p ρ c [e, e2] (.val [.lst g xs, .str z] c1)) (hg : Gl X "zip" := by rfl)
    (hs : starEach [e, e2] X.env = (false, eval e X.env) :: starEach [e2] X.env := by rfl) (hpl : (backTo pos (starEach [e2] X.env)).any (·.1) = false := by rfl) :
    RI X W p ρ c (.Tuple elts kk tpos) (.Call (.Name "zip" ps) [e, e2] [] pos) (zipLS xs z) c1 :=
  pi_imp (pi_zLS hg hm h hs hpl) fun σ H R ⟨s, k⟩ => ⟨s, fun vs H1 e1 p1 dvs => by
    match vs, dvs with
    | _, .cons (.lst (a := a) (xs := ws) hb hq r) (.cons (.str _) .nil) =>
      refine ⟨a, z, ws, rfl, un_sqL hq, k _ H1 e1 p1 fun q c' H2 qe qs p2 => ?_⟩
      have hq2 : SqL X.K H2 a ws := un_sqL (qs.sqL hq)
      have len : (zipLS xs z).length = min ws.length z.cps.size := by
        unfold zipLS
        rw [List.length_map, List.length_range, r.length]
      refine ⟨⟨ws, hq2, len⟩, fun i d hd => ?_⟩
      obtain ⟨li, rfl⟩ := zipLS_at hd
      refine ⟨⟨ws, hq2, by rw [r.length]; exact li⟩, fun x H3 y => ?_⟩
      obtain ⟨T, w, rfl, hT, hw, rfl⟩ := y
      have lx : i < xs.length := Nat.lt_of_lt_of_le li (Nat.min_le_left _ _)
      obtain ⟨v, h1, h2⟩ := r.get (List.getElem?_eq_getElem lx)
      obtain rfl : w = v := Option.some.inj ((hw ws hq2).symm.trans h1)
      have ex : xs.getD i .non = xs[i] := by
        rw [List.getD_eq_getElem?_getD, List.getElem?_eq_getElem lx]
        rfl
      rw [ex]
      exact ⟨Ext.new hT, p2.upd hT, .tup (.inl (.inl (hide_upd p2 hT))) (.cons ((h2.sub qs (fun i b zz => by rw [qe]; exact zz)).mono (Ext.new hT)) (.cons (.str _) .nil))⟩⟩
end
end LA

namespace K41
open PySem PySem.Spec PyProof.Rows L2 LA
/-! ### the class Question -/
def mth (i : Nat) : Stmt := match top 44 with
  | .ClassDef (body := b) .. => b.getD i (.Pass ⟨0, 0, 0, 0⟩)
  | _ => .Pass ⟨0, 0, 0, 0⟩
def lensZ : List Int := [1, 2, 4, 8, 16, 32, 64]
theorem sc_ints (ns : List Int) : (ns.map D.int).map scD = (ns.map V.int).map some := by
  rw [List.map_map, List.map_map]
  rfl
theorem flat_ints (ns : List Int) : (ns.map V.int).all flatV = true := by
  rw [List.all_map, List.all_eq_true]
  intro n _
  rfl
def inLens (n : Nat) : Bool := inV (V.int (n : Nat)) (lensZ.map V.int)
def isTab (d : D) : Bool := isStrD d && (inLens (cds d).length && (cds d).all fun n => decide (n ∈ bins))
def tabR : FSpec := fun ds c o => ∃ d, ds = [d] ∧ Fit d ∧ o = .val (.bl (isTab d)) true c
section
variable {P : Program} {w : World} {K : PySem.W.Frag} {mg : Str → Option Value} {base : Heap} {B Cn : Addr}
theorem scTab : FnScope ["value", "answer"] ["value"] (defScope (top 45)) := ⟨rfl, rfl, rfl, by decide +kernel, rfl, by decide +kernel, by decide +kernel⟩
theorem ok_isTab {f : Addr} {fd : FuncData} (G : Glb mg) (hL : CTup K mg "LENGTHS" lensZ) (F : Fun K "_is_table" "_is_table" (top 45) f fd) : FnOk P w K mg base CX0 1 f fd ["value"] (spF K tabR) := by
  refine fn_val F scTab (fun ds c o h => ?_) (fun ds c o h => ?_) (fun cdv A outer s H E hr p ds c o h => ?_)
  · obtain ⟨d, rfl, _⟩ := h
    rfl
  · obtain ⟨d, _, _, rfl⟩ := h
    exact ⟨_, _, _, rfl⟩
  · obtain ⟨d, rfl, fd', rfl⟩ := h
    obtain ⟨t, ht⟩ := fd'.ty
    refine .inl (rss_ret (rs_ret (re_and (k1 := isStrD d) (re_callB call_isi G.isi PyProof.Rows.boot_isinstance (ra_cons (re_var 0) (ra_cons (re_ty G.str PyProof.Rows.boot_str) ra_nil)) (cv_isi ht (isi_str ht))) (fun hk => ?_))))
    cases d with
    | str s =>
      obtain ⟨l, rfl⟩ := str_tx s
      have hl := fd'.len l rfl
      rw [cds_tx]
      refine re_and (n1 := true) (k1 := inLens l.length) ?_ (fun hk => re_and1 ?_)
      · exact re_cmp op_in_seq (re_callB call_len G.len PySem.boot_len (ra_cons (re_var 0) ra_nil) (cv_lenT (by omega))) (re_ctup hL) (ov_inT rfl (sc_ints _) rfl (flat_ints _))
      · have key : ((List.range (chars (tx l)).length).map fun i => D.bl (decide (l.getD i 0 ∈ bins))) = (l.map fun n => decide (n ∈ bins)).map D.bl := by
          rw [signs_len]
          refine List.ext_getElem? fun i => ?_
          by_cases hi : i < l.length
          · simp [hi, List.getElem?_range]
          · simp [hi]
        have e : (l.all fun n => decide (n ∈ bins)) = (l.map fun n => decide (n ∈ bins)).all id := by rw [List.all_map]; rfl
        rw [e]
        refine re_callB (ds := [.lst ⟨false, true⟩ ((l.map fun n => decide (n ∈ bins)).map D.bl)]) (cr_all rfl) G.all PyProof.Rows.boot_all (ra_cons (nw := true) ?_ ra_nil) cv_all
        rw [← key]
        refine re_lcA (own := [("answer", 1)]) (g := gName 1) _ (fun _ => c) (fun i => [some (.str (tx l)), some (.str (chr1 (l.getD i 0)))]) (fun _ => true) rfl scTab.nd (ri_str (re_var 0)) (blkOk_by (N := ["value", "answer"]) (sc := defScope (top 45)) (by decide +kernel)) (fun _ _ _ _ _ => pg_name (i := 1) scTab.nd rfl (Or.inl rfl)) (fun i d h => ?_) (fun i d h q s H C cl fp => ?_) (by rw [signs_len]; omega)
        · obtain ⟨rfl, _⟩ := signs_at h
          exact tg_name (by decide)
        · exact re_cmp op_in_sign (re_var 1) re_str ov_inC
    | _ => cases hk
end
end K41

namespace K41
open PySem PySem.Spec PyProof.Rows L2 LA
/-! ### Question.__init__ -/
def manyOf (l : List Nat) : Nat := lensZ.idxOf (l.length : Int)
def insL (n : Nat) : List (List Nat) := wordsV [[]] (List.replicate n bins)
def yesL (l : List Nat) : List D := coll (fun i => decide (chr1 (l.getD i 0) = Str.ofString "1")) (fun i => .str (tx ((insL (manyOf l)).getD i []))) (min (insL (manyOf l)).length l.length)
def flds (l : List Nat) : List (Str × D) := [("_table", .str (tx l)), ("_many", .int (manyOf l : Nat)), ("_yes", .lst ⟨false, true⟩ (yesL l))]
def iniR (C B : Addr) : FSpec := fun ds c o => ∃ i d, ds = [.mut i, d] ∧ c[i]? = some (.ins C []) ∧ Fit d ∧ o = if isTab d then .val .non true (c.set i (.ins C (flds (cds d)))) else .ex B [("given", d)] c
theorem put1 {x y : D} : putD "_many" y [("_table", x)] = ([("_table", x), ("_many", y)] : List (Str × D)) := by
  unfold putD
  rw [if_neg (by decide)]
  rfl
theorem put2 {x y z : D} : putD "_yes" z [("_table", x), ("_many", y)] = ([("_table", x), ("_many", y), ("_yes", z)] : List (Str × D)) := by
  unfold putD
  rw [if_neg (by decide)]
  unfold putD
  rw [if_neg (by decide)]
  rfl
/-- a class whose objects have these attributes and no more -/
structure QC (K : PySem.W.Frag) (C : Addr) : Prop where
  cl : Cls K C
  t : NoAttr K C "_table"
  m : NoAttr K C "_many"
  y : NoAttr K C "_yes"
theorem tab_str {d : D} (h : isTab d = true) : ∃ l, d = .str (tx l) ∧ inLens l.length = true ∧ ∀ n ∈ l, n ∈ bins := by
  unfold isTab at h
  rw [Bool.and_eq_true_iff, Bool.and_eq_true_iff] at h
  obtain ⟨a1, a2, a3⟩ := h
  cases d with
  | str s =>
    obtain ⟨l, rfl⟩ := str_tx s
    rw [cds_tx] at a2 a3
    exact ⟨l, rfl, a2, fun n hn => of_decide_eq_true (List.all_eq_true.mp a3 n hn)⟩
  | _ => cases a1
theorem lens_of {n : Nat} (h : inLens n = true) : n = 1 ∨ n = 2 ∨ n = 4 ∨ n = 8 ∨ n = 16 ∨ n = 32 ∨ n = 64 := by
  by_cases h1 : n ≤ 64
  · have key : ∀ k : Fin 65, inLens k.val = true → (k.val = 1 ∨ k.val = 2 ∨ k.val = 4 ∨ k.val = 8 ∨ k.val = 16 ∨ k.val = 32 ∨ k.val = 64) := by decide +kernel
    exact key ⟨n, by omega⟩ h
  · exfalso
    unfold inLens at h
    obtain ⟨v, hv, e⟩ := List.any_eq_true.mp h
    simp only [lensZ, List.map_cons, List.map_nil, List.mem_cons, List.not_mem_nil, or_false] at hv
    rcases hv with rfl | rfl | rfl | rfl | rfl | rfl | rfl <;> (simp [eqV] at e; omega)
section
variable {P : Program} {w : World} {K : PySem.W.Frag} {mg : Str → Option Value} {base : Heap} {B Cn C : Addr}
theorem rs_to {X : Cx} {W : WX} {p : HD} {ρ ρ' : Rho} {c c1 c2 : PC} {st : Stmt} (h : RS X W p ρ c st (.nx ρ' c1)) (e : c1 = c2) : RS X W p ρ c st (.nx ρ' c2) := by
  subst e
  exact h
theorem low_app {n : Nat} : ∀ {a b : List D}, lowDs n a = true → lowDs n b = true → lowDs n (a ++ b) = true
  | [], _, _, h => h
  | x :: r, b, h, h' => by
    unfold lowDs at h
    show lowDs n (x :: (r ++ b)) = true
    unfold lowDs
    rw [(Bool.and_eq_true_iff.mp h).1, low_app (Bool.and_eq_true_iff.mp h).2 h']
    rfl
theorem low_coll {b : Nat → Bool} {y : Nat → Str} : ∀ n : Nat, lowDs 0 (coll b (fun i => .str (y i)) n) = true
  | 0 => rfl
  | n + 1 => by
    unfold coll
    refine low_app (low_coll n) ?_
    cases b n <;> rfl
abbrev TabD (P : Program) (w : World) (K : PySem.W.Frag) (mg : Str → Option Value) (base : Heap) := Def0 P w K mg base 1 "_is_table" ["value"] tabR
abbrev nIni : List Str := ["self", "table", "text", "answer"]
theorem scIni : FnScope nIni ["self", "table"] (defScope (mth 0)) := ⟨rfl, rfl, rfl, by decide +kernel, rfl, by decide +kernel, by decide +kernel⟩
theorem ok_ini {f : Addr} {fd : FuncData} (G : Glb mg) (hL : CTup K mg "LENGTHS" lensZ) (Q : QC K C) (T : TabD P w K mg base) (TI : AllD P w K mg base Cn "inputs" bins) (Er : Err1 P w K mg base "BadTable" "given" B) (F : Fun K "__init__" "Question.__init__" (mth 0) f fd) : FnOk P w K mg base (L2.CX P w) 5 f fd ["self", "table"] (spF K (iniR C B)) := by
  refine fn_exc F (N := nIni) scIni (fun ds c o h => ?_) (fun cdv A outer s H E hr p ds c o h tk => ?_)
  · obtain ⟨i, d, rfl, _⟩ := h
    rfl
  · obtain ⟨i, d, rfl, hc, fd', rfl⟩ := h
    cases h : isTab d with
    | false =>
      rw [if_neg Bool.false_ne_true]
      exact rss_ex (rs_if (kb := true) (rt_not (rt_val (re_c0 (d := .bl false) T (hr.mono (by decide)) (ra_cons (re_var 1) ra_nil) ⟨d, rfl, fd', by rw [← h]⟩))) (fun _ => rss_ex (rs_raiseG rfl tk Er (hr.mono (by decide)) (re_var 1))) fun z => nomatch z)
    | true =>
      rw [if_pos rfl]
      obtain ⟨l, rfl, h1, h2⟩ := tab_str h
      rw [cds_tx]
      have hlen := lens_of h1
      have hk : (l.length : Int) ∈ lensZ := by
        rcases hlen with e | e | e | e | e | e | e <;> rw [e] <;> decide
      have at0 := at_set (y := Cell.ins C [("_table", .str (tx l))]) hc
      have at1 := at_set (y := Cell.ins C [("_table", .str (tx l)), ("_many", .int (manyOf l : Nat))]) at0
      rw [List.set_set] at at1
      have fin : c.set i (Cell.ins C (flds l)) = (c.set i (Cell.ins C [("_table", .str (tx l)), ("_many", .int (manyOf l : Nat))])).set i (Cell.ins C (flds l)) := by rw [List.set_set]
      rw [fin]
      refine .inr ⟨rfl, startR nIni [D.mut i, D.str (tx l)], rss_cons (rs_if (kb := false) (rt_not (rt_val (re_c0 (d := .bl true) T (hr.mono (by decide)) (ra_cons (re_var 1) ra_nil) ⟨_, rfl, fd', by rw [← h]⟩))) (fun z => nomatch z) fun _ => rss_nil) ?_⟩
      refine rss_cons (c1 := c.set i (Cell.ins C [("_table", .str (tx l))])) (rs_fldM (fs := []) (re_var 1) (re_var 0) hc Q.cl Q.t (by decide) rfl) ?_
      refine rss_cons (c1 := c.set i (Cell.ins C [("_table", .str (tx l)), ("_many", .int (manyOf l : Nat))])) (rs_to (rs_fldM (fs := [("_table", .str (tx l))]) (re_ctupIx hL (re_callB call_len G.len PySem.boot_len (ra_cons (re_var 1) ra_nil) (cv_lenT (by omega))) hk) (re_var 0) at0 Q.cl Q.m (by show 1 < 1000; decide) rfl) (by rw [put1, List.set_set]; rfl)) ?_
      refine rss_cons (rs_to (rs_fldM (fs := [("_table", .str (tx l)), ("_many", .int (manyOf l : Nat))]) (d := .lst ⟨false, true⟩ (yesL l)) (nw := true) ?_ (re_var 0) at1 Q.cl Q.y (by show 2 < 1000; decide) ?_) (by rw [put2]; rfl)) rss_nil
      · have ym : (manyOf l : Int) = 0 ∨ (manyOf l : Int) = 1 ∨ (manyOf l : Int) = 2 ∨ (manyOf l : Int) = 3 ∨ (manyOf l : Int) = 4 ∨ (manyOf l : Int) = 5 ∨ (manyOf l : Int) = 6 := by
          unfold manyOf
          rcases hlen with e | e | e | e | e | e | e <;> rw [e] <;> decide
        have yp : posD (.int (manyOf l : Nat)) 7 = true := by
          show (decide ((0 : Int) ≤ (manyOf l : Nat)) && decide (((manyOf l : Nat) : Int) < 7)) = true
          rw [decide_eq_true (by omega), decide_eq_true (by omega)]
          rfl
        have zl : (zipLS (wD (insL (manyOf l))) (tx l)).length = min (insL (manyOf l)).length l.length := by
          unfold zipLS wD
          rw [List.length_map, List.length_range, List.length_map]
          have : (tx l).cps.size = l.length := by rw [← Array.length_toList, tx_list]
          rw [this]
        unfold yesL
        rw [← zl]
        refine re_lc (own := [("text", 2), ("answer", 3)]) (g := gTup K 2 (gCons (gName 2) (gCons (gName 3) gNil))) _ _ (fun _ => c.set i (Cell.ins C [("_table", .str (tx l)), ("_many", .int (manyOf l : Nat))])) (fun _ => c.set i (Cell.ins C [("_table", .str (tx l)), ("_many", .int (manyOf l : Nat))])) (fun j => [some (.mut i), some (.str (tx l)), some (.str (tx ((insL (manyOf l)).getD j []))), some (.str (chr1 (l.getD j 0)))]) (fun _ => false) rfl scIni.nd (ri_zLS G.zip (ra_cons (re_c1 (o := .val (allV bins (manyOf l)) false _) tk TI hr (ra_cons (re_fldM (re_var 0) at1 Q.cl Q.m rfl) ra_nil) ⟨.int (manyOf l : Nat), rfl, ⟨_, rfl⟩, ?_⟩) (ra_cons (re_var 1) ra_nil))) (blkOk_by (N := nIni) (sc := defScope (mth 0)) (by decide +kernel)) (fun _ _ _ _ _ => pg_tup rfl (pgs_cons (pg_name (i := 2) scIni.nd rfl (Or.inl rfl)) (pgs_cons (pg_name (i := 3) scIni.nd rfl (Or.inl rfl)) pgs_nil))) (fun j d h => ?_) (fun j d h q s H C' cl fp => ?_) (fun j d h hb q s H C' cl fp => ?_) (fun j d h hb => rfl) ?_
        · show _ = if posD (.int (manyOf l : Nat)) 7 = true then _ else _
          rw [yp, if_pos rfl]
          rfl
        · obtain ⟨lj, rfl⟩ := zipLS_at h
          have l1 : j < (insL (manyOf l)).length := by
            have := Nat.lt_of_lt_of_le lj (Nat.min_le_left _ _)
            unfold wD at this
            rw [List.length_map] at this
            exact this
          have e1 : (wD (insL (manyOf l))).getD j .non = .str (tx ((insL (manyOf l)).getD j [])) := by
            unfold wD
            rw [List.getD_eq_getElem?_getD, List.getElem?_map, List.getD_eq_getElem?_getD, List.getElem?_eq_getElem l1]
            rfl
          rw [e1, tx_list]
          exact tg_two (by decide) (by decide)
        · have qq := ov_eqS (K := K) (p := q) (c := c.set i (Cell.ins C [("_table", .str (tx l)), ("_many", .int (manyOf l : Nat))])) (x := .str (chr1 (l.getD j 0))) (y := .str (Str.ofString "1")) (v := .str (chr1 (l.getD j 0))) (u := .str (Str.ofString "1")) rfl rfl rfl
          rw [show decide (V.str (chr1 (l.getD j 0)) = V.str (Str.ofString "1")) = decide (chr1 (l.getD j 0) = Str.ofString "1") by simp] at qq
          exact pts_one (rt_cmp op_eq (re_var 3) re_str qq)
        · exact re_var 2
        · rw [zl]
          omega
      · show lowDs 0 (yesL l) = true
        exact low_coll _
end
end K41

namespace K41
open PySem PySem.Spec PyProof.Rows L2 LA
/-! ### what a question tells -/
def qD (C : Addr) (l : List Nat) : D := .obj C (flds l)
/-- a table -/
def Tab (l : List Nat) : Prop := inLens l.length = true ∧ ∀ n ∈ l, n ∈ bins
def tableR (C : Addr) : FSpec := fun ds c o => ∃ l, ds = [qD C l] ∧ o = .val (.str (tx l)) false c
def manyR (C : Addr) : FSpec := fun ds c o => ∃ l, ds = [qD C l] ∧ o = .val (.int (manyOf l : Nat)) false c
def placeR : FSpec := fun ds c o => ∃ l, ds = [.str (tx l)] ∧ l.length ≤ 6 ∧ (∀ n ∈ l, n ∈ bins) ∧ o = .val (.int (binNum (48 :: l) : Nat)) true c
def inOfR (B : Addr) : FSpec := fun ds c o => ∃ d n, ds = [d, .int n] ∧ Fit d ∧ o = if isW bins d && decide (((cds d).length : Int) = n) then .val .non true c else .ex B [("given", d)] c
theorem rt_to {X : Cx} {W : WX} {p : HD} {ρ : Rho} {c c1 : PC} {e : Expr} {k k' : Bool} (h : RT X W p ρ c e (.val k c1)) (q : k = k') : RT X W p ρ c e (.val k' c1) := by
  subst q
  exact h
theorem cv_lenT' {K : PySem.W.Frag} {p : HD} {c : PC} {l : List Nat} (h : l.length ≤ 1000) : CV K p (fun xs H Q => ∃ z, xs = [.str z] ∧ z.length ≤ sizeLine ∧ Q (.int z.length) H) [.str (tx l)] (.int (l.length : Nat)) true c := by
  have q := cv_lenS (K := K) (p := p) (c := c) (s := tx l) (sz_le (by rw [tx_len]; omega))
  rw [tx_len] at q
  exact q
theorem isW_str {a : List Nat} {d : D} (h : isW a d = true) : ∃ l, d = .str (tx l) ∧ l.length ≤ 6 ∧ ∀ n ∈ l, n ∈ a := by
  unfold isW at h
  rw [Bool.and_eq_true_iff, Bool.and_eq_true_iff] at h
  obtain ⟨a1, a2, a3⟩ := h
  cases d with
  | str s =>
    obtain ⟨l, rfl⟩ := str_tx s
    rw [cds_tx] at a2 a3
    exact ⟨l, rfl, of_decide_eq_true a2, fun n hn => of_decide_eq_true (List.all_eq_true.mp a3 n hn)⟩
  | _ => cases a1
section
variable {P : Program} {w : World} {K : PySem.W.Frag} {mg : Str → Option Value} {base : Heap} {B Cn C : Addr}
theorem ok_table {f : Addr} {fd : FuncData} (Q : QC K C) (F : Fun K "table" "Question.table" (mth 1) f fd) : FnOk P w K mg base CX0 1 f fd ["self"] (spF K (tableR C)) := by
  refine fn_val F (N := ["self"]) ⟨rfl, rfl, rfl, by decide +kernel, rfl, by decide +kernel, by decide +kernel⟩ (fun ds c o h => ?_) (fun ds c o h => ?_) (fun cdv A outer s H E hr p ds c o h => ?_)
  · obtain ⟨l, rfl, _⟩ := h
    rfl
  · obtain ⟨l, _, rfl⟩ := h
    exact ⟨_, _, _, rfl⟩
  · obtain ⟨l, rfl, rfl⟩ := h
    exact .inl (rss_ret (rs_ret (re_fld (C := C) (fs := flds l) (re_var 0) Q.cl Q.t rfl)))
theorem ok_many {f : Addr} {fd : FuncData} (Q : QC K C) (F : Fun K "many" "Question.many" (mth 2) f fd) : FnOk P w K mg base CX0 1 f fd ["self"] (spF K (manyR C)) := by
  refine fn_val F (N := ["self"]) ⟨rfl, rfl, rfl, by decide +kernel, rfl, by decide +kernel, by decide +kernel⟩ (fun ds c o h => ?_) (fun ds c o h => ?_) (fun cdv A outer s H E hr p ds c o h => ?_)
  · obtain ⟨l, rfl, _⟩ := h
    rfl
  · obtain ⟨l, _, rfl⟩ := h
    exact ⟨_, _, _, rfl⟩
  · obtain ⟨l, rfl, rfl⟩ := h
    exact .inl (rss_ret (rs_ret (re_fld (C := C) (fs := flds l) (re_var 0) Q.cl Q.m rfl)))
theorem bins_B {n : Nat} (h : n ∈ bins) : IsB n := by
  have : n = 48 ∨ n = 49 := by
    have e : bins = [48, 49] := by decide
    rw [e] at h
    simpa using h
  exact this
theorem ok_place {f : Addr} {fd : FuncData} (G : Glb mg) (F : Fun K "_place" "_place" (top 47) f fd) : FnOk P w K mg base CX0 1 f fd ["text"] (spF K placeR) := by
  refine fn_val F (N := ["text"]) ⟨rfl, rfl, rfl, by decide +kernel, rfl, by decide +kernel, by decide +kernel⟩ (fun ds c o h => ?_) (fun ds c o h => ?_) (fun cdv A outer s H E hr p ds c o h => ?_)
  · obtain ⟨l, rfl, _⟩ := h
    rfl
  · obtain ⟨l, _, _, _, rfl⟩ := h
    exact ⟨_, _, _, rfl⟩
  · obtain ⟨l, rfl, h6, hb, rfl⟩ := h
    have e : Str.ofString "0" ++ tx l = tx (48 :: l) := by
      show tx [48] ++ tx l = _
      rw [tx_app]
      rfl
    have q := cv_bin (K := K) (p := p) (c := c) (z := tx (48 :: l)) (by rw [tx_len]; show l.length + 1 ≤ 640; omega) (by
      rw [tx_list]
      intro n hn
      rcases List.mem_cons.mp hn with rfl | hn
      · exact .inl rfl
      · exact bins_B (hb n hn)) (by rw [tx_list]; exact List.cons_ne_nil _ _)
    rw [tx_list] at q
    have s := ov_addS (K := K) (p := p) (c := c) (s := Str.ofString "0") (t := tx l) (sz_le (by rw [tx_len]; show 1 + _ ≤ _; omega))
    rw [e] at s
    exact .inl (rss_ret (rs_ret (re_callT call_bin G.int PyProof.Rows.boot_int (ra_cons (re_bin op_add_str re_str (re_var 0) s) (ra_cons re_int ra_nil)) q)))
theorem ok_inOf {f : Addr} {fd : FuncData} (G : Glb mg) (T : IsInD P w K mg base) (Er : Err1 P w K mg base "BadInput" "given" B) (F : Fun K "check_input_of" "check_input_of" (top 21) f fd) : FnOk P w K mg base (L2.CX P w) 3 f fd ["text", "many"] (spF K (inOfR B)) := by
  refine fn_exc F (N := ["text", "many"]) ⟨rfl, rfl, rfl, by decide +kernel, rfl, by decide +kernel, by decide +kernel⟩ (fun ds c o h => ?_) (fun cdv A outer s H E hr p ds c o h tk => ?_)
  · obtain ⟨d, n, rfl, _⟩ := h
    rfl
  · obtain ⟨d, n, rfl, fd', rfl⟩ := h
    have len : isW bins d = true → CV K p (fun xs H Q => ∃ z, xs = [.str z] ∧ z.length ≤ sizeLine ∧ Q (.int z.length) H) [d] (.int (cds d).length) true c := fun hw => by
      obtain ⟨l, rfl, h6, _⟩ := isW_str hw
      rw [cds_tx]
      exact cv_lenT' (by omega)
    cases h : (isW bins d && decide (((cds d).length : Int) = n)) with
    | true =>
      rw [if_pos rfl]
      exact .inr ⟨rfl, _, rss_cons (rs_if (kb := false) (rt_to (rt_not (RW.rt (rw_and (k1 := isW bins d) (k2 := decide (((cds d).length : Int) = n)) (rt_val (re_c0 T hr (ra_cons (re_var 0) ra_nil) ⟨d, rfl, fd', rfl⟩)) fun hk => rw_and1 (rt_cmp op_eq (re_callB call_len_str G.len PySem.boot_len (ra_cons (re_var 0) ra_nil) (len hk)) (re_var 1) ov_eqI)))) (by rw [h]; rfl)) (fun z => nomatch z) fun _ => rss_nil) rss_nil⟩
    | false =>
      rw [if_neg Bool.false_ne_true]
      exact rss_ex (rs_if (kb := true) (rt_to (rt_not (RW.rt (rw_and (k1 := isW bins d) (k2 := decide (((cds d).length : Int) = n)) (rt_val (re_c0 T hr (ra_cons (re_var 0) ra_nil) ⟨d, rfl, fd', rfl⟩)) fun hk => rw_and1 (rt_cmp op_eq (re_callB call_len_str G.len PySem.boot_len (ra_cons (re_var 0) ra_nil) (len hk)) (re_var 1) ov_eqI)))) (by rw [h]; rfl)) (fun _ => rss_ex (rs_raiseG rfl tk Er hr (re_var 0))) fun z => nomatch z)
end
end K41

namespace K41
open PySem PySem.Spec PyProof.Rows L2 LA
/-! ### Question.__call__ and the rest -/
theorem fold_bin : ∀ (l : List Nat) (a : Nat), (∀ n ∈ l, n ∈ bins) → l.foldl (fun a c => a * 2 + (c - 48)) a < (a + 1) * 2 ^ l.length
  | [], a, _ => by simp
  | n :: r, a, h => by
    have hn : n - 48 < 2 := (bins_B (h n List.mem_cons_self)).low
    have ih := fold_bin r (a * 2 + (n - 48)) fun m hm => h m (List.mem_cons_of_mem _ hm)
    rw [List.foldl_cons, List.length_cons, Nat.pow_succ]
    refine Nat.lt_of_lt_of_le ih ?_
    have : (a * 2 + (n - 48) + 1) ≤ (a + 1) * 2 := by omega
    calc (a * 2 + (n - 48) + 1) * 2 ^ r.length ≤ ((a + 1) * 2) * 2 ^ r.length := Nat.mul_le_mul_right _ this
      _ = (a + 1) * (2 ^ r.length * 2) := by rw [Nat.mul_assoc, Nat.mul_comm 2]
theorem place_lt {l : List Nat} (h : ∀ n ∈ l, n ∈ bins) : binNum (48 :: l) < 2 ^ l.length := by
  have := fold_bin l 0 h
  unfold binNum
  rw [List.foldl_cons]
  simpa using this
theorem tab_pow {l : List Nat} (h : inLens l.length = true) : l.length = 2 ^ manyOf l ∧ manyOf l ≤ 6 := by
  have e := lens_of h
  unfold manyOf
  rcases e with e | e | e | e | e | e | e <;> rw [e] <;> decide
def ansV (l x : List Nat) : Int := if l.getD (binNum (48 :: x)) 0 = 49 then 1 else 0
def callR (C B : Addr) : FSpec := fun ds c o => ∃ l d, ds = [qD C l, d] ∧ Tab l ∧ Fit d ∧ o = if isW bins d && decide (((cds d).length : Int) = (manyOf l : Nat)) then .val (.int (ansV l (cds d))) true c else .ex B [("given", d)] c
section
variable {P : Program} {w : World} {K : PySem.W.Frag} {mg : Str → Option Value} {base : Heap} {B Cn C : Addr}
abbrev PlaceD (P : Program) (w : World) (K : PySem.W.Frag) (mg : Str → Option Value) (base : Heap) := Def0 P w K mg base 1 "_place" ["text"] placeR
abbrev InOfD (P : Program) (w : World) (K : PySem.W.Frag) (mg : Str → Option Value) (base : Heap) (B : Addr) := Def1 P w K mg base 3 "check_input_of" ["text", "many"] (inOfR B)
theorem ok_call {f : Addr} {fd : FuncData} (G : Glb mg) (Q : QC K C) (TP : PlaceD P w K mg base) (TI : InOfD P w K mg base B) (F : Fun K "__call__" "Question.__call__" (mth 5) f fd) : FnOk P w K mg base (L2.CX P w) 4 f fd ["self", "text"] (spF K (callR C B)) := by
  refine fn_exc F (N := ["self", "text"]) ⟨rfl, rfl, rfl, by decide +kernel, rfl, by decide +kernel, by decide +kernel⟩ (fun ds c o h => ?_) (fun cdv A outer s H E hr p ds c o h tk => ?_)
  · obtain ⟨l, d, rfl, _⟩ := h
    rfl
  · obtain ⟨l, d, rfl, ht, fd', rfl⟩ := h
    cases h : (isW bins d && decide (((cds d).length : Int) = (manyOf l : Nat))) with
    | false =>
      rw [if_neg Bool.false_ne_true]
      exact rss_ex (rs_exprX (re_c1 tk TI hr (ra_cons (re_var 1) (ra_cons (re_fld (C := C) (fs := flds l) (re_var 0) Q.cl Q.m rfl) ra_nil)) ⟨d, _, rfl, fd', by rw [h, if_neg Bool.false_ne_true]⟩))
    | true =>
      rw [if_pos rfl]
      obtain ⟨hw, hn⟩ := Bool.and_eq_true_iff.mp h
      have hn := of_decide_eq_true hn
      refine .inl (rss_cons (rs_expr (re_c1 (o := .val .non true c) tk TI hr (ra_cons (re_var 1) (ra_cons (re_fld (C := C) (fs := flds l) (re_var 0) Q.cl Q.m rfl) ra_nil)) ⟨d, _, rfl, fd', by rw [h, if_pos rfl]⟩)) ?_)
      obtain ⟨x, rfl, h6, hb⟩ := isW_str hw
      rw [cds_tx] at hn ⊢
      have hp := place_lt hb
      obtain ⟨hq, _⟩ := tab_pow ht.1
      have hx : x.length = manyOf l := by omega
      rw [hx, ← hq] at hp
      have hg : (tx l).cps.toList[binNum (48 :: x)]? = some (l.getD (binNum (48 :: x)) 0) := by
        rw [tx_list, List.getD_eq_getElem?_getD, List.getElem?_eq_getElem hp]
        rfl
      have hl : l.length ≤ 64 := by
        have := lens_of ht.1
        omega
      have hm : l.getD (binNum (48 :: x)) 0 ∈ bins := ht.2 _ (by
        rw [List.getD_eq_getElem?_getD, List.getElem?_eq_getElem hp]
        exact List.getElem_mem _)
      refine rss_ret (rs_ret (re_callT call_int_str G.int PyProof.Rows.boot_int (ra_cons (re_ix ix_seq (re_fld (C := C) (fs := flds l) (re_var 0) Q.cl Q.t rfl) (re_c0 TP (hr.mono (by decide)) (ra_cons (re_var 1) ra_nil) ⟨x, rfl, h6, hb, rfl⟩) (ov_ixS (by rw [tx_len]; exact sz_le (by omega)) rfl hg)) ra_nil) (cv_intS ?_ (by show 1 ≤ 640; decide))))
      unfold ansV
      rcases bins_B hm with e | e
      · rw [e]
        decide +kernel
      · rw [e]
        decide +kernel
theorem ok_lenQ {f : Addr} {fd : FuncData} (G : Glb mg) (Q : QC K C) (F : Fun K "__len__" "Question.__len__" (mth 6) f fd) : FnOk P w K mg base CX0 1 f fd ["self"] (spLen K C "_yes") :=
  fn_len F (N := ["self"]) ⟨rfl, rfl, rfl, by decide +kernel, rfl, by decide +kernel, by decide +kernel⟩ rfl Q.cl Q.y G.len rfl fun _ _ _ _ _ _ => rfl
theorem ok_iterQ {f : Addr} {fd : FuncData} (G : Glb mg) (Q : QC K C) (F : Fun K "__iter__" "Question.__iter__" (mth 7) f fd) : FnSz P w K mg base 1 f fd ["self"] (spIter K C "_yes") :=
  fn_iter F (N := ["self"]) ⟨rfl, rfl, rfl, by decide +kernel, rfl, by decide +kernel, by decide +kernel⟩ rfl Q.cl Q.y G.iter rfl fun _ _ _ _ _ _ => rfl
/-- the yes inputs, as texts -/
def yesT (l : List Nat) : List Str := ((List.range (min (insL (manyOf l)).length l.length)).filter fun i => decide (chr1 (l.getD i 0) = Str.ofString "1")).map fun i => tx ((insL (manyOf l)).getD i [])
theorem coll_filter (b : Nat → Bool) (y : Nat → Str) : ∀ n : Nat, coll b (fun i => .str (y i)) n = (((List.range n).filter b).map y).map D.str
  | 0 => rfl
  | n + 1 => by
    unfold coll
    rw [coll_filter b y n, List.range_succ, List.filter_append, List.map_append, List.map_append]
    congr 1
    cases h : b n <;> simp [h]
theorem yes_eq (l : List Nat) : yesL l = (yesT l).map D.str := coll_filter _ _ _
def inQ (l : List Nat) (d : D) : Bool := isStrD d && (yesT l).any fun z => match d with
  | .str s => decide (z = s)
  | _ => false
def conR (C : Addr) : FSpec := fun ds c o => ∃ l d, ds = [qD C l, d] ∧ Ty d ∧ o = .val (.bl (inQ l d)) true c
theorem sc_strs (ns : List Str) : (ns.map D.str).map scD = (ns.map V.str).map some := by
  rw [List.map_map, List.map_map]
  rfl
theorem flat_strs' (ns : List Str) : (ns.map V.str).all flatV = true := by
  rw [List.all_map, List.all_eq_true]
  intro n _
  rfl
theorem ok_con {f : Addr} {fd : FuncData} (G : Glb mg) (Q : QC K C) (F : Fun K "__contains__" "Question.__contains__" (mth 8) f fd) : FnOk P w K mg base CX0 1 f fd ["self", "value"] (spF K (conR C)) := by
  refine fn_val F (N := ["self", "value"]) ⟨rfl, rfl, rfl, by decide +kernel, rfl, by decide +kernel, by decide +kernel⟩ (fun ds c o h => ?_) (fun ds c o h => ?_) (fun cdv A outer s H E hr p ds c o h => ?_)
  · obtain ⟨l, d, rfl, _⟩ := h
    rfl
  · obtain ⟨l, d, _, _, rfl⟩ := h
    exact ⟨_, _, _, rfl⟩
  · obtain ⟨l, d, rfl, ⟨t, ht⟩, rfl⟩ := h
    refine .inl (rss_ret (rs_ret (re_and (k1 := isStrD d) (re_callB call_isi G.isi PyProof.Rows.boot_isinstance (ra_cons (re_var 1) (ra_cons (re_ty G.str PyProof.Rows.boot_str) ra_nil)) (cv_isi ht (isi_str ht))) (fun hk => re_and1 ?_))))
    cases d with
    | str s =>
      have e : ((yesT l).any fun z => decide (z = s)) = inV (V.str s) ((yesT l).map V.str) := by
        unfold inV
        rw [List.any_map]
        rfl
      show RE _ _ _ _ _ _ (.val (.bl ((yesT l).any fun z => decide (z = s))) true c)
      rw [e]
      refine re_cmp op_in_seq (re_var 1) (re_fld (C := C) (fs := flds l) (d := .lst ⟨false, true⟩ ((yesT l).map D.str)) (re_var 0) Q.cl Q.y (by rw [← yes_eq]; rfl)) (ov_inL rfl (sc_strs _) rfl (flat_strs' _))
    | _ => cases hk
end
end K41

namespace K41
open PySem PySem.Spec PyProof.Rows L2 LA
/-! ### Question.__str__, Question.__eq__ -/
section
variable {K : PySem.W.Frag} {p : HD} {c : PC} {C : Addr} {fs : List (Str × D)}
theorem cv_isiO (w : C8.InsC K C) : CV K p (rIsi K) [.obj C fs, .cls C] (.bl true) true c := fun vs H Q dvs hp kk => by
  match vs, dvs with
  | _, .cons (.obj hv r) (.cons (.cls _) .nil) => exact ⟨_, _, .ref C, .ref C, true, rfl, .own C, .base (TyOf.ins (hide_some hv).1 w.cl w.ha w.hn w.htk w.hm), w.me, kk _ H (Ext.refl p H) hp (.bl _) fun _ => New.sc (by intro a h; cases h)⟩
theorem cv_isiN {d : D} {t : String} (hd : tyD d = some t) (hk : PySem.W.kitOne K (.type t) (.ref C) = some false) : CV K p (rIsi K) [d, .cls C] (.bl false) true c := fun vs H Q dvs hp kk => by
  match vs, dvs with
  | _, .cons hv (.cons (.cls _) .nil) => exact ⟨_, _, _, .ref C, false, rfl, .own C, tyx_of hv hd, hk, kk _ H (Ext.refl p H) hp (.bl _) fun _ => New.sc (by intro a h; cases h)⟩
end
def strR (C : Addr) : FSpec := fun ds c o => ∃ l, ds = [qD C l] ∧ o = .val (.str (tx l)) true c
def eqR (K : PySem.W.Frag) (C : Addr) : FSpec := fun ds c o => (∃ l l', ds = [qD C l, qD C l'] ∧ o = .val (.bl (decide (tx l = tx l'))) true c) ∨ ∃ l d t, ds = [qD C l, d] ∧ tyD d = some t ∧ PySem.W.kitOne K (.type t) (.ref C) = some false ∧ o = .val (.bl false) true c
section
variable {P : Program} {w : World} {K : PySem.W.Frag} {mg : Str → Option Value} {base : Heap} {B Cn C : Addr}
theorem cv_strS {p : HD} {c : PC} {z : Str} : CV K p (fun xs H Q => ∃ a, xs = [.str a] ∧ Q (.str a) H) [.str z] (.str z) true c := fun vs H Q dvs hp kk => by
  match vs, dvs with
  | _, .cons (.str _) .nil => exact ⟨z, rfl, kk _ H (Ext.refl p H) hp (.str _) fun _ => New.sc (by intro a h; cases h)⟩
theorem ok_strQ {f : Addr} {fd : FuncData} (G : Glb mg) (Q : QC K C) (F : Fun K "__str__" "Question.__str__" (mth 3) f fd) : FnOk P w K mg base CX0 1 f fd ["self"] (spF K (strR C)) := by
  refine fn_val F (N := ["self"]) ⟨rfl, rfl, rfl, by decide +kernel, rfl, by decide +kernel, by decide +kernel⟩ (fun ds c o h => ?_) (fun ds c o h => ?_) (fun cdv A outer s H E hr p ds c o h => ?_)
  · obtain ⟨l, rfl, _⟩ := h
    rfl
  · obtain ⟨l, _, rfl⟩ := h
    exact ⟨_, _, _, rfl⟩
  · obtain ⟨l, rfl, rfl⟩ := h
    exact .inl (rss_ret (rs_ret (re_callT SkE.call_str_str G.str PyProof.Rows.boot_str (ra_cons (re_fld (C := C) (fs := flds l) (re_var 0) Q.cl Q.t rfl) ra_nil) cv_strS)))
theorem re_cls {X : Cx} {W : WX} {p : HD} {ρ : Rho} {c : PC} {x : Str} {pos : Pos} (hm : X.mg x = some (.ref C)) (hg : Gl X x := by rfl) (hd : (x == ("__debug__" : Str)) = false := by decide) : RE X W p ρ c (.Name x pos) (.val (.cls C) false c) :=
  pe_imp (pe_glob (v := .ref C) hg hm rfl hd) fun σ H Q ⟨s, kk⟩ => kk (.ref C) H (Ext.refl p H) s.pl (.cls C) fun z => nomatch z
theorem ok_eqQ {f : Addr} {fd : FuncData} (G : Glb mg) (Q : QC K C) (I : C8.InsC K C) (hm : mg "Question" = some (.ref C)) (F : Fun K "__eq__" "Question.__eq__" (mth 4) f fd) : FnOk P w K mg base CX0 1 f fd ["self", "other"] (spF K (eqR K C)) := by
  refine fn_val F (N := ["self", "other"]) ⟨rfl, rfl, rfl, by decide +kernel, rfl, by decide +kernel, by decide +kernel⟩ (fun ds c o h => ?_) (fun ds c o h => ?_) (fun cdv A outer s H E hr p ds c o h => ?_)
  · rcases h with ⟨l, l', rfl, _⟩ | ⟨l, d, t, rfl, _⟩ <;> rfl
  · rcases h with ⟨l, l', _, rfl⟩ | ⟨l, d, t, _, _, _, rfl⟩ <;> exact ⟨_, _, _, rfl⟩
  · rcases h with ⟨l, l', rfl, rfl⟩ | ⟨l, d, t, rfl, ht, hk, rfl⟩
    · have q := ov_eqS (K := K) (p := p) (c := c) (x := .str (tx l)) (y := .str (tx l')) (v := .str (tx l)) (u := .str (tx l')) rfl rfl rfl
      rw [show decide (V.str (tx l) = V.str (tx l')) = decide (tx l = tx l') by simp] at q
      exact .inl (rss_ret (rs_ret (re_and (k1 := true) (re_callB call_isi G.isi PyProof.Rows.boot_isinstance (ra_cons (re_var 1) (ra_cons (re_cls hm) ra_nil)) (cv_isiO I)) fun _ => re_and1 (re_cmp op_eq (re_fld (C := C) (fs := flds l) (re_var 0) Q.cl Q.t rfl) (re_fld (C := C) (fs := flds l') (re_var 1) Q.cl Q.t rfl) q))))
    · exact .inl (rss_ret (rs_ret (re_and (k1 := false) (k2 := true) (re_callB call_isi G.isi PyProof.Rows.boot_isinstance (ra_cons (re_var 1) (ra_cons (re_cls hm) ra_nil)) (cv_isiN ht hk)) fun z => nomatch z)))
end
end K41

namespace K41
open PySem PySem.Spec PyProof.Rows L2 LA
/-! ### the law's own strings -/
def strsV (a : List Nat) (n : Nat) : List (List Nat) := wordsV [[]] (List.replicate n a)
def strsR : FSpec := fun ds c o => ∃ (a : List Nat) (n : Nat), ds = [.int (n : Nat), .str (tx a)] ∧ n ≤ 6 ∧ a.length ≤ 3 ∧ a ≠ [] ∧ o = .val (.lst ⟨false, true⟩ (wD (strsV a n))) false c
theorem wD_len (ws : List (List Nat)) : (wD ws).length = ws.length := by unfold wD; rw [List.length_map]
theorem wD_at {ws : List (List Nat)} {i : Nat} {d : D} (h : (wD ws)[i]? = some d) : d = .str (tx (ws.getD i [])) ∧ i < ws.length ∧ ws.getD i [] ∈ ws := by
  unfold wD at h
  rw [List.getElem?_map] at h
  by_cases hi : i < ws.length
  · rw [List.getElem?_eq_getElem hi] at h
    rw [List.getD_eq_getElem?_getD, List.getElem?_eq_getElem hi]
    exact ⟨(Option.some.inj h).symm, hi, List.getElem_mem _⟩
  · rw [List.getElem?_eq_none (by omega)] at h
    cases h
theorem strs_all (a : List Nat) (n : Nat) : ∀ w ∈ strsV a n, w.length = n := fun w hw => by
  have := words_all (List.replicate n a) (ws := [[]]) (n := 0) (fun w hw => by rcases List.mem_cons.mp hw with rfl | hw; rfl; cases hw) w hw
  rw [List.length_replicate] at this
  omega
theorem strs_len {a : List Nat} (h : a.length ≤ 3) {n : Nat} (hn : n ≤ 6) : (strsV a n).length ≤ 729 := by
  have wn := words_len (List.replicate n a) (ws := [[]]) fun l hl => by rw [List.eq_of_mem_replicate hl]; exact h
  rw [List.length_replicate] at wn
  have : 3 ^ n ≤ 3 ^ 6 := Nat.pow_le_pow_right (by decide) hn
  have e : (3 : Nat) ^ 6 = 729 := by decide
  simp only [List.length_cons, List.length_nil] at wn
  unfold strsV
  omega
theorem strs_next (a : List Nat) (n : Nat) : strsV a (n + 1) = step (strsV a n) a := by
  unfold strsV
  rw [List.replicate_succ', wordsV_app]
  rfl
section
variable {P : Program} {w : World} {K : PySem.W.Frag} {mg : Str → Option Value} {base : Heap} {B Cn fB fC : Addr}
abbrev nStrs : List Str := ["_law_many", "_law_signs", "_law_found", "_law_k", "_law_longer", "_law_text", "_law_sign"]
theorem scStrs : FnScope nStrs ["_law_many", "_law_signs"] (defScope (top 52)) := ⟨rfl, rfl, rfl, by decide +kernel, rfl, by decide +kernel, by decide +kernel⟩
theorem ok_strs {f : Addr} {fd : FuncData} (G : Glb mg) (F : Fun K "_law_strings" "_law_strings" (top 52) f fd) : FnOk P w K mg base CX0 1 f fd ["_law_many", "_law_signs"] (spF K strsR) := by
  refine fn_val F scStrs (fun ds c o h => ?_) (fun ds c o h => ?_) (fun cdv A outer s H E hr p ds c o h => ?_)
  · obtain ⟨a, n, rfl, _⟩ := h
    rfl
  · obtain ⟨a, n, _, _, _, _, rfl⟩ := h
    exact ⟨_, _, _, rfl⟩
  · obtain ⟨a, n, rfl, h6, h3, hne, rfl⟩ := h
    refine .inl ?_
    refine rss_cons (c1 := c) (ρ1 := [some (.int (n : Nat)), some (.str (tx a)), some (.lst ⟨false, true⟩ (wD (strsV a 0))), none, none, none, none]) (rs_set (nw := true) 2 scStrs.nd (re_dull (g := ⟨true, true⟩) (re_lst (ra_cons re_str ra_nil) (by show 1 ≤ 100000; decide)))) ?_
    have hn : (intsD ((n : Nat) : Int).toNat).length = n := by rw [intsD_len, Int.toNat_natCast]
    refine rss_cons (c1 := c) (ρ1 := [some (.int (n : Nat)), some (.str (tx a)), some (.lst ⟨false, true⟩ (wD (strsV a n))), none, none, none, none]) ?_ (rss_ret (rs_ret (re_var 2)))
    have main := rs_for_all (X := (cxOf CX0 P w K mg base nStrs "_law_strings" (defScope (top 52)) f cdv A outer s H E).nox) (W := Wf) (p := p) (c := c) (ρ := [some (.int (n : Nat)), some (.str (tx a)), some (.lst ⟨false, true⟩ (wD (strsV a 0))), none, none, none, none]) (xs := intsD ((n : Nat) : Int).toNat) (vs := [3]) (g := gName 3)
      (tg := match (defBody (top 52)) with | [_, .For t _ _ _ _, _] => t | _ => .Constant .none 0 ⟨0, 0, 0, 0⟩) (it := match (defBody (top 52)) with | [_, .For _ t _ _ _, _] => t | _ => .Constant .none 0 ⟨0, 0, 0, 0⟩) (body := match (defBody (top 52)) with | [_, .For _ _ b _ _, _] => b | _ => []) (pos := match (defBody (top 52)) with | [_, .For _ _ _ _ q, _] => q | _ => ⟨0, 0, 0, 0⟩)
      (fun j => [some (.int (n : Nat)), some (.str (tx a)), some (.lst ⟨false, true⟩ (wD (strsV a j))), none, none, none, none]) (fun j => [some (.int (n : Nat)), some (.str (tx a)), some (.lst ⟨false, true⟩ (wD (strsV a j))), some (.int (j : Nat)), none, none, none]) (fun _ => c) PassesOwn.never rfl rfl
      (ri_range G.range (re_var 0) (by omega) (by omega)) (pg_name (i := 3) scStrs.nd rfl (Or.inl rfl)) (fun i d h => by
        obtain ⟨rfl, _⟩ := intsD_at h
        exact tg_name (by decide)) (fun j d h => ?_)
    · rw [hn] at main
      exact main
    · obtain ⟨_, hj⟩ := intsD_at h
      rw [Int.toNat_natCast] at hj
      have wl := strs_all a j
      have wz := strs_len h3 (show j ≤ 6 by omega)
      rw [strs_next]
      generalize strsV a j = ws at *
      refine rss_less (ρ1 := [some (.int (n : Nat)), some (.str (tx a)), some (.lst ⟨false, true⟩ (wD (step ws a))), some (.int (j : Nat)), some (.lst ⟨false, true⟩ (wD (step ws a))), none, none]) ?_ (by repeat (first | exact Less.nil | apply Less.same | apply Less.skip))
      refine rss_cons (c1 := c) (ρ1 := [some (.int (n : Nat)), some (.str (tx a)), some (.lst ⟨false, true⟩ (wD ws)), some (.int (j : Nat)), some (.lst ⟨false, true⟩ (wD (step (ws.take 0) a))), none, none]) (rs_set (nw := true) 4 scStrs.nd (re_dull (g := ⟨true, true⟩) (re_lst ra_nil (by show 0 ≤ 100000; decide)))) ?_
      refine rss_cons (c1 := c) (ρ1 := [some (.int (n : Nat)), some (.str (tx a)), some (.lst ⟨false, true⟩ (wD ws)), some (.int (j : Nat)), some (.lst ⟨false, true⟩ (wD (step ws a))), none, none]) ?_ (rss_cons (rs_set 2 scStrs.nd (re_var 4)) rss_nil)
      have inner := rs_for_all (X := (cxOf CX0 P w K mg base nStrs "_law_strings" (defScope (top 52)) f cdv A outer s H E).nox) (W := Wf) (p := p) (c := c) (ρ := [some (.int (n : Nat)), some (.str (tx a)), some (.lst ⟨false, true⟩ (wD ws)), some (.int (j : Nat)), some (.lst ⟨false, true⟩ (wD (step (ws.take 0) a))), none, none]) (xs := wD ws) (vs := [5]) (g := gName 5)
        (tg := match (defBody (top 52)) with | [_, .For _ _ [_, .For t _ _ _ _, _] _ _, _] => t | _ => .Constant .none 0 ⟨0, 0, 0, 0⟩) (it := match (defBody (top 52)) with | [_, .For _ _ [_, .For _ t _ _ _, _] _ _, _] => t | _ => .Constant .none 0 ⟨0, 0, 0, 0⟩) (body := match (defBody (top 52)) with | [_, .For _ _ [_, .For _ _ b _ _, _] _ _, _] => b | _ => []) (pos := match (defBody (top 52)) with | [_, .For _ _ [_, .For _ _ _ _ q, _] _ _, _] => q | _ => ⟨0, 0, 0, 0⟩)
        (fun i => [some (.int (n : Nat)), some (.str (tx a)), some (.lst ⟨false, true⟩ (wD ws)), some (.int (j : Nat)), some (.lst ⟨false, true⟩ (wD (step (ws.take i) a))), none, none]) (fun i => [some (.int (n : Nat)), some (.str (tx a)), some (.lst ⟨false, true⟩ (wD ws)), some (.int (j : Nat)), some (.lst ⟨false, true⟩ (wD (step (ws.take i) a))), some (.str (tx (ws.getD i []))), none]) (fun _ => c) PassesOwn.never rfl rfl
        (ri_lst (re_var 2)) (pg_name (i := 5) scStrs.nd rfl (Or.inr rfl)) (fun i d h => by
          obtain ⟨rfl, _⟩ := wD_at h
          exact tg_name (by decide)) (fun i d h => ?_)
      · rw [wD_len, List.take_length] at inner
        exact inner
      · obtain ⟨_, hi, hm⟩ := wD_at h
        have e : wD (step (ws.take (i + 1)) a) = wD (step (ws.take i) a) ++ wD (a.map fun x => ws.getD i [] ++ [x]) := by
          rw [List.take_add_one, show ws[i]?.toList = [ws.getD i []] by rw [List.getD_eq_getElem?_getD, List.getElem?_eq_getElem hi]; rfl]
          unfold step wD
          rw [List.flatMap_append, List.map_append, List.flatMap_cons, List.flatMap_nil, List.append_nil]
        have key : (List.range (chars (tx a)).length).map (fun m => D.str (tx (ws.getD i []) ++ chr1 (a.getD m 0))) = wD (a.map fun x => ws.getD i [] ++ [x]) := by
          rw [signs_len, range_get a fun x => D.str (tx (ws.getD i []) ++ chr1 x)]
          unfold wD
          rw [List.map_map]
          refine List.map_congr_left fun x _ => ?_
          show D.str (tx _ ++ tx [x]) = D.str (tx (_ ++ [x]))
          rw [tx_app]
        refine rss_less (ρ1 := [some (.int (n : Nat)), some (.str (tx a)), some (.lst ⟨false, true⟩ (wD ws)), some (.int (j : Nat)), some (.lst ⟨false, true⟩ (wD (step (ws.take (i + 1)) a))), some (.str (tx (ws.getD i []))), none]) (rss_cons (rs_set (nw := true) 4 scStrs.nd ?_) rss_nil) (by repeat (first | exact Less.nil | apply Less.same | apply Less.skip))
        rw [e, ← key]
        refine re_bin (n2 := true) op_cat (re_var 4) (re_lcA (own := [("_law_sign", 6)]) (g := gName 6) _ (fun _ => c) (fun m => [some (.int (n : Nat)), some (.str (tx a)), some (.lst ⟨false, true⟩ (wD ws)), some (.int (j : Nat)), some (.lst ⟨false, true⟩ (wD (step (ws.take i) a))), some (.str (tx (ws.getD i []))), some (.str (chr1 (a.getD m 0)))]) (fun _ => true) rfl scStrs.nd (ri_str (re_var 1)) (blkOk_by (N := nStrs) (sc := defScope (top 52)) (by decide +kernel)) (fun _ _ _ _ _ => pg_name (i := 6) scStrs.nd rfl (Or.inl rfl)) (fun m d h => ?_) (fun m d h q s H C cl fp => ?_) (by rw [signs_len]; omega)) (ov_cat rfl rfl ?_)
        · obtain ⟨rfl, _⟩ := signs_at h
          exact tg_name (by decide)
        · exact re_bin op_add_str (re_var 5) (re_var 6) (ov_addS (sz_le (by rw [tx_len, wl _ hm]; show _ + 1 ≤ _; omega)))
        · rw [wD_len, step_len, List.length_take, List.length_map, List.length_range, signs_len]
          have : min i ws.length * a.length ≤ 729 * 3 := Nat.mul_le_mul (by omega) h3
          omega
end
abbrev StrsD (P : Program) (w : World) (K : PySem.W.Frag) (mg : Str → Option Value) (base : Heap) := Def0 P w K mg base 1 "_law_strings" ["_law_many", "_law_signs"] strsR
end K41

namespace K41
open PySem PySem.Spec PyProof.Rows L2 LA
theorem re_to {X : Cx} {W : WX} {p : HD} {ρ : Rho} {c c1 : PC} {e : Expr} {d d' : D} {nw : Bool} (h : RE X W p ρ c e (.val d nw c1)) (q : d = d') : RE X W p ρ c e (.val d' nw c1) := by
  subst q
  exact h
/-! ### other values -/
def oddL : List D := [.non, .bl true, .bl false, .int (-1), .int 7, .int ((10 : Int) ^ (30 : Int).toNat), .str "2", .str "0110010", .str " 01", .lst ⟨true, true⟩ [.str "0"], .tup [.str "0", .str "1"], .dct [(.inr "0", .int 1)], .lst ⟨true, true⟩ [.non], .str "x"]
def oddV (c : Pl) : D := oddL.getD (drawV c 14).toNat .non
def oddR : FSpec := fun ds c o => ∃ x : Pl, c = [x.c] ∧ ds = [.mut 0] ∧ o = .val (oddV x) false [(drawC x 14).c]
def rngD (d : D) (lo hi : Int) : Bool := match d with
  | .int i => decide (lo ≤ i) && decide (i ≤ hi)
  | _ => false
def lwR : FSpec := fun ds c o => ∃ d lo hi, ds = [d, .int lo, .int hi] ∧ Ty d ∧ o = .val (.bl (rngD d lo hi)) true c
theorem rng_pos (d : D) (n : Int) : rngD d 0 (n - 1) = posD d n := by
  cases d <;> try rfl
  rename_i i
  show (decide (0 ≤ i) && decide (i ≤ n - 1)) = (decide (0 ≤ i) && decide (i < n))
  congr 1
  rw [Bool.eq_iff_iff, decide_eq_true_eq, decide_eq_true_eq]
  omega
section
variable {P : Program} {w : World} {K : PySem.W.Frag} {mg : Str → Option Value} {base : Heap} {B : Ers}
end
end K41

namespace K41
open PySem PySem.Spec PyProof.Rows L2 LA
/-! ### drawn tables -/
def itC (x : Pl) (m : Int) : Nat → Pl
  | 0 => x
  | n + 1 => drawC (itC x m n) m
section
variable {X : Cx} {W : WX} {p : HD} {ρ : Rho} {c c1 c2 : PC} {e o : Expr} {pos ps apos : Pos} {nw n2 : Bool}
/-- str of a bit -/
theorem re_strB {i : Int} (hm : X.mg "str" = none) (h : RE X W p ρ c e (.val (.int i) nw c1)) (hi : i = 0 ∨ i = 1) (hg : Gl X "str" := by rfl)
    (he : starEach [e] X.env = (false, eval e X.env) :: starEach [] X.env := by rfl) : RE X W p ρ c (.Call (.Name "str" ps) [e] [] pos) (.val (.str (chr1 (48 + i.toNat))) true c1) := by
  have e1 : Str.ofString (toString i) = chr1 (48 + i.toNat) := by
    rcases hi with rfl | rfl <;> decide
  rw [← e1]
  exact re_callT call_str_int hm PyProof.Rows.boot_str (ra_cons h ra_nil he) (cv_strI (by rcases hi with rfl | rfl <;> decide)) hg (by decide) (by decide) he
theorem re_intB {n : Nat} (hm : X.mg "int" = none) (h : RE X W p ρ c e (.val (.str (chr1 n)) nw c1)) (hi : n = 48 ∨ n = 49) (hg : Gl X "int" := by rfl)
    (he : starEach [e] X.env = (false, eval e X.env) :: starEach [] X.env := by rfl) : RE X W p ρ c (.Call (.Name "int" ps) [e] [] pos) (.val (.int ((n : Int) - 48)) true c1) := by
  refine re_callT call_int_str hm PyProof.Rows.boot_int (ra_cons h ra_nil he) (cv_intS ?_ (by show 1 ≤ 640; decide)) hg (by decide) (by decide) he
  rcases hi with rfl | rfl <;> decide +kernel
theorem re_count {l : List Nat} {n : Nat} (ho : RE X W p ρ c o (.val (.str (tx l)) nw c1)) (he : RE X W p ρ c1 e (.val (.str (chr1 n)) n2 c2)) (hs : starEach [e] X.env = [(false, eval e X.env)] := by rfl) (hbase : attributeBase o "count" X.env (eval o X.env) = eval o X.env := by rfl) (hline : (apos.endLine == pos.line) = true := by rfl) :
    RE X W p ρ c (.Call (.Attribute o "count" apos) [e] [] pos) (.val (.int (Txt.count (tx l) (chr1 n))) true c2) :=
  pe_imp (pe_m1 PySem.F.slot_str_count (by first | rfl | (show builtinType _ = _; rw [builtinType_eq_fast]; kernel_rfl)) mt_count ho he hs hbase hline) fun σ H Q ⟨s, k⟩ => ⟨s, fun v H1 e1 p1 dv _ => by
    cases dv
    refine ⟨⟨tx l, rfl⟩, s.mono e1 p1, fun u H2 e2 p2 du _ => ?_⟩
    cases du
    exact ⟨_, _, rfl, rfl, k _ H2 (e1.trans e2) p2 (.int _) fun _ => New.sc (by intro a h; cases h)⟩⟩
end
theorem count_nat (l : List Nat) (n : Nat) : Txt.count (tx l) (chr1 n) = (l.count n : Nat) := by
  have h := count_cnt (tx l) n
  rw [tx_list] at h
  refine h.trans ?_
  clear h
  induction l with
  | nil => rfl
  | cons m r ih =>
    rw [cnt_cons, ih, List.count_cons]
    by_cases e : m = n
    · subst e
      simp
      omega
    · simp [e]
/-- which of the four ways -/
def wayI (x : Pl) : Nat := (drawV x 6).toNat
def insT (n : Nat) : List (List Nat) := strsV bins n
/-- by the number of bits 1 -/
def rowC (x : Pl) (n : Nat) : List Nat := (insT n).map fun t => 48 + (drawV (itC x 2 (t.count 49)) 2).toNat
/-- one bit chosen by another -/
def spotC (x : Pl) (n i : Nat) : Nat := (drawV (itC x (n : Nat) i) (n : Nat)).toNat
def mixC (x : Pl) (n : Nat) : List Nat := (insT n).map fun t => 48 + ((((if t.getD (spotC x n 0) 0 = 49 then t.getD (spotC x n 1) 0 else t.getD (spotC x n 2) 0) : Int) - 48 + drawV (itC x (n : Nat) 3) 2) % 2).toNat
def shareI (w : Nat) : Int := if w = 1 ∨ w = 2 then 4 else 2
def rareC (w : Nat) (x : Pl) (n : Nat) : List Nat := (List.range (insT n).length).map fun j => 48 + (if w = 2 then (if drawV (itC x (shareI w) j) (shareI w) = 0 then 0 else 1) else if drawV (itC x (shareI w) j) (shareI w) = 0 then 1 else 0)
def tabL (x : Pl) (n : Nat) : List Nat :=
  if wayI x = 4 then rowC (drawC x 6) n else if wayI x = 5 ∧ 0 < n then mixC (drawC x 6) n else rareC (wayI x) (drawC x 6) n
def tabP (x : Pl) (n : Nat) : Pl :=
  if wayI x = 4 then itC (drawC x 6) 2 (n + 1) else if wayI x = 5 ∧ 0 < n then drawC (itC (drawC x 6) (n : Nat) 3) 2 else itC (drawC x 6) (shareI (wayI x)) (insT n).length
theorem insT_len : ∀ n : Nat, (insT n).length = 2 ^ n
  | 0 => rfl
  | n + 1 => by
    have e : bins.length = 2 := by decide
    show (strsV bins (n + 1)).length = _
    rw [strs_next, step_len, e, Nat.pow_succ]
    have := insT_len n
    unfold insT at this
    rw [this]
theorem tabL_len (x : Pl) (n : Nat) : (tabL x n).length = 2 ^ n := by
  unfold tabL
  split
  · unfold rowC
    rw [List.length_map, insT_len]
  · split
    · unfold mixC
      rw [List.length_map, insT_len]
    · unfold rareC
      rw [List.length_map, List.length_range, insT_len]
theorem bin_of {n : Nat} (h : n = 48 ∨ n = 49) : n ∈ bins := by
  have e : bins = [48, 49] := by decide
  rw [e]
  simpa using h
theorem tabL_bin (x : Pl) (n : Nat) : ∀ m ∈ tabL x n, m ∈ bins := fun m hm => by
  unfold tabL at hm
  split at hm
  · unfold rowC at hm
    obtain ⟨t, _, rfl⟩ := List.mem_map.mp hm
    have := drawV_in (c := itC (drawC x 6) 2 (t.count 49)) (show (0 : Int) < 2 by decide)
    exact bin_of (by omega)
  · split at hm
    · unfold mixC at hm
      obtain ⟨t, _, rfl⟩ := List.mem_map.mp hm
      exact bin_of (by omega)
    · unfold rareC at hm
      obtain ⟨j, _, rfl⟩ := List.mem_map.mp hm
      refine bin_of ?_
      split <;> split <;> omega
theorem tab_tab (x : Pl) {n : Nat} (h : n ≤ 6) : Tab (tabL x n) := by
  refine ⟨?_, tabL_bin x n⟩
  rw [tabL_len]
  have key : ∀ k : Fin 7, inLens (2 ^ k.val) = true := by decide +kernel
  exact key ⟨n, by omega⟩
def tabFR : FSpec := fun ds c o => ∃ (x : Pl) (n : Nat), c = [x.c] ∧ ds = [.mut 0, .int (n : Nat)] ∧ n ≤ 6 ∧ o = .val (.str (tx (tabL x n))) true [(tabP x n).c]
end K41

namespace K41
open PySem PySem.Spec PyProof.Rows L2 LA
section
variable {P : Program} {w : World} {K : PySem.W.Frag} {mg : Str → Option Value} {base : Heap}
abbrev nTab : List Str := ["_law_pool_here", "_law_many", "_law_way", "_law_texts", "_law_rows", "_law_k", "_law_text", "_law_spots", "_law_other", "_law_bits", "_law_bit", "_law_share", "_law_row"]
theorem scTabl : FnScope nTab ["_law_pool_here", "_law_many"] (defScope (top 53)) := ⟨rfl, rfl, rfl, by decide +kernel, rfl, by decide +kernel, by decide +kernel⟩
def frT (n : Nat) (a b rows k t sp ot bs bt sh rw : Option D) : Rho := [some (.mut 0), some (.int (n : Nat)), a, b, rows, k, t, sp, ot, bs, bt, sh, rw]
theorem rs_to2 {X : Cx} {W : WX} {p : HD} {ρ ρ1 ρ2 : Rho} {c c1 c2 : PC} {st : Stmt} (h : RS X W p ρ c st (.nx ρ1 c1)) (e1 : ρ1 = ρ2) (e2 : c1 = c2) : RS X W p ρ c st (.nx ρ2 c2) := by
  subst e1 e2
  exact h
theorem wD_map (ws : List (List Nat)) (f : List Nat → Nat) : (List.range (wD ws).length).map (fun j => D.str (chr1 (f (ws.getD j [])))) = (ws.map f).map fun n => D.str (chr1 n) := by
  rw [wD_len]
  refine List.ext_getElem? fun i => ?_
  by_cases hi : i < ws.length
  · simp [hi, List.getElem?_range]
  · simp [hi]
def btC (y : Pl) (n : Nat) (t : List Nat) : Nat := if t.getD (spotC y n 0) 0 = 49 then t.getD (spotC y n 1) 0 else t.getD (spotC y n 2) 0
theorem mix_eq (y : Pl) (n : Nat) : mixC y n = (insT n).map fun t => 48 + ((((btC y n t : Nat) : Int) - 48 + drawV (itC y (n : Nat) 3) 2) % 2).toNat := by
  unfold mixC
  refine List.map_congr_left fun t _ => ?_
  unfold btC
  split <;> rfl
theorem insT_mem {n : Nat} {t : List Nat} (h : t ∈ insT n) : ∀ m ∈ t, m ∈ bins := by
  have key : ∀ (k : Nat), ∀ t ∈ strsV bins k, ∀ m ∈ t, m ∈ bins := fun k => by
    induction k with
    | zero =>
      intro t ht m hm
      rcases List.mem_cons.mp (show t ∈ [[]] from ht) with rfl | h
      · cases hm
      · cases h
    | succ k ih =>
      intro t ht m hm
      rw [strs_next] at ht
      unfold step at ht
      obtain ⟨a, ha, hb⟩ := List.mem_flatMap.mp ht
      obtain ⟨z, hz, rfl⟩ := List.mem_map.mp hb
      rcases List.mem_append.mp hm with hm | hm
      · exact ih a ha m hm
      · rw [List.mem_singleton.mp hm]
        exact hz
  exact key n t h
theorem chr_one {a : Nat} : (chr1 a = Str.ofString "1") ↔ a = 49 := by
  constructor
  · intro h
    have : (chr1 a).cps.toList = [49] := by
      rw [h]
      rfl
    simpa [chr1] using this
  · rintro rfl
    rfl
theorem at_tx {t : List Nat} {i : Nat} (h : i < t.length) : (tx t).cps.toList[i]? = some (t.getD i 0) := by
  rw [tx_list, List.getD_eq_getElem?_getD, List.getElem?_eq_getElem h]
  rfl
theorem cv_intK {p : HD} {c : PC} {k : Bool} : CV K p (fun xs H Q => (∃ i, xs = [.int i] ∧ Q (.int i) H) ∨ ∃ k, xs = [.bl k] ∧ Q (.int (if k then 1 else 0)) H) [.bl k] (.int (if k then 1 else 0)) true c := fun vs H Q dvs hp kk => by
  match vs, dvs with
  | _, .cons (.bl _) .nil => exact .inr ⟨k, rfl, kk _ H (Ext.refl p H) hp (.int _) fun _ => New.sc (by intro a h; cases h)⟩
theorem share_at {w : Nat} (h : w < 6) : ([.int 2, .int 4, .int 4, .int 2, .int 2, .int 2] : List D)[w]? = some (.int (shareI w)) := by
  have : w = 0 ∨ w = 1 ∨ w = 2 ∨ w = 3 ∨ w = 4 ∨ w = 5 := by omega
  rcases this with rfl | rfl | rfl | rfl | rfl | rfl <;> rfl
theorem share_in (w : Nat) : 0 < shareI w ∧ shareI w < 1073741824 := by
  unfold shareI
  split <;> decide
theorem ok_tabl {f : Addr} {fd : FuncData} (G : Glb mg) (T : DrawD P w K mg base) (TS : StrsD P w K mg base) (F : Fun K "_law_table" "_law_table" (top 53) f fd) : FnOk P w K mg base CX0 2 f fd ["_law_pool_here", "_law_many"] (spF K tabFR) := by
  refine fn_val F scTabl (fun ds c o h => ?_) (fun ds c o h => ?_) (fun cdv A outer s H E hr p ds c o h => ?_)
  · obtain ⟨x, n, _, rfl, _⟩ := h
    rfl
  · obtain ⟨x, n, _, _, _, rfl⟩ := h
    exact ⟨_, _, _, rfl⟩
  · obtain ⟨x, n, rfl, rfl, hn, rfl⟩ := h
    have h6 := drawV_in (c := x) (show (0 : Int) < 6 by decide)
    have ew : drawV x 6 = ((wayI x : Nat) : Int) := (Int.toNat_of_nonneg h6.1).symm
    have lw : wayI x < 6 := by omega
    have tl := insT_len n
    have tz : (insT n).length ≤ 64 := by
      rw [tl]
      calc 2 ^ n ≤ 2 ^ 6 := Nat.pow_le_pow_right (by decide) hn
        _ = 64 := by decide
    have ta : ∀ t ∈ insT n, t.length = n := strs_all bins n
    refine .inl (rss_cons (c1 := [(drawC x 6).c]) (ρ1 := frT n (some (.int (drawV x 6))) none none none none none none none none none none) (rs_set (nw := false) 2 scTabl.nd (re_draw 0 (x := x) (k := 0) T (hr.mono (by decide)) rfl (by decide) (by decide))) ?_)
    rw [ew]
    refine rss_cons (c1 := [(drawC x 6).c]) (ρ1 := frT n (some (.int (wayI x : Nat))) (some (.lst ⟨false, true⟩ (wD (insT n)))) none none none none none none none none none) (rs_set (nw := false) 3 scTabl.nd (re_c0 TS (hr.mono (by decide)) (ra_cons (re_var 1) (ra_cons re_str ra_nil)) ⟨bins, n, rfl, hn, by decide, by decide, rfl⟩)) ?_
    by_cases w4 : wayI x = 4
    · have eL : tabL x n = rowC (drawC x 6) n := by unfold tabL; rw [if_pos w4]
      have eP : tabP x n = itC (drawC x 6) 2 (n + 1) := by unfold tabP; rw [if_pos w4]
      rw [eL, eP]
      generalize drawC x 6 = y
      have hz : (intsD ((n : Nat) + 1 : Int).toNat).length = n + 1 := by rw [intsD_len]; omega
      refine rss_ret (rs_if (kb := true) (rt_cmp op_eq (re_var 2) re_int (ov_eqIt (by rw [w4]; rfl))) (fun _ => ?_) fun z => nomatch z)
      refine rss_cons (c1 := [(itC y 2 (n + 1)).c]) (ρ1 := frT n (some (.int (wayI x : Nat))) (some (.lst ⟨false, true⟩ (wD (insT n)))) (some (.lst ⟨false, true⟩ (coll (fun _ => true) (fun i => .int (drawV (itC y 2 i) 2)) (n + 1)))) none none none none none none none none) ?_ ?_
      · refine rs_to2 (rs_set (nw := true) 4 scTabl.nd (re_lc (own := [("_law_k", 5)]) (g := gName 5) (fun _ => true) (fun i => D.int (drawV (itC y 2 i) 2)) (fun i => [(itC y 2 i).c]) (fun i => [(itC y 2 i).c]) (fun i => frT n (some (.int (wayI x : Nat))) (some (.lst ⟨false, true⟩ (wD (insT n)))) none (some (.int (i : Nat))) none none none none none none none) (fun _ => false) rfl scTabl.nd (ri_range G.range (re_bin op_add (re_var 1) re_int ov_ii) (by omega) (by omega)) (blkOk_by (N := nTab) (sc := defScope (top 53)) (by decide +kernel)) (fun _ _ _ _ _ => pg_name (i := 5) scTabl.nd rfl (Or.inl rfl)) (fun i d h => ?_) (fun i d h q s H C cl fp => pts_all) (fun i d h _ q s H C cl fp => ?_) (fun _ _ _ z => nomatch z) (by rw [hz]; omega)) rfl (Or.inr rfl)) (by rw [hz]; rfl) (by rw [hz])
        · obtain ⟨rfl, _⟩ := intsD_at h
          exact tg_name (by decide)
        · exact re_draw 0 (x := itC y 2 i) (k := 0) T (hr.mono (by decide)) rfl (by decide) (by decide)
      · refine rss_ret (rs_ret (re_joinC (l := rowC y n) (n1 := true) (n2 := true) (g := ⟨false, true⟩) (c1 := [(itC y 2 (n + 1)).c]) re_str ?_ (by unfold rowC; rw [List.length_map]; omega)))
        unfold rowC
        rw [← wD_map]
        refine re_lcA (own := [("_law_text", 6)]) (g := gName 6) _ (fun _ => [(itC y 2 (n + 1)).c]) (fun j => frT n (some (.int (wayI x : Nat))) (some (.lst ⟨false, true⟩ (wD (insT n)))) (some (.lst ⟨false, true⟩ (coll (fun _ => true) (fun i => .int (drawV (itC y 2 i) 2)) (n + 1)))) none (some (.str (tx ((insT n).getD j [])))) none none none none none none) (fun _ => true) rfl scTabl.nd (ri_lst (re_var 3)) (blkOk_by (N := nTab) (sc := defScope (top 53)) (by decide +kernel)) (fun _ _ _ _ _ => pg_name (i := 6) scTabl.nd rfl (Or.inl rfl)) (fun i d h => ?_) (fun i d h q s H C cl fp => ?_) (by rw [wD_len]; omega)
        · obtain ⟨rfl, _⟩ := wD_at h
          exact tg_name (by decide)
        · obtain ⟨_, hi, hm⟩ := wD_at h
          have hl := ta _ hm
          have hc : ((insT n).getD i []).count 49 ≤ n := by
            have := List.count_le_length (a := 49) (l := (insT n).getD i [])
            omega
          have hd := drawV_in (c := itC y 2 (((insT n).getD i []).count 49)) (show (0 : Int) < 2 by decide)
          refine re_strB G.str (re_ix ix_seq (re_var 4) (re_count (n := 49) (re_var 6) (re_to re_str (by rfl))) (ov_ixL (j := ((insT n).getD i []).count 49) (count_nat _ _) ?_)) (by omega)
          rw [coll_all, List.getElem?_map, List.getElem?_range (by omega)]
          rfl
    · refine rss_cons (c1 := [(drawC x 6).c]) (rs_if (kb := false) (rt_cmp op_eq (re_var 2) re_int (ov_eqIf (by omega))) (fun z => nomatch z) fun _ => rss_nil) ?_
      by_cases w5 : wayI x = 5 ∧ 0 < n
      · have eL : tabL x n = mixC (drawC x 6) n := by unfold tabL; rw [if_neg w4, if_pos w5]
        have eP : tabP x n = drawC (itC (drawC x 6) (n : Nat) 3) 2 := by unfold tabP; rw [if_neg w4, if_pos w5]
        rw [eL, eP, mix_eq]
        generalize drawC x 6 = y
        have n0 : (0 : Int) < (n : Nat) := by omega
        have hs := fun i => drawV_in (c := itC y (n : Nat) i) n0
        have es : ∀ i, drawV (itC y (n : Nat) i) (n : Nat) = ((spotC y n i : Nat) : Int) := fun i => (Int.toNat_of_nonneg (hs i).1).symm
        have ls : ∀ i, spotC y n i < n := fun i => by
          have := (hs i).2
          rw [es] at this
          omega
        refine rss_ret (rs_if (kb := true) (RW.rt (rw_and (k1 := true) (k2 := true) (rt_cmp op_eq (re_var 2) re_int (ov_eqIt (by rw [w5.1]; rfl))) fun _ => rw_and1 (rt_cmp (nw := true) op_gt (re_var 1) re_int ?_))) (fun _ => ?_) fun z => nomatch z)
        · have q := ov_ib (K := K) (p := p) (c := [y.c]) (f := fun i j => decide (j < i)) (i := (n : Nat)) (j := 0)
          rw [decide_eq_true n0] at q
          exact q
        · have h3 : (intsD (3 : Int).toNat).length = 3 := rfl
          refine rss_cons (c1 := [(itC y (n : Nat) 3).c]) (ρ1 := frT n (some (.int (wayI x : Nat))) (some (.lst ⟨false, true⟩ (wD (insT n)))) none none none (some (.lst ⟨false, true⟩ (coll (fun _ => true) (fun i => .int (drawV (itC y (n : Nat) i) (n : Nat))) 3))) none none none none none) ?_ ?_
          · exact rs_set (nw := true) 7 scTabl.nd (re_lc (own := [("_law_k", 5)]) (g := gName 5) (fun _ => true) (fun i => D.int (drawV (itC y (n : Nat) i) (n : Nat))) (fun i => [(itC y (n : Nat) i).c]) (fun i => [(itC y (n : Nat) i).c]) (fun i => frT n (some (.int (wayI x : Nat))) (some (.lst ⟨false, true⟩ (wD (insT n)))) none (some (.int (i : Nat))) none none none none none none none) (fun _ => false) rfl scTabl.nd (ri_range G.range re_int (by decide) (by decide)) (blkOk_by (N := nTab) (sc := defScope (top 53)) (by decide +kernel)) (fun _ _ _ _ _ => pg_name (i := 5) scTabl.nd rfl (Or.inl rfl)) (fun i d h => by
              obtain ⟨rfl, _⟩ := intsD_at h
              exact tg_name (by decide)) (fun i d h q s H C cl fp => pts_all) (fun i d h _ q s H C cl fp => re_drawE 0 (x := itC y (n : Nat) i) (k := 0) T (hr.mono (by decide)) rfl (re_var 1) n0 (by omega)) (fun _ _ _ z => nomatch z) (by decide)) rfl (Or.inr rfl)
          · refine rss_cons (c1 := [(drawC (itC y (n : Nat) 3) 2).c]) (ρ1 := frT n (some (.int (wayI x : Nat))) (some (.lst ⟨false, true⟩ (wD (insT n)))) none none none (some (.lst ⟨false, true⟩ (coll (fun _ => true) (fun i => .int (drawV (itC y (n : Nat) i) (n : Nat))) 3))) (some (.int (drawV (itC y (n : Nat) 3) 2))) none none none none) (rs_set (nw := false) 8 scTabl.nd (re_draw 0 (x := itC y (n : Nat) 3) (k := 0) T (hr.mono (by decide)) rfl (by decide) (by decide)) rfl (Or.inr rfl)) ?_
            have spot : ∀ i, i < 3 → (coll (fun _ => true) (fun i => D.int (drawV (itC y (n : Nat) i) (n : Nat))) 3)[i]? = some (.int (drawV (itC y (n : Nat) i) (n : Nat))) := fun i hi => by
              rw [coll_all, List.getElem?_map, List.getElem?_range hi]
              rfl
            refine rss_cons (c1 := [(drawC (itC y (n : Nat) 3) 2).c]) (ρ1 := frT n (some (.int (wayI x : Nat))) (some (.lst ⟨false, true⟩ (wD (insT n)))) none none none (some (.lst ⟨false, true⟩ (coll (fun _ => true) (fun i => .int (drawV (itC y (n : Nat) i) (n : Nat))) 3))) (some (.int (drawV (itC y (n : Nat) 3) 2))) (some (.lst ⟨false, true⟩ ((insT n).map fun t => D.str (chr1 (btC y n t))))) none none none) ?_ ?_
            · refine rs_to2 (rs_lc (own := [("_law_text", 6)]) (g := gName 6) 9 (fun _ => true) (fun j => D.str (chr1 (btC y n ((insT n).getD j [])))) (fun _ => [(drawC (itC y (n : Nat) 3) 2).c]) (fun _ => [(drawC (itC y (n : Nat) 3) 2).c]) (fun j => frT n (some (.int (wayI x : Nat))) (some (.lst ⟨false, true⟩ (wD (insT n)))) none none (some (.str (tx ((insT n).getD j [])))) (some (.lst ⟨false, true⟩ (coll (fun _ => true) (fun i => .int (drawV (itC y (n : Nat) i) (n : Nat))) 3))) (some (.int (drawV (itC y (n : Nat) 3) 2))) none none none none) (fun _ => false) rfl scTabl.nd (ri_lst (re_var 3)) (blkOk_by (N := nTab) (sc := defScope (top 53)) (by decide +kernel)) (fun _ _ _ _ _ => pg_name (i := 6) scTabl.nd rfl (Or.inl rfl)) (fun i d h => ?_) (fun i d h q s H C cl fp => pts_all) (fun i d h _ q s H C cl fp => ?_) (fun _ _ _ z => nomatch z) (by rw [wD_len]; omega)) ?_ rfl
              · obtain ⟨rfl, _⟩ := wD_at h
                exact tg_name (by decide)
              · obtain ⟨_, hi, hm⟩ := wD_at h
                have hl := ta _ hm
                have z : (tx ((insT n).getD i [])).length ≤ sizeLine := sz_le (by rw [tx_len]; omega)
                have qq := ov_eqS (K := K) (p := q) (c := [(drawC (itC y (n : Nat) 3) 2).c]) (x := .str (chr1 (((insT n).getD i []).getD (spotC y n 0) 0))) (y := .str (Str.ofString "1")) (v := .str (chr1 (((insT n).getD i []).getD (spotC y n 0) 0))) (u := .str (Str.ofString "1")) rfl rfl rfl
                rw [show decide (V.str (chr1 (((insT n).getD i []).getD (spotC y n 0) 0)) = V.str (Str.ofString "1")) = decide (((insT n).getD i []).getD (spotC y n 0) 0 = 49) by simp [chr_one]] at qq
                refine re_if (k := decide (((insT n).getD i []).getD (spotC y n 0) 0 = 49)) (rt_cmp op_eq (re_ix ix_seq (re_var 6) (re_ix ix_seq (re_var 7) re_int (ov_ixL (j := 0) rfl (spot 0 (by decide)))) (ov_ixS z (es 0) (at_tx (by rw [hl]; exact ls 0)))) re_str qq) (fun hk => ?_) (fun hk => ?_)
                · have hk := of_decide_eq_true hk
                  refine re_to (re_old (re_ix ix_seq (re_var 6) (re_ix ix_seq (re_var 7) re_int (ov_ixL (j := 1) rfl (spot 1 (by decide)))) (ov_ixS z (es 1) (at_tx (by rw [hl]; exact ls 1))))) ?_
                  unfold btC
                  rw [if_pos hk]
                  rfl
                · have hk := of_decide_eq_false hk
                  refine re_to (re_old (re_ix ix_seq (re_var 6) (re_ix ix_seq (re_var 7) re_int (ov_ixL (j := 2) rfl (spot 2 (by decide)))) (ov_ixS z (es 2) (at_tx (by rw [hl]; exact ls 2))))) ?_
                  unfold btC
                  rw [if_neg hk]
                  rfl
              · have e : coll (fun _ => true) (fun j => D.str (chr1 (btC y n ((insT n).getD j [])))) (wD (insT n)).length = (insT n).map fun t => D.str (chr1 (btC y n t)) := by
                  rw [coll_all, wD_map (insT n) (btC y n), List.map_map]
                  rfl
                rw [e]
                rfl
            · have hb : ∀ t ∈ insT n, btC y n t = 48 ∨ btC y n t = 49 := fun t ht => by
                have hl := ta t ht
                have g : ∀ i, t.getD (spotC y n i) 0 = 48 ∨ t.getD (spotC y n i) 0 = 49 := fun i => by
                  have lt : spotC y n i < t.length := by rw [hl]; exact ls i
                  refine bins_B (insT_mem ht _ ?_)
                  rw [List.getD_eq_getElem?_getD, List.getElem?_eq_getElem lt]
                  exact List.getElem_mem _
                unfold btC
                split
                · exact g 1
                · exact g 2
              have lz : ((insT n).map fun t => D.str (chr1 (btC y n t))).length = (insT n).length := List.length_map ..
              refine rss_ret (rs_ret (re_joinC (l := (insT n).map fun t => 48 + ((((btC y n t : Nat) : Int) - 48 + drawV (itC y (n : Nat) 3) 2) % 2).toNat) (n1 := true) (n2 := true) (g := ⟨false, true⟩) (c1 := [(drawC (itC y (n : Nat) 3) 2).c]) re_str ?_ (by rw [List.length_map]; omega)))
              rw [← wD_map, wD_len, ← lz]
              refine re_lcA (own := [("_law_bit", 10)]) (g := gName 10) _ (fun _ => [(drawC (itC y (n : Nat) 3) 2).c]) (fun j => frT n (some (.int (wayI x : Nat))) (some (.lst ⟨false, true⟩ (wD (insT n)))) none none none (some (.lst ⟨false, true⟩ (coll (fun _ => true) (fun i => .int (drawV (itC y (n : Nat) i) (n : Nat))) 3))) (some (.int (drawV (itC y (n : Nat) 3) 2))) (some (.lst ⟨false, true⟩ ((insT n).map fun t => D.str (chr1 (btC y n t))))) (some (.str (chr1 (btC y n ((insT n).getD j []))))) none none) (fun _ => true) rfl scTabl.nd (ri_lst (re_var 9)) (blkOk_by (N := nTab) (sc := defScope (top 53)) (by decide +kernel)) (fun _ _ _ _ _ => pg_name (i := 10) scTabl.nd rfl (Or.inl rfl)) (fun i d h => ?_) (fun i d h q s H C cl fp => ?_) (by rw [lz]; omega)
              · rw [List.getElem?_map] at h
                by_cases hi : i < (insT n).length
                · rw [List.getElem?_eq_getElem hi] at h
                  have e : d = .str (chr1 (btC y n ((insT n).getD i []))) := by
                    rw [List.getD_eq_getElem?_getD, List.getElem?_eq_getElem hi]
                    exact (Option.some.inj h).symm
                  rw [e]
                  exact tg_name (by decide)
                · rw [List.getElem?_eq_none (by omega)] at h
                  cases h
              · have hi : i < (insT n).length := by
                  have := (List.getElem?_eq_some_iff.mp h).1
                  rw [lz] at this
                  exact this
                have hm : (insT n).getD i [] ∈ insT n := by
                  rw [List.getD_eq_getElem?_getD, List.getElem?_eq_getElem hi]
                  exact List.getElem_mem _
                exact re_strB G.str (re_bin op_mod (re_bin op_add (re_intB G.int (re_var 10) (hb _ hm)) (re_var 8) ov_ii) re_int (ov_cii (by show (0 : Int) < 2; decide))) (by show _ % 2 = 0 ∨ _ % 2 = 1; omega)
      · have eL : tabL x n = rareC (wayI x) (drawC x 6) n := by unfold tabL; rw [if_neg w4, if_neg w5]
        have eP : tabP x n = itC (drawC x 6) (shareI (wayI x)) (insT n).length := by unfold tabP; rw [if_neg w4, if_neg w5]
        rw [eL, eP]
        generalize drawC x 6 = y
        generalize wayI x = v at *
        have sh := share_in v
        refine rss_cons (c1 := [y.c]) (rs_if (kb := false) (rt_to (RW.rt (rw_and (k1 := decide ((v : Int) = 5)) (k2 := decide ((0 : Int) < (n : Nat))) (rt_cmp op_eq (re_var 2) re_int ov_eqI) fun _ => rw_and1 (rt_cmp (nw := true) op_gt (re_var 1) re_int (ov_ib (f := fun i j => decide (j < i)))))) ?_) (fun z => nomatch z) fun _ => rss_nil) ?_
        · rw [Bool.eq_false_iff]
          intro z
          rw [Bool.and_eq_true_iff, decide_eq_true_eq, decide_eq_true_eq] at z
          exact w5 ⟨by omega, by omega⟩
        · refine rss_cons (c1 := [y.c]) (ρ1 := frT n (some (.int (v : Nat))) (some (.lst ⟨false, true⟩ (wD (insT n)))) none none none none none none none (some (.int (shareI v))) none) (rs_set (nw := false) 11 scTabl.nd (re_ix ix_seq (re_lst (ra_cons re_int (ra_cons re_int (ra_cons re_int (ra_cons re_int (ra_cons re_int (ra_cons re_int ra_nil)))))) (by show 6 ≤ 100000; decide)) (re_var 2) (ov_ixL (j := v) rfl (share_at lw)))) ?_
          refine rss_cons (c1 := [(itC y (shareI v) (insT n).length).c]) (ρ1 := frT n (some (.int (v : Nat))) (some (.lst ⟨false, true⟩ (wD (insT n)))) (some (.lst ⟨false, true⟩ (coll (fun _ => true) (fun i => .int (if decide (drawV (itC y (shareI v) i) (shareI v) = 0) then 1 else 0)) (insT n).length))) none none none none none none (some (.int (shareI v))) none) ?_ ?_
          · refine rs_to2 (rs_set (nw := true) 4 scTabl.nd (re_lc (own := [("_law_text", 6)]) (g := gName 6) (fun _ => true) (fun i => D.int (if decide (drawV (itC y (shareI v) i) (shareI v) = 0) then 1 else 0)) (fun i => [(itC y (shareI v) i).c]) (fun i => [(itC y (shareI v) i).c]) (fun i => frT n (some (.int (v : Nat))) (some (.lst ⟨false, true⟩ (wD (insT n)))) none none (some (.str (tx ((insT n).getD i [])))) none none none none (some (.int (shareI v))) none) (fun _ => true) rfl scTabl.nd (ri_lst (re_var 3)) (blkOk_by (N := nTab) (sc := defScope (top 53)) (by decide +kernel)) (fun _ _ _ _ _ => pg_name (i := 6) scTabl.nd rfl (Or.inl rfl)) (fun i d h => by
              obtain ⟨rfl, _⟩ := wD_at h
              exact tg_name (by decide)) (fun i d h q s H C cl fp => pts_all) (fun i d h _ q s H C cl fp => re_callT call_int1 G.int PyProof.Rows.boot_int (ra_cons (re_cmp op_eq (re_drawE 0 (x := itC y (shareI v) i) (k := 0) T (hr.mono (by decide)) rfl (re_var 11) sh.1 sh.2) re_int ov_eqI) ra_nil) cv_intK) (fun _ _ _ z => nomatch z) (by rw [wD_len]; omega)) rfl (by first | exact Or.inl rfl | exact Or.inr rfl)) (by rw [wD_len]; rfl) (by rw [wD_len])
          · have lc : (coll (fun _ => true) (fun i => D.int (if decide (drawV (itC y (shareI v) i) (shareI v) = 0) then 1 else 0)) (insT n).length).length = (insT n).length := by rw [coll_all, List.length_map, List.length_range]
            have key : (rareC v y n).map (fun m => D.str (chr1 m)) = (List.range (coll (fun _ => true) (fun i => D.int (if decide (drawV (itC y (shareI v) i) (shareI v) = 0) then 1 else 0)) (insT n).length).length).map fun j => D.str (chr1 (48 + (if v = 2 then 1 - (if decide (drawV (itC y (shareI v) j) (shareI v) = 0) then 1 else 0 : Int) else if decide (drawV (itC y (shareI v) j) (shareI v) = 0) then 1 else 0).toNat)) := by
              rw [lc]
              unfold rareC
              rw [List.map_map]
              refine List.map_congr_left fun j _ => ?_
              show D.str (chr1 _) = D.str (chr1 _)
              congr 2
              by_cases v2 : v = 2
              · by_cases hd : drawV (itC y (shareI v) j) (shareI v) = 0
                · subst v2
                  simp [hd]
                · subst v2
                  simp [hd]
              · by_cases hd : drawV (itC y (shareI v) j) (shareI v) = 0
                · simp [v2, hd]
                · simp [v2, hd]
            refine rss_ret (rs_ret (re_joinC (l := rareC v y n) (n1 := true) (n2 := true) (g := ⟨false, true⟩) (c1 := [(itC y (shareI v) (insT n).length).c]) re_str ?_ (by unfold rareC; rw [List.length_map, List.length_range]; omega)))
            rw [key]
            refine re_lcA (own := [("_law_row", 12)]) (g := gName 12) _ (fun _ => [(itC y (shareI v) (insT n).length).c]) (fun j => frT n (some (.int (v : Nat))) (some (.lst ⟨false, true⟩ (wD (insT n)))) (some (.lst ⟨false, true⟩ (coll (fun _ => true) (fun i => .int (if decide (drawV (itC y (shareI v) i) (shareI v) = 0) then 1 else 0)) (insT n).length))) none none none none none none (some (.int (shareI v))) (some (.int (if decide (drawV (itC y (shareI v) j) (shareI v) = 0) then 1 else 0)))) (fun _ => true) rfl scTabl.nd (ri_lst (re_var 4)) (blkOk_by (N := nTab) (sc := defScope (top 53)) (by decide +kernel)) (fun _ _ _ _ _ => pg_name (i := 12) scTabl.nd rfl (Or.inl rfl)) (fun i d h => ?_) (fun i d h q s H C cl fp => ?_) (by rw [lc]; omega)
            · rw [coll_all, List.getElem?_map] at h
              by_cases hi : i < (insT n).length
              · rw [List.getElem?_range hi] at h
                rw [← Option.some.inj h]
                exact tg_name (by decide)
              · rw [List.getElem?_eq_none (by rw [List.length_range]; omega)] at h
                cases h
            · refine re_strB (nw := false) G.str (re_if (k := decide ((v : Int) = 2)) (rt_cmp op_eq (re_var 2) re_int ov_eqI) (fun hk => ?_) (fun hk => ?_)) (by
                split <;> split <;> omega)
              · have : v = 2 := by
                  have := of_decide_eq_true hk
                  omega
                rw [if_pos this]
                exact re_old (re_bin op_sub re_int (re_var 12) ov_ii)
              · have : ¬ v = 2 := fun z => of_decide_eq_false hk (by rw [z]; rfl)
                rw [if_neg this]
                exact re_var 12
end
end K41

/-! two lists of flat items that are alike -/
namespace LA
open PySem PySem.Spec PyProof.Rows L2
section
variable {K : PySem.W.Frag} {p : HD} {c : PC}
theorem flat_self {ds : List D} (e : ds.all flatOk = true) : PyData.eqv (.list (toPys ds)) (.list (toPys ds)) = true := by
  refine PySem.SeqAt.eqv_refl _ ?_
  unfold PyData.canLay0
  exact (flat_lay e).1
theorem lst_dp {v : V} {H : Hp} {g : G} {ds : List D} (dv : DV K p H v (.lst g ds)) (e : ds.all flatOk = true) : Dp K H v (.list (toPys ds)) := by
  cases dv with
  | lst _ hq r => exact .lst (un_sqL hq) (dps_of r e)
theorem ov_neSelf {g g2 : G} {ds : List D} (e : ds.all flatOk = true) : OV K p (rNeD K) (.lst g ds) (.lst g2 ds) (.bl false) true c := fun v u H Q dv du hp k => by
  refine ⟨_, _, lst_dp dv e, lst_dp du e, shaped_flat e, shaped_flat e, ?_⟩
  rw [flat_self e]
  exact k _ H (Ext.refl p H) hp (.bl _) fun _ => New.sc (by intro a h; cases h)
theorem ov_eqSelf {g g2 : G} {ds : List D} (e : ds.all flatOk = true) : OV K p (rEqD K) (.lst g ds) (.lst g2 ds) (.bl true) true c := fun v u H Q dv du hp k => by
  refine ⟨_, _, lst_dp dv e, lst_dp du e, shaped_flat e, shaped_flat e, ?_⟩
  rw [flat_self e]
  exact k _ H (Ext.refl p H) hp (.bl _) fun _ => New.sc (by intro a h; cases h)
end
end LA

namespace K41
open PySem PySem.Spec PyProof.Rows L2 LA
/-! ### Question(..), in the law's hands -/
structure QMk (P : Program) (w : World) (K : PySem.W.Frag) (mg : Str → Option Value) (base : Heap) (C B : Addr) : Prop where
  ex : ∃ f fd, Mk K C f ∧ FnOk P w K mg base (L2.CX P w) 5 f fd ["self", "table"] (spF K (iniR C B)) ∧ Binds K fd ["self", "table"] []
  mg : mg "Question" = some (.ref C)
structure QProp (P : Program) (w : World) (K : PySem.W.Frag) (mg : Str → Option Value) (base : Heap) (C : Addr) (x : Str) (R : FSpec) : Prop where
  ex : ∃ q g fd, PropOf K C x q g ∧ FnOk P w K mg base CX0 1 g fd ["self"] (spF K R) ∧ Binds K fd ["self"] []
theorem set_last {α : Type} (c : List α) (x y : α) : (c ++ [x]).set c.length y = c ++ [y] := by
  rw [List.set_append_right _ _ (Nat.le_refl _), Nat.sub_self]
  rfl
section
variable {X : Cx} {W : WX} {p : HD} {ρ : Rho} {c c1 : PC} {e a : Expr} {pos xp : Pos} {nw : Bool} {d : D} {C B : Addr} {l : List Nat}
def outQ (C B : Addr) (d : D) (c : PC) : EO := if isTab d then .val (qD C (cds d)) true c else .ex B [("given", d)] c
theorem re_makeQ (tk : Takes X W) (T : QMk X.prog X.w X.K X.mg X.base C B) (hr : Room 6 X.A) (he : RE X W p ρ c e (.val d nw c1)) (fd' : Fit d) (lo : ∀ n, lowD n d = true) {o : EO} (hq : outQ C B d c1 = o) (hg : Gl X "Question" := by rfl)
    (hs : starEach [e] X.env = (false, eval e X.env) :: starEach [] X.env := by rfl) (hpl : (backTo pos (starEach [] X.env)).any (·.1) = false := by rfl) : RE X W p ρ c (.Call (.Name "Question" xp) [e] [] pos) o := by
  subst hq
  obtain ⟨f, fd, h1, h2, h3⟩ := T.ex
  have hc : (c1 ++ [Cell.ins C []])[c1.length]? = some (.ins C []) := by simp
  refine re_makeX (o' := if isTab d then .val .non true (c1 ++ [.ins C (flds (cds d))]) else .ex B [("given", d)] (c1 ++ [.ins C []])) tk h1 h2 hr T.mg h3 (ra_cons he ra_nil hs) ⟨c1.length, d, rfl, hc, fd', ?_⟩ ?_ hg (by decide) hs hpl
  · rw [set_last]
  · unfold outQ
    cases isTab d with
    | true => exact .val rfl
    | false => exact .ex rfl (by
        show (lowD _ d && lowDf _ []) = true
        rw [lo]
        rfl)
theorem re_qprop {x : Str} {R : FSpec} {d2 : D} {n2 : Bool} (T : QProp X.prog X.w X.K X.mg X.base C x R) (Q : QC X.K C) (hr : Room 2 X.A) (ha : RE X W p ρ c a (.val (qD C l) nw c1)) (ho : R [qD C l] c1 (.val d2 n2 c1))
    (hab : attributeBase a x X.env (eval a X.env) = eval a X.env := by rfl) : RE X W p ρ c (.Attribute a x pos) (.val d2 n2 c1) := by
  obtain ⟨q, g, fd, h1, h2, h3⟩ := T.ex
  exact re_prop h2 hr h3 ha Q.cl h1 ho hab
theorem re_qpropX {x : Str} {R : FSpec} {E : Addr} {es : List (Str × D)} (T : QProp X.prog X.w X.K X.mg X.base C x R) (Q : QC X.K C) (hr : Room 2 X.A) (ha : RE X W p ρ c a (.ex E es c1))
    (hab : attributeBase a x X.env (eval a X.env) = eval a X.env := by rfl) : RE X W p ρ c (.Attribute a x pos) (.ex E es c1) := by
  obtain ⟨q, g, fd, h1, h2, h3⟩ := T.ex
  exact pe_imp (pe_prop ha Q.cl h1 h2 hr h3 .nil pass0 hab) fun σ H Q h => h
theorem ra_consX1 {es : List Expr} {E : Addr} {fs : List (Str × D)} (ha : RE X W p ρ c e (.ex E fs c1)) (hs : starEach (e :: es) X.env = (false, eval e X.env) :: starEach es X.env := by rfl) : RA X W p ρ c (e :: es) (.ex E fs c1) :=
  pa_imp (pa_cons ha (⟨fun ps pins s σ H Q I h => h.elim⟩ : PA X es fun _ _ _ => False) hs) fun σ H Q h => h
theorem ra_consX2 {c2 : PC} {es : List Expr} {E : Addr} {fs : List (Str × D)} (ha : RE X W p ρ c e (.val d nw c1)) (hr : RA X W p ρ c1 es (.ex E fs c2)) (hs : starEach (e :: es) X.env = (false, eval e X.env) :: starEach es X.env := by rfl) : RA X W p ρ c (e :: es) (.ex E fs c2) :=
  pa_imp (pa_cons ha hr hs) fun σ H Q ⟨s, k⟩ => ⟨s, fun v H1 e1 p1 dv _ => ⟨s.mono e1 p1, fun dx fv σ' H' e2 s2 hx hf => k dx fv σ' H' (e1.trans e2) s2 hx hf⟩⟩
theorem re_lstX {es : List Expr} {E : Addr} {fs : List (Str × D)} (h : RA X W p ρ c es (.ex E fs c1)) : RE X W p ρ c (.List es pos) (.ex E fs c1) := pe_imp (pe_lstB h) fun σ H Q h => h
end
structure QCall (P : Program) (w : World) (K : PySem.W.Frag) (mg : Str → Option Value) (base : Heap) (C B : Addr) : Prop where
  ex : ∃ g fd, StX.CallO K C g ∧ FnOk P w K mg base (L2.CX P w) 4 g fd ["self", "text"] (spF K (callR C B)) ∧ Binds K fd ["self", "text"] []
def okIn (l : List Nat) (d : D) : Bool := isW bins d && decide (((cds d).length : Int) = (manyOf l : Nat))
def ansD (l : List Nat) (d : D) : D := if okIn l d then .int (ansV l (cds d)) else .lst ⟨true, true⟩ [.str "none", d]
section
variable {P : Program} {w : World} {K : PySem.W.Frag} {mg : Str → Option Value} {base : Heap} {C BT BI Lk : Addr}
end
/-! ### bent tables -/
theorem cut_hiA {l : List Nat} {i : Nat} : cutS (tx l) (some (i : Nat)) none = tx (l.drop i) := by
  by_cases h : i ≤ l.length
  · exact cut_hi h
  · have e : HT.sIx (tx l).length 0 (some (i : Nat)) = l.length := by
      rw [tx_len]
      have := HT.sIx_nat
      rw [this, Nat.min_eq_right (by omega)]
    unfold cutS
    rw [e, tx_list, List.drop_of_length_le (Nat.le_refl _), List.drop_of_length_le (by omega)]
    simp
    rfl
theorem mul_tx (l : List Nat) (n : Nat) : Txt.mul (tx l) (n : Nat) = tx (List.replicate n l).flatten := by
  unfold Txt.mul
  by_cases h0 : n = 0
  · subst h0
    rfl
  · rw [if_neg (by omega)]
    split
    · rename_i h
      rcases Bool.or_eq_true_iff.mp h with h | h
      · have : n = 1 := by
          have := beq_iff_eq.mp h
          omega
        subst this
        simp
      · have hl : l = [] := List.length_eq_zero_iff.mp (by
          have := beq_iff_eq.mp h
          rw [tx_len] at this
          exact this)
        subst hl
        simp
    · have key : ∀ (k : Nat) (a : Array Nat), (List.replicate k (tx l).cps).foldl (· ++ ·) a = a ++ (List.replicate k l).flatten.toArray := fun k => by
        induction k with
        | zero => intro a; simp
        | succ k ih =>
          intro a
          rw [List.replicate_succ, List.foldl_cons, ih, List.replicate_succ, List.flatten_cons]
          have : (tx l).cps = l.toArray := rfl
          rw [this]
          simp
      rw [Int.toNat_natCast, key]
      simp
      rfl
/-! ### what the law asks of a question -/
structure QObj (P : Program) (w : World) (K : PySem.W.Frag) (mg : Str → Option Value) (base : Heap) (C BI : Addr) : Prop where
  qc : QC K C
  tab : QProp P w K mg base C "table" (tableR C)
  many : QProp P w K mg base C "many" (manyR C)
  call : QCall P w K mg base C BI
  len : ∃ f fd, Own K C "__len__" f ∧ FnOk P w K mg base CX0 1 f fd ["self"] (spLen K C "_yes") ∧ Binds K fd ["self"] []
  iter : ∃ f fd, Own K C "__iter__" f ∧ FnSz P w K mg base 1 f fd ["self"] (spIter K C "_yes") ∧ Binds K fd ["self"] []
  str : ∃ f fd, Own K C "__str__" f ∧ FnOk P w K mg base CX0 1 f fd ["self"] (spF K (strR C)) ∧ Binds K fd ["self"] []
  con : ∃ f fd, Own K C "__contains__" f ∧ FnOk P w K mg base CX0 1 f fd ["self", "value"] (spF K (conR C)) ∧ Binds K fd ["self", "value"] []
section
variable {X : Cx} {W : WX} {p : HD} {ρ : Rho} {c c1 c2 : PC} {e a tg : Expr} {pos ps : Pos} {nw n2 : Bool} {d : D} {C BI : Addr} {l : List Nat}
theorem re_qlen (hm : X.mg "len" = none) (Q : QObj X.prog X.w X.K X.mg X.base C BI) (hr : Room 2 X.A) (ha : RE X W p ρ c a (.val (qD C l) nw c1)) (hl : (yesL l).length < 100000) (hg : Gl X "len" := by rfl)
    (hs : starEach [a] X.env = (false, eval a X.env) :: starEach [] X.env := by rfl) : RE X W p ρ c (.Call (.Name "len" ps) [a] [] pos) (.val (.int ((yesL l).length : Nat)) true c1) := by
  obtain ⟨f, fd, h1, h2, h3⟩ := Q.len
  exact re_callB (call_lenO (len_spF h2) hr h3 h1) hm PySem.boot_len (ra_cons ha ra_nil hs) (cv_lenO (fs := flds l) hl ⟨flds l, ⟨false, true⟩, yesL l, rfl, rfl, rfl⟩) hg (by decide) (by decide) hs
theorem re_qstr (hm : X.mg "str" = none) (Q : QObj X.prog X.w X.K X.mg X.base C BI) (hr : Room 3 X.A) (ha : RE X W p ρ c a (.val (qD C l) nw c1)) (hg : Gl X "str" := by rfl)
    (hs : starEach [a] X.env = (false, eval a X.env) :: starEach [] X.env := by rfl) : RE X W p ρ c (.Call (.Name "str" ps) [a] [] pos) (.val (.str (tx l)) true c1) := by
  obtain ⟨f, fd, h1, h2, h3⟩ := Q.str
  exact re_callT (call_strO h2 hr h3 h1) hm PyProof.Rows.boot_str (ra_cons ha ra_nil hs) (cv_strO (fs := flds l) ⟨l, rfl, rfl⟩) hg (by decide) (by decide) hs
theorem re_qlist (hc : X.calm = true) (hm : X.mg "list" = none) (Q : QObj X.prog X.w X.K X.mg X.base C BI) (hr : Room 4 X.A) (ha : RE X W p ρ c a (.val (qD C l) nw c1)) (hl : (yesL l).length < 100000) (hg : Gl X "list" := by rfl)
    (hs : starEach [a] X.env = (false, eval a X.env) :: starEach [] X.env := by rfl) : RE X W p ρ c (.Call (.Name "list" ps) [a] [] pos) (.val (.lst ⟨false, true⟩ (yesL l)) true c1) := by
  obtain ⟨f, fd, h1, h2, h3⟩ := Q.len
  obtain ⟨fi, fdi, i1, i2, i3⟩ := Q.iter
  exact re_callT (call_listO hc i2 (hr.mono (by decide)) i3 i1 h2 hr h3 h1) hm PyProof.Rows.boot_list (ra_cons ha ra_nil hs) (cv_listO (fs := flds l) (g := ⟨false, true⟩) rfl hl) hg (by decide) (by decide) hs
theorem ri_q (Q : QObj X.prog X.w X.K X.mg X.base C BI) (hr : Room 1 X.A) (ha : RE X W p ρ c a (.val (qD C l) nw c1)) : RI X W p ρ c tg a (yesL l) c1 := by
  obtain ⟨fi, fdi, i1, i2, i3⟩ := Q.iter
  exact ri_obj (fs := flds l) (g := ⟨false, true⟩) i2 hr i3 i1 ha rfl
theorem re_qin (Q : QObj X.prog X.w X.K X.mg X.base C BI) (hr : Room 1 X.A) (he : RE X W p ρ c e (.val d nw c1)) (ha : RE X W p ρ c1 a (.val (qD C l) n2 c2)) (ht : Ty d) (hm : behindInMarks .In a = false := by first | rfl | exact nomark _) : RE X W p ρ c (.Compare e [.In] [a] pos) (.val (.bl (inQ l d)) true c2) := by
  obtain ⟨f, fd, h1, h2, h3⟩ := Q.con
  have q := ov_inO (X := X) (p := p) (c := c2) (C := C) (fs := flds l) (d1 := d) (n2 := true) (neg := false) (kb := inQ l d) (R := conR C) ⟨l, d, rfl, ht, rfl⟩
  rw [Bool.false_xor] at q
  exact re_cmp (op_inO h2 hr h3 h1) he ha q hm
theorem rt_qin (Q : QObj X.prog X.w X.K X.mg X.base C BI) (hr : Room 1 X.A) (he : RE X W p ρ c e (.val d nw c1)) (ha : RE X W p ρ c1 a (.val (qD C l) n2 c2)) (ht : Ty d) (hm : behindInMarks .In a = false := by first | rfl | exact nomark _) : RT X W p ρ c (.Compare e [.In] [a] pos) (.val (inQ l d) c2) := by
  obtain ⟨f, fd, h1, h2, h3⟩ := Q.con
  have q := ov_inO (X := X) (p := p) (c := c2) (C := C) (fs := flds l) (d1 := d) (n2 := true) (neg := false) (kb := inQ l d) (R := conR C) ⟨l, d, rfl, ht, rfl⟩
  rw [Bool.false_xor] at q
  exact rt_cmp (op_inO h2 hr h3 h1) he ha q hm
end
theorem ins_is (n : Nat) : insL n = insT n := rfl
theorem many_pow {n : Nat} (h : n ≤ 6) {l : List Nat} (hl : l.length = 2 ^ n) : manyOf l = n := by
  unfold manyOf
  rw [hl]
  have key : ∀ k : Fin 7, lensZ.idxOf ((2 ^ k.val : Nat) : Int) = k.val := by decide
  exact key ⟨n, by omega⟩
theorem yesL_eq {n : Nat} (h : n ≤ 6) {l : List Nat} (hl : l.length = 2 ^ n) : yesL l = coll (fun i => decide (chr1 (l.getD i 0) = Str.ofString "1")) (fun i => .str (tx ((insT n).getD i []))) (2 ^ n) := by
  unfold yesL
  rw [many_pow h hl, ins_is, insT_len, hl, Nat.min_self]
theorem yesL_len {n : Nat} (h : n ≤ 6) {l : List Nat} (hl : l.length = 2 ^ n) : (yesL l).length ≤ 64 := by
  rw [yesL_eq h hl]
  refine Nat.le_trans (coll_len _ _ _) ?_
  calc 2 ^ n ≤ 2 ^ 6 := Nat.pow_le_pow_right (by decide) h
    _ = 64 := by decide
theorem str_flat {t : List Nat} (h : ∀ m ∈ t, m < 0x110000) : flatOk (.str (tx t)) = true := by
  show PyData.strOk (tx t) = true
  unfold PyData.strOk tx
  simpa using h
theorem bin_low {t : List Nat} (h : ∀ m ∈ t, m ∈ bins) : ∀ m ∈ t, m < 0x110000 := fun m hm => by
  have := bins_B (h m hm)
  rcases this with e | e <;> omega
theorem yesL_flat {n : Nat} (h : n ≤ 6) {l : List Nat} (hl : l.length = 2 ^ n) : (yesL l).all flatOk = true := by
  rw [yesL_eq h hl, coll_some, List.all_map, List.all_eq_true]
  intro i hi
  have hi' := List.mem_range.mp (List.mem_filter.mp hi).1
  refine str_flat (bin_low (insT_mem (n := n) ?_))
  rw [← insT_len] at hi'
  rw [List.getD_eq_getElem?_getD, List.getElem?_eq_getElem hi']
  exact List.getElem_mem _
theorem wD_flat {ws : List (List Nat)} (h : ∀ t ∈ ws, ∀ m ∈ t, m ∈ bins) : (wD ws).all flatOk = true := by
  unfold wD
  rw [List.all_map, List.all_eq_true]
  intro t ht
  exact str_flat (bin_low (h t ht))
theorem range_self (xs : List D) : (List.range xs.length).map (fun i => xs.getD i .non) = xs := by
  refine List.ext_getElem? fun i => ?_
  by_cases hi : i < xs.length
  · simp [hi, List.getElem?_range]
  · simp [hi]
theorem at_self {xs : List D} {i : Nat} {d : D} (h : xs[i]? = some d) : d = xs.getD i .non := by
  rw [List.getD_eq_getElem?_getD, h]
  rfl
theorem yes_at {n : Nat} (h : n ≤ 6) {l : List Nat} (hl : l.length = 2 ^ n) {i : Nat} {d : D} (hd : (yesL l)[i]? = some d) : ∃ t ∈ insT n, d = .str (tx t) := by
  rw [yesL_eq h hl, coll_some, List.getElem?_map] at hd
  obtain ⟨k, hk, e⟩ := Option.map_eq_some_iff.mp hd
  have m := List.mem_of_getElem? hk
  have hk' := List.mem_range.mp (List.mem_filter.mp m).1
  rw [← insT_len] at hk'
  refine ⟨(insT n).getD k [], ?_, e.symm⟩
  rw [List.getD_eq_getElem?_getD, List.getElem?_eq_getElem hk']
  exact List.getElem_mem _
def catD : D → D → D
  | .str a, .str b => .str (a ++ b)
  | _, _ => .non
/-! ### the k-th text has place k -/
theorem bins_is : bins = [48, 49] := by decide
theorem step_at : ∀ (ws : List (List Nat)) (k : Nat), k < 2 * ws.length → (step ws bins).getD k [] = ws.getD (k / 2) [] ++ [48 + k % 2]
  | [], k, h => by simp at h
  | w :: r, 0, _ => by
    unfold step
    rw [bins_is]
    rfl
  | w :: r, 1, _ => by
    unfold step
    rw [bins_is]
    rfl
  | w :: r, k + 2, h => by
    have ih := step_at r k (by
      rw [List.length_cons] at h
      omega)
    have e : step (w :: r) bins = (w ++ [48]) :: (w ++ [49]) :: step r bins := by
      unfold step
      rw [bins_is, List.flatMap_cons]
      rfl
    rw [e, show (k + 2) / 2 = k / 2 + 1 by omega, show (k + 2) % 2 = k % 2 by omega]
    exact ih
theorem binNum_snoc (t : List Nat) (c : Nat) : binNum (48 :: (t ++ [c])) = binNum (48 :: t) * 2 + (c - 48) := by
  unfold binNum
  rw [← List.cons_append, List.foldl_append]
  rfl
theorem place_at : ∀ (n k : Nat), k < 2 ^ n → binNum (48 :: (insT n).getD k []) = k
  | 0, k, h => by
    have : k = 0 := by
      rw [Nat.pow_zero] at h
      omega
    subst this
    rfl
  | n + 1, k, h => by
    have e : insT (n + 1) = step (insT n) bins := strs_next bins n
    rw [Nat.pow_succ] at h
    rw [e, step_at _ _ (by rw [insT_len]; omega), binNum_snoc, place_at n (k / 2) (by omega)]
    omega
theorem ins_inj {n i k : Nat} (hi : i < 2 ^ n) (hk : k < 2 ^ n) (h : (insT n).getD i [] = (insT n).getD k []) : i = k := by
  rw [← place_at n i hi, h, place_at n k hk]
/-- the answer at the k-th text is the k-th sign -/
theorem ans_at {n k : Nat} (hk : k < 2 ^ n) (l : List Nat) : ansV l ((insT n).getD k []) = if l.getD k 0 = 49 then 1 else 0 := by
  unfold ansV
  rw [place_at n k hk]
theorem tx_inj {a b : List Nat} (h : tx a = tx b) : a = b := by
  rw [← tx_list a, h, tx_list]
/-- a text is a yes input just where its sign is 1 -/
theorem in_at {n k : Nat} (hn : n ≤ 6) (hk : k < 2 ^ n) {l : List Nat} (hl : l.length = 2 ^ n) : inQ l (.str (tx ((insT n).getD k []))) = decide (l.getD k 0 = 49) := by
  show ((yesT l).any fun z => decide (z = tx ((insT n).getD k []))) = _
  unfold yesT
  rw [many_pow hn hl, ins_is, insT_len, hl, Nat.min_self, List.any_map, Bool.eq_iff_iff, List.any_eq_true, decide_eq_true_eq]
  constructor
  · rintro ⟨i, hi, e⟩
    obtain ⟨h1, h2⟩ := List.mem_filter.mp hi
    have h1 := List.mem_range.mp h1
    have e := tx_inj (of_decide_eq_true e)
    rw [← ins_inj h1 hk e]
    exact chr_one.mp (of_decide_eq_true h2)
  · intro h
    exact ⟨k, List.mem_filter.mpr ⟨List.mem_range.mpr hk, decide_eq_true (chr_one.mpr h)⟩, decide_eq_true rfl⟩
/-! ### the last of a list; longer texts shown; values that are no inputs -/
theorem ov_ixLast {K : PySem.W.Frag} {p : HD} {c : PC} {g : G} {ds : List D} {d : D} (h : ds.getLast? = some d) : OV K p (rIx K) (.lst g ds) (.int (-1)) d false c := fun v u H Q dv du hp k => by
  cases dv with
  | lst _ hq r =>
    cases du
    rename_i xs _
    have hl := r.length
    have hne : ds ≠ [] := by
      rintro rfl
      cases h
    have hx : xs ≠ [] := by
      rintro rfl
      exact hne (List.length_eq_zero_iff.mp hl.symm)
    have e1 := List.dropLast_concat_getLast hx
    have a1 : atI xs (-1) = some (xs.getLast hx) := by
      have := atI_last xs.dropLast (xs.getLast hx)
      rw [e1] at this
      exact this
    obtain ⟨w, h1, h2⟩ := r.get (i := ds.length - 1) (d := d) (by
      rw [← h, List.getLast?_eq_getElem?])
    have e2 : w = xs.getLast hx := by
      rw [← hl] at h1
      rw [List.getElem?_eq_getElem (by have := List.length_pos_iff.mpr hx; omega)] at h1
      rw [List.getLast_eq_getElem]
      exact (Option.some.inj h1).symm
    rw [e2] at h2
    exact .inl ⟨_, _, -1, _, rfl, rfl, un_sqL hq, a1, k _ H (Ext.refl p H) hp h2 fun q => nomatch q⟩
theorem mulOk_small {z : Str} {n : Nat} (h1 : z.length = 1) (hn : n ≤ 1000) : MulOk z ((n : Nat) : Int) := by
  refine ⟨?_, fun a b => ?_, fun a b => ?_⟩
  · rw [decide_eq_false (by omega), decide_eq_false (by omega)]
    rfl
  · rw [h1]
    have : ∀ k : Nat, 1 ≤ k → k ≤ 1000 → ¬ (((1 : Nat) : Int) > (2 ^ 63 - 1) / ((k : Nat) : Int)) := fun k h1 h2 => by
      have : (1 : Int) ≤ (2 ^ 63 - 1) / ((k : Nat) : Int) := (Int.le_ediv_iff_mul_le (by omega)).mpr (by omega)
      omega
    exact this n (by omega) hn
  · rw [h1]
    exact decide_eq_false (Nat.not_lt.mpr (sz_le (by omega)))
theorem tiny_long {l : List Nat} {n : Nat} (hl : l.length ≤ n) (h : ∀ m ∈ l, m < 0x110000) : Tiny n 0 (.str (tx l)) := by
  have ok : PyData.strOk (tx l) = true := by
    unfold PyData.strOk tx
    simpa using h
  exact ⟨rfl, by unfold toPy PyData.showable; rfl, by unfold toPy PyData.canLay0; exact ok, by unfold toPy PyData.intsShort; rfl, by
    unfold toPy PyData.weight
    have := tx_len l
    exact Nat.le_trans (Nat.le_of_eq this) hl, by unfold toPy PyData.depth; exact Nat.le_refl _, by unfold toPy PyData.hasDict; rfl⟩
def shB (d : D) : Bool := okD (toPy d).hasDict d && ((toPy d).showable && (decide ((toPy d).depth ≤ 60) && decide ((toPy d).shown.length ≤ sizeLine)))
theorem shB_of {d : D} (h : shB d = true) : Shows d := by
  obtain ⟨h1, h⟩ := Bool.and_eq_true_iff.mp h
  obtain ⟨h2, h⟩ := Bool.and_eq_true_iff.mp h
  obtain ⟨h3, h4⟩ := Bool.and_eq_true_iff.mp h
  exact ⟨h1, h2, of_decide_eq_true h3, of_decide_eq_true h4⟩
/-- what the law does with any value -/
structure Val (d : D) : Prop where
  fit : Fit d
  low : ∀ n, lowD n d = true
  cp : ∀ l, d = .str (tx l) → ∀ n ∈ l, n < 0x110000
  sh : ∀ s ∈ (["none", "made", "pattern"] : List Str), Shows (.lst ⟨true, true⟩ [.str s, d])
theorem str_eq {l : List Nat} {s : Str} (h : D.str s = .str (tx l)) : l = s.cps.toList := by
  injection h with h
  rw [h, tx_list]
def valB (d : D) : Bool := (tyD d).isSome && ((match d with | .str s => decide (s.length ≤ 100) && s.cps.toList.all (fun n => decide (n < 0x110000)) | _ => true) && (["none", "made", "pattern"] : List Str).all fun s => shB (.lst ⟨true, true⟩ [.str s, d]))
theorem val_of {d : D} (h : valB d = true) (lo : ∀ n, lowD n d = true) : Val d := by
  obtain ⟨h1, h⟩ := Bool.and_eq_true_iff.mp h
  obtain ⟨h2, h3⟩ := Bool.and_eq_true_iff.mp h
  refine ⟨⟨Option.isSome_iff_exists.mp h1, fun l e => ?_⟩, lo, fun l e n hn => ?_, fun s hs => shB_of (List.all_eq_true.mp h3 s hs)⟩
  · subst e
    obtain ⟨a, b⟩ := Bool.and_eq_true_iff.mp h2
    have := of_decide_eq_true a
    rw [tx_len] at this
    omega
  · subst e
    obtain ⟨a, b⟩ := Bool.and_eq_true_iff.mp h2
    rw [tx_list] at b
    exact of_decide_eq_true (List.all_eq_true.mp b n hn)
theorem low_odd : ∀ d ∈ oddL, ∀ n, lowD n d = true := fun d hd n => by
  simp only [oddL, List.mem_cons, List.not_mem_nil, or_false] at hd
  rcases hd with rfl | rfl | rfl | rfl | rfl | rfl | rfl | rfl | rfl | rfl | rfl | rfl | rfl | rfl <;> rfl
theorem odd_mem (x : Pl) : oddV x ∈ oddL := by
  have h := drawV_in (c := x) (show (0 : Int) < 14 by decide)
  unfold oddV
  have hl : (drawV x 14).toNat < oddL.length := by show _ < 14; omega
  rw [List.getD_eq_getElem?_getD, List.getElem?_eq_getElem hl]
  exact List.getElem_mem _
theorem odd_val (x : Pl) : Val (oddV x) := by
  have all : oddL.all valB = true := by decide +kernel
  exact val_of (List.all_eq_true.mp all _ (odd_mem x)) (low_odd _ (odd_mem x))
theorem smw : ∀ s ∈ (["none", "made", "pattern"] : List Str), smallD (.str s) = true := by decide +kernel
theorem txt_val {l : List Nat} (hl : l.length ≤ 1000) (h : ∀ m ∈ l, m < 0x110000) : Val (.str (tx l)) := by
  refine ⟨⟨⟨_, rfl⟩, fun l' e => ?_⟩, fun _ => rfl, fun l' e => ?_, fun s hs => (tiny_long hl h).one (smw s hs) (by omega) (by omega) (by omega)⟩
  · rw [str_eq e, tx_list]
    exact hl
  · rw [str_eq e, tx_list]
    exact h
theorem lst_val {g : G} {ws : List (List Nat)} (hl : ws.length ≤ 100) (h : ∀ t ∈ ws, t.length ≤ 100 ∧ ∀ m ∈ t, m < 0x110000) : Val (.lst g (wD ws)) := by
  have t : Tiny ((100 + 1) * 100 + 10) 1 (.lst g (wD ws)) := Tiny.lst (w := 100) (k := 0) (n := 100) (fun d hd => by
    obtain ⟨t, ht, rfl⟩ := List.mem_map.mp hd
    exact tiny_long (h t ht).1 (h t ht).2) (by rw [wD_len]; exact hl)
  refine ⟨⟨⟨_, rfl⟩, (fun l' e => nomatch e)⟩, (fun n => ?_), (fun l' e => nomatch e), fun s hs => t.one (smw s hs) (by omega) (by omega) (by omega)⟩
  show lowDs n (wD ws) = true
  clear hl h t
  unfold wD
  induction ws with
  | nil => rfl
  | cons a r ih => exact ih
/-- a value that is no input of so many positions -/
structure Bad (l : List Nat) (d : D) : Prop where
  v : Val d
  ok : okIn l d = false
  inq : inQ l d = false
theorem bad_of {n : Nat} (hn : n ≤ 6) {l : List Nat} (hl : l.length = 2 ^ n) {d : D} (v : Val d) (h : isW bins d = false ∨ (cds d).length ≠ n) : Bad l d := by
  have em := many_pow hn hl
  refine ⟨v, ?_, ?_⟩
  · unfold okIn
    rw [em]
    rcases h with h | h
    · rw [h]
      rfl
    · rw [decide_eq_false (by omega), Bool.and_false]
  · cases hq : inQ l d with
    | false => rfl
    | true =>
      exfalso
      unfold inQ at hq
      obtain ⟨h1, h2⟩ := Bool.and_eq_true_iff.mp hq
      cases d with
      | str s =>
        obtain ⟨z, hz, e⟩ := List.any_eq_true.mp h2
        have e := of_decide_eq_true e
        subst e
        have hz' : D.str z ∈ yesL l := by
          rw [yes_eq]
          exact List.mem_map.mpr ⟨z, hz, rfl⟩
        obtain ⟨i, hi⟩ := List.getElem?_of_mem hz'
        obtain ⟨t, ht, e⟩ := yes_at hn hl hi
        have lt := strs_all bins n t ht
        rw [e, cds_tx] at h
        rcases h with h | h
        · have : isW bins (.str (tx t)) = true := by
            unfold isW
            rw [cds_tx, decide_eq_true (by omega)]
            exact Bool.and_eq_true_iff.mpr ⟨rfl, Bool.and_eq_true_iff.mpr ⟨rfl, List.all_eq_true.mpr fun m hm => decide_eq_true (insT_mem ht m hm)⟩⟩
          rw [this] at h
          cases h
        · exact h lt
      | _ => cases h1
theorem odd_bad {n : Nat} (hn : n ≤ 6) {l : List Nat} (hl : l.length = 2 ^ n) (x : Pl) : Bad l (oddV x) := by
  refine bad_of hn hl (odd_val x) ?_
  left
  have all : oddL.all (fun d => !isW bins d) = true := by decide +kernel
  have := List.all_eq_true.mp all _ (odd_mem x)
  simpa using this
def othersL (n : Nat) : List D := if n = 0 then [.str (tx [45]), .str (tx [50])] else [.str (tx (List.replicate n [45]).flatten), .str (tx (((insT n).getLastD []).drop 1))]
def valsL (x : Pl) (n : Nat) : List D := [oddV x, .str (tx (List.replicate (n + 1) [48]).flatten), .lst ⟨false, true⟩ (wD (insT n))] ++ othersL n
theorem flat_rep (n a : Nat) : (List.replicate n [a]).flatten = List.replicate n a := by
  induction n with
  | zero => rfl
  | succ n ih => rw [List.replicate_succ, List.flatten_cons, ih, List.replicate_succ]; rfl
theorem last_mem {n : Nat} : (insT n).getLastD [] ∈ insT n := by
  have hl := insT_len n
  have hp : 0 < 2 ^ n := Nat.pow_pos (by decide)
  cases e : insT n with
  | nil =>
    rw [e] at hl
    simp at hl
    omega
  | cons a r =>
    rw [List.getLastD_cons]
    cases r with
    | nil => exact List.mem_cons_self
    | cons b r =>
      rw [List.getLastD_cons, ← List.getLast_eq_getLastD (a := b) (l := r) (h := List.cons_ne_nil _ _)]
      exact List.mem_cons_of_mem _ (List.getLast_mem _)
theorem vals_bad {n : Nat} (hn : n ≤ 6) {l : List Nat} (hl : l.length = 2 ^ n) (x : Pl) : ∀ d ∈ valsL x n, Bad l d := fun d hd => by
  unfold valsL at hd
  rcases List.mem_append.mp hd with hd | hd
  · simp only [List.mem_cons, List.not_mem_nil, or_false] at hd
    rcases hd with rfl | rfl | rfl
    · exact odd_bad hn hl x
    · rw [flat_rep]
      refine bad_of hn hl (txt_val (by rw [List.length_replicate]; omega) fun m hm => ?_) (.inr ?_)
      · rw [List.eq_of_mem_replicate hm]
        decide
      · rw [cds_tx, List.length_replicate]
        omega
    · refine bad_of hn hl (lst_val ?_ fun t ht => ⟨?_, bin_low (insT_mem ht)⟩) (.inl rfl)
      · rw [insT_len]
        have : 2 ^ n ≤ 2 ^ 6 := Nat.pow_le_pow_right (by decide) hn
        have e : (2 : Nat) ^ 6 = 64 := by decide
        omega
      · rw [strs_all bins n t ht]
        omega
  · unfold othersL at hd
    split at hd
    · rename_i h0
      simp only [List.mem_cons, List.not_mem_nil, or_false] at hd
      rcases hd with rfl | rfl
      · exact bad_of hn hl (txt_val (by decide) (by decide)) (.inr (by rw [cds_tx, h0]; decide))
      · exact bad_of hn hl (txt_val (by decide) (by decide)) (.inr (by rw [cds_tx, h0]; decide))
    · rename_i h0
      simp only [List.mem_cons, List.not_mem_nil, or_false] at hd
      rcases hd with rfl | rfl
      · rw [flat_rep]
        refine bad_of hn hl (txt_val (by rw [List.length_replicate]; omega) fun m hm => ?_) (.inl ?_)
        · rw [List.eq_of_mem_replicate hm]
          decide
        · cases n with
          | zero => exact absurd rfl h0
          | succ n =>
            unfold isW
            rw [cds_tx, List.replicate_succ, List.all_cons]
            have e : decide (45 ∈ bins) = false := by decide
            rw [e, Bool.false_and, Bool.and_false, Bool.and_false]
      · have ht := last_mem (n := n)
        have lt := strs_all bins n _ ht
        refine bad_of hn hl (txt_val (by rw [List.length_drop, lt]; omega) fun m hm => bin_low (insT_mem ht) m (List.mem_of_mem_drop hm)) (.inr ?_)
        rw [cds_tx, List.length_drop, lt]
        omega
end K41

/-! what the head leaves of a class, of defaults, of a tuple at the top -/
namespace LA
open PySem PySem.Spec PyProof.Rows L2
/-- a def with one default, an int -/
structure Gd (K : PySem.W.Frag) (x : Str) (st : Stmt) (i : Int) : Prop where
  ex : ∃ f fd, PySem.W.nsIn K mainGlobals x = some (some (.ref f)) ∧ FunD K x x (defArgs st) (defBody st) (defScope st) [.int i] [] f fd
theorem gd_mk {K : PySem.W.Frag} {x : Str} {st : Stmt} {i : Int} {f T : Addr} {oc kV dc pm cd ct oc2 : Value} {od an od2 : Option Addr} {sl sl2 : Array (Option Value)} {tk : Tok} {n : Nat} (a : PySem.W.nsIn K mainGlobals x = some (some (.ref f)))
    (l : K.lookup f = some ⟨oc, od, .func (PySem.W.fnOf x x (defArgs st) (defBody st) (defScope st) (.ref T) kV dc pm an cd ct), sl⟩) (lT : K.lookup T = some ⟨oc2, od2, .seq #[.int i tk] n, sl2⟩) (c : PySem.W.codeIn K cd x = true) (k : PySem.W.keepIn K (.ref f) = true) : Gd K x st i :=
  ⟨⟨f, _, a, ⟨⟨oc, od, .ref T, kV, dc, pm, an, cd, ct, sl, rfl, l, c, .inr ⟨by simp, T, _, [.int i tk], n, rfl, lT, rfl, .cons ⟨tk, rfl⟩ .nil⟩, .inl rfl⟩, k⟩⟩⟩
/-- a method -/
structure Gm (K : PySem.W.Frag) (C : Addr) (m q : Str) (st : Stmt) : Prop where
  ex : ∃ f fd, PySem.W.findIn K (.ref C) m = some (some (.ref f)) ∧ PySem.W.isFn K (.ref f) = true ∧ PySem.W.fnIn K f = true ∧ Fun K m q st f fd
theorem gm_mk {K : PySem.W.Frag} {C : Addr} {m q : Str} {st : Stmt} {f : Addr} {oc kV dc pm cd ct : Value} {od an : Option Addr} {sl : Array (Option Value)} (a : PySem.W.findIn K (.ref C) m = some (some (.ref f))) (i : PySem.W.isFn K (.ref f) = true)
    (l : K.lookup f = some ⟨oc, od, .func (PySem.W.fnOf m q (defArgs st) (defBody st) (defScope st) .none kV dc pm an cd ct), sl⟩) (c : PySem.W.codeIn K cd q = true) (k : PySem.W.keepIn K (.ref f) = true) : Gm K C m q st :=
  ⟨f, _, a, i, by unfold PySem.W.fnIn; rw [l], fun_mk l c k⟩
/-- a property -/
structure Gp (K : PySem.W.Frag) (C : Addr) (m q : Str) (st : Stmt) : Prop where
  ex : ∃ p g fd, PropOf K C m p g ∧ Fun K m q st g fd
theorem gp_mk {K : PySem.W.Frag} {C : Addr} {m q : Str} {st : Stmt} {p g : Addr} {rest : List Value} {oc kV dc pm cd ct : Value} {od an : Option Addr} {sl : Array (Option Value)} (a : PySem.W.findIn K (.ref C) m = some (some (.ref p))) (s : PySem.W.specialIn K (.ref p) "__get__" = some (some (.builtin "property.__get__"))) (t : PySem.W.takesIn K (.ref p) = some true) (r : PySem.W.recIn K p "property" = some (.ref g :: rest))
    (l : K.lookup g = some ⟨oc, od, .func (PySem.W.fnOf m q (defArgs st) (defBody st) (defScope st) .none kV dc pm an cd ct), sl⟩) (c : PySem.W.codeIn K cd q = true) (k : PySem.W.keepIn K (.ref g) = true) : Gp K C m q st :=
  ⟨p, g, _, ⟨a, s, t, rest, r⟩, fun_mk l c k⟩
/-- a class -/
structure Gc (K : PySem.W.Frag) (x q : Str) (st : Stmt) (C : Addr) : Prop where
  ns : PySem.W.nsIn K mainGlobals x = some (some (.ref C))
  cl : Cls K C
  ini : ∃ f fd, Mk K C f ∧ Fun K "__init__" q st f fd
theorem gc_mk {K : PySem.W.Frag} {x q : Str} {st : Stmt} {C f : Addr} {oc kV dc pm cd ct : Value} {od an : Option Addr} {sl : Array (Option Value)} (ns : PySem.W.nsIn K mainGlobals x = some (some (.ref C)))
    (pg : PySem.W.plainGet K C Str.empty = true) (hd : PySem.W.hasDictIn K C = true) (po : PySem.W.plainOver K C = true) (sa : PySem.W.findIn K (.ref C) "__setattr__" = some (some (.builtin "object.__setattr__"))) (mk : PySem.W.makesIn K C = true) (a : PySem.W.findIn K (.ref C) "__init__" = some (some (.ref f))) (i : PySem.W.isFn K (.ref f) = true) (kc : PySem.W.keepIn K (.ref C) = true)
    (l : K.lookup f = some ⟨oc, od, .func (PySem.W.fnOf "__init__" q (defArgs st) (defBody st) (defScope st) .none kV dc pm an cd ct), sl⟩) (c : PySem.W.codeIn K cd q = true) (k : PySem.W.keepIn K (.ref f) = true) : Gc K x q st C :=
  ⟨ns, ⟨pg, hd, po, sa⟩, f, _, ⟨mk, a, i, kc⟩, fun_mk l c k⟩
theorem kit_self {K : PySem.W.Frag} {C : Addr} : PySem.W.kitOne K (.ref C) (.ref C) = some true := by
  unfold PySem.W.kitOne
  rw [if_pos (by simp)]
/-- isinstance, == and != of its objects -/
structure Gi (K : PySem.W.Frag) (C : Addr) : Prop where
  ha : PySem.W.findIn K (.ref C) "__class__" = some (some (.builtin "object.__class__"))
  hn : PySem.W.specialIn K (.builtin "object.__class__") "__get__" = some (some (.builtin "getset_descriptor.__get__"))
  htk : PySem.W.takesIn K (.builtin "object.__class__") = some true
  hm : PySem.W.mroIn K C (.type "object") = some true
  ic : PySem.W.isClsIn K C = true
  ty : PySem.W.typeIn K (.ref C) = some (.type "type")
theorem Gi.ins {K : PySem.W.Frag} {C : Addr} (g : Gi K C) (c : Cls K C) : C8.InsC K C := ⟨c, g.ha, g.hn, g.htk, g.hm, kit_self⟩
theorem gi_mk {K : PySem.W.Frag} {C : Addr} (ha : PySem.W.findIn K (.ref C) "__class__" = some (some (.builtin "object.__class__"))) (hn : PySem.W.specialIn K (.builtin "object.__class__") "__get__" = some (some (.builtin "getset_descriptor.__get__"))) (htk : PySem.W.takesIn K (.builtin "object.__class__") = some true) (hm : PySem.W.mroIn K C (.type "object") = some true) (ic : PySem.W.isClsIn K C = true) (ty : PySem.W.typeIn K (.ref C) = some (.type "type")) : Gi K C := ⟨ha, hn, htk, hm, ic, ty⟩
/-- a tuple of ints at the top -/
theorem ct_mk {K : PySem.W.Frag} {x : Str} {T : Addr} {its : Array Value} {n : Nat} {sl : Array (Option Value)} {ns : List Int} (a : PySem.W.nsIn K mainGlobals x = some (some (.ref T))) (l : K.lookup T = some ⟨.type "tuple", none, .seq its n, sl⟩) (z : its.size ≤ sizeLine) (v : Vals (ns.map V.int) its.toList) :
    ∃ (T : Addr) (o : Obj) (its : Array Value) (n : Nat), PySem.W.nsIn K mainGlobals x = some (some (.ref T)) ∧ K.lookup T = some o ∧ o.cls = .type "tuple" ∧ o.dict = none ∧ o.data = .seq its n ∧ its.size ≤ sizeLine ∧ Vals (ns.map V.int) its.toList := ⟨T, _, its, n, a, l, rfl, rfl, rfl, z, v⟩
theorem ctup {K : PySem.W.Frag} {h : Heap} {mg : Str → Option Value} {x : Str} {ns : List Int} (X : K.In h) (G : h.Ns mainGlobals mg) (e : ∃ (T : Addr) (o : Obj) (its : Array Value) (n : Nat), PySem.W.nsIn K mainGlobals x = some (some (.ref T)) ∧ K.lookup T = some o ∧ o.cls = .type "tuple" ∧ o.dict = none ∧ o.data = .seq its n ∧ its.size ≤ sizeLine ∧ Vals (ns.map V.int) its.toList) : CTup K mg x ns := by
  obtain ⟨T, o, its, n, a, l, c, d, s, z, v⟩ := e
  exact ⟨T, o, its, n, PySem.W.mg_of X G a, l, c, d, s, z, v⟩
theorem notF {K : PySem.W.Frag} {C : Addr} {t : String} (h : PySem.W.subIn K (.type t) (.ref C) = some false) : PySem.W.notFirst K C (.type t) = true := by
  unfold PySem.W.notFirst
  rw [h]
  cases (Value.type t == Value.ref C) <;> rfl
theorem kit_of {K : PySem.W.Frag} {C : Addr} {t : String} {b : Bool} (i : PySem.W.isClsIn K C = true) (ty : PySem.W.typeIn K (.ref C) = some (.type "type")) (s : PySem.W.subIn K (.type t) (.ref C) = some b) : PySem.W.kitOne K (.type t) (.ref C) = some b := by
  unfold PySem.W.kitOne
  rw [if_neg (by simp)]
  unfold PySem.W.kitCls
  have i' : (PySem.W.clsIn K C).isSome = true := i
  show (if _ then _ else _) = _
  rw [if_pos (by rw [i', ty]; rfl), s]
theorem vi_nil : Vals (([] : List Int).map V.int) ([] : List Value) := .nil
theorem vi_cons {i : Int} {t : Tok} {ns : List Int} {us : List Value} (h : Vals (ns.map V.int) us) : Vals ((i :: ns).map V.int) (.int i t :: us) := .cons ⟨t, rfl⟩ h
theorem fac {p : Prop} (h : p) : p := h
end LA

/-! methods with keywords; what is assigned raises; error classes of two fields -/
namespace LA
open PySem PySem.Spec PyProof.Rows L2
section
variable {X : Cx} {W : WX} {p : HD} {ρ ρ1 : Rho} {c c1 c2 c3 : PC} {e a b : Expr} {es : List Expr} {pos apos : Pos} {d d1 d2 : D} {n1 n2 nw : Bool} {o o' : EO}
variable {CX : CXT} {k : Nat} {f C g : Addr} {fd : FuncData} {ps : List Str} {R : FSpec} {x m : Str} {xp : Pos} {ds : List D} {fs : List (Str × D)} {sp : Sp}
theorem rs_setX {i : Nat} {x : Str} {pos' : Pos} {C : Addr} {fs : List (Str × D)} (hN : X.N.Nodup) (h : RE X W p ρ c e (.ex C fs c1)) (hi : X.N[i]? = some x := by rfl) (hx : Loc X.env.scope x := by first | exact Or.inl rfl | exact Or.inr rfl) (hs : swapsWith e (some (.Name x pos')) pos.line X.env = pure false := by rfl)
    (hf : X.fn x = true ∨ X.env.scope.names.lookup x = some .local := by first | exact .inl rfl | exact .inr rfl) : RS X W p ρ c (.Assign [.Name x pos'] e pos) (.ex C fs c1) :=
  ps_imp (ps_set hN hi hx h hs hf) fun De σ H q => tS_ex q _
/-- x, y = a, b -/
theorem rs_par (i j : Nat) {x y : Str} {px py pt pt2 : Pos} {kt k2 : Nat} (hc : X.calm = true) (hN : X.N.Nodup) (ha : RA X W p ρ c [a, b] (.val [d1, d2] c1)) (hij : i ≠ j := by decide) (hi : X.N[i]? = some x := by rfl) (hj : X.N[j]? = some y := by rfl) (hx : X.env.scope.names.lookup x = some .local := by rfl) (hy : X.env.scope.names.lookup y = some .local := by rfl)
    (hw : swappedStores [.Tuple [.Name x px, .Name y py] kt pt] (.Tuple [a, b] k2 pt2) X.env = pure (some [x, y]) := by rfl) (hs : swapsWithSole [.Tuple [.Name x px, .Name y py] kt pt] (.Tuple [a, b] k2 pt2) pos.line X.env = pure false := by rfl) :
    RS X W p ρ c (.Assign [.Tuple [.Name x px, .Name y py] kt pt] (.Tuple [a, b] k2 pt2) pos) (.nx ((ρ.set i (some d1)).set j (some d2)) c1) :=
  ps_imp (ps_par hc hN hi hj hij hx hy ha hw hs) fun De σ H ⟨s, k⟩ => ⟨s, fun vs H1 e1 p1 dvs => by
    cases dvs with
    | cons h1 r =>
      cases r with
      | cons h2 r =>
        cases r
        exact ⟨_, _, rfl, k _ H1 e1 (((s.mono e1 p1).set i h1).set j h2)⟩⟩
/-! o.m(k = v) -/
def tMethKS (m : Str) (C : Addr) (n : Nat) (sp : Sp) (gV : List V → List V → List V) (E : L2.St → XK) (ta : TE) (tk : TA) : TE := fun σ H Q => ta σ H fun x H1 => ∃ y dx fv, x = .ref y ∧ H1 y = some (.ins C dx fv) ∧ fv.lookup m = none ∧ tk σ H1 fun zs H2 => zs.length = n ∧ sp (gV [x] zs) H2 Q (E σ)
theorem pe_methKS0 {ks : List Str} {gL : List Value → List Value → List Value} {gV : List V → List V → List V} {pl : Sem Bool} {E : L2.St → XK} {ta : TE} {kws : List Keyword} {tk : TA} (ha : PE X a ta) (cl : Cls X.K C) (hm : Meth X.K C m g) (F : FnOk X.prog X.w X.K X.mg X.base CX k g fd ps sp) (hr : Room k X.A) (hb : KBn X.K fd ps 1 ks gL gV) (hx : ∀ σ, PassesAt CX X σ (E σ))
    (hkw : PK X kws tk) (hall : (backToKw pos (keywordEach kws X.env)).all (·.1.isSome) = true) (hks : (backToKw pos (keywordEach kws X.env)).filterMap (·.1) = ks)
    (ht : eval (.Call (.Attribute a m apos) [] kws pos) X.env = (do
      let ov ← eval a X.env
      standAt apos.atName
      let (f, first) ← holding [ov] (getMethod ov m pl)
      callWith pos f first (backTo pos (starEach [] X.env)) (backToKw pos (keywordEach kws X.env))))
    (hpl : ((backTo pos (starEach [] X.env)).any (·.1) || (backToKw pos (keywordEach kws X.env)).any (·.1.isNone)) = false) :
    PE X (.Call (.Attribute a m apos) [] kws pos) (tMethKS m C ks.length sp gV E ta tk) := ⟨fun pins s σ H Q I h =>
  PySem.W.methodCall_KW (pl := pl) (thn (ha.run pins s σ H _ I h) fun u s1 ⟨x, H1, I1, rx, y, dx, fv, ex, ey, l, q⟩ => by
    subst ex
    obtain rfl : u = Value.ref y := rx
    refine getmeth_ok I1 ey cl hm l (PySem.W.callWith_KW0 (first := [.ref y]) (h₀ := X.base) I.ok.mod.kin hm.kp hall (thn (hkw.run pos pins s1 σ H1 _ I1 q) fun ws s2 ⟨zs, H2, I2, rz, l2, q2⟩ => ⟨I2.kIn, ?_⟩) hpl)
    rw [hks]
    exact run_fnKS (us := [.ref y]) (vs := [.ref y]) F hr hb (hx σ) I2 (.cons rfl .nil) rz rfl l2 q2) ht⟩
theorem re_methK0 {ks : List Str} {gL : List Value → List Value → List Value} {gV : List V → List V → List V} {pl : Sem Bool} {kws : List Keyword} {zs : List D} (tk : Takes X W) (G : FnOk X.prog X.w X.K X.mg X.base (L2.CX X.prog X.w) k g fd ps (spF X.K R)) (hr : Room k X.A) (hb : KBn X.K fd ps 1 ks gL gV) (ha : RE X W p ρ c a (.val (.obj C fs) nw c1)) (cl : Cls X.K C) (hm : Meth X.K C m g) (hn : fs.lookup m = none)
    (hkw : RK X W p ρ c1 kws (.val zs c2)) (hl : zs.length = ks.length) {gD : List D} (hg : ∀ {H : Hp} {vs us : List V}, DVs X.K p H vs [.obj C fs] → DVs X.K p H us zs → DVs X.K p H (gV vs us) gD) (ho : R gD c2 o)
    (ht : eval (.Call (.Attribute a m apos) [] kws pos) X.env = (do
      let ov ← eval a X.env
      standAt apos.atName
      let (f, first) ← holding [ov] (getMethod ov m pl)
      callWith pos f first (backTo pos (starEach [] X.env)) (backToKw pos (keywordEach kws X.env))) := by rfl)
    (hall : (backToKw pos (keywordEach kws X.env)).all (·.1.isSome) = true := by rfl) (hks : (backToKw pos (keywordEach kws X.env)).filterMap (·.1) = ks := by rfl)
    (hpl : ((backTo pos (starEach [] X.env)).any (·.1) || (backToKw pos (keywordEach kws X.env)).any (·.1.isNone)) = false := by rfl) :
    RE X W p ρ c (.Call (.Attribute a m apos) [] kws pos) o :=
  pe_imp (pe_methKS0 ha cl hm G hr hb (fun σ => passAt tk σ) hkw hall hks ht hpl) fun σ H Q h => ⟨tE_sr h, fun v H1 e1 p1 dv _ => by
    cases dv with
    | obj hh r =>
      refine ⟨_, _, _, rfl, (hide_some hh).1, DVf.gone r hn, (tE_sr h).mono e1 p1, fun us H2 e2 p2 dvs => ⟨by rw [dvs.length]; exact hl, p, c2, gD, o, hg (.cons ((DV.obj hh r).mono e2) .nil) dvs, p2, ho, fo_at h (e1.trans e2)⟩⟩⟩
/-! ### error classes of two fields -/
structure Err2 (P : Program) (w : World) (K : PySem.W.Frag) (mg : Str → Option Value) (base : Heap) (x f g : Str) (C : Addr) : Prop where
  ox : OexC K C
  xf : XfC K C
  no : PySem.W.findIn K (.ref C) f = some none
  no2 : PySem.W.findIn K (.ref C) g = some none
  ini : ∃ i fd pn pm, PySem.W.findIn K (.ref C) "__init__" = some (some (.ref i)) ∧ PySem.W.typeIn K (.ref i) = some (.type "function") ∧ FnOk P w K mg base CX0 1 i fd ["self", pn, pm] (spIni2 K f g) ∧ Binds K fd ["self", pn, pm] []
  mg : mg x = some (.ref C)
theorem rs_raiseG2 {e2 : Expr} {pos2 : Pos} {x f g : Str} {C : Addr} (hc : X.calm = true) (tk : Takes X W) (E : Err2 X.prog X.w X.K X.mg X.base x f g C) (hr : Room 2 X.A) (he : RE X W p ρ c e (.val d n1 c1)) (he2 : RE X W p ρ c1 e2 (.val d2 n2 c2)) (hg : Gl X x := by rfl)
    (hdb : (x == ("__debug__" : Str)) = false := by decide) (hs : starEach (e :: [e2]) X.env = (false, eval e X.env) :: starEach [e2] X.env := by rfl) (hs2 : starEach (e2 :: []) X.env = (false, eval e2 X.env) :: starEach [] X.env := by rfl) (hpl : (backTo pos (starEach [e2] X.env)).any (·.1) = false := by rfl) :
    RS X W p ρ c (.Raise (some (.Call (.Name x xp) [e, e2] [] pos)) none pos2) (.ex C [(g, d2), (f, d)] c2) := by
  obtain ⟨i, fd, pn, pm, h1, h2, h3, h4⟩ := E.ini
  exact rs_raise2 hc tk E.ox E.no E.no2 h1 h2 h3 hr h4 E.mg he he2 hg hdb hs hs2 hpl
end
section
variable {P : Program} {w : World} {K : PySem.W.Frag} {mg : Str → Option Value} {base h : Heap} {x : Str} {st : Stmt}
theorem err2 {q f g pn pm : Str} {C : Addr} {q1 q2 q3 q4 r1 r2 r3 r4 : Pos} (X : K.In h) (G : h.Ns mainGlobals mg) (ge : Ge K x q st C) (no : PySem.W.findIn K (.ref C) f = some none) (no2 : PySem.W.findIn K (.ref C) g = some none) (S : FnScope ["self", pn, pm] ["self", pn, pm] (defScope st))
    (hb : defBody st = [.Assign [.Attribute (.Name "self" q1) f q2] (.Name pn q3) q4, .Assign [.Attribute (.Name "self" r1) g r2] (.Name pm r3) r4])
    (h1 : (pn == ("__debug__" : Str)) = false) (h2 : (pn == ("__classdict__" : Str)) = false) (h3 : (pm == ("__debug__" : Str)) = false) (h4 : (pm == ("__classdict__" : Str)) = false)
    (hbd : ∀ (kV doc pm' : Value) (an : Option Addr) (cdv ct : Value) (us : List Value), us.length = (["self", pn, pm] : List Str).length → bindArgs (PySem.W.fnOf "__init__" q (defArgs st) (defBody st) (defScope st) .none kV doc pm' an cdv ct) ⟨us, []⟩ = pure ((["self", pn, pm] : List Str).zip us)) : Err2 P w K mg base x f g C := by
  obtain ⟨f1, fd, i1, t1, F⟩ := ge.ini
  exact ⟨ge.ox, ge.xf, no, no2, ⟨f1, fd, pn, pm, i1, t1, ok_ini2 F S hb h1 h2 h3 h4, F.binds hbd⟩, PySem.W.mg_of X G ge.ns⟩
theorem kbn_of {x q : Str} {st : Stmt} {f : Addr} {fd : FuncData} {ps : List Str} {n : Nat} {ks : List Str} {g : List Value → List Value → List Value} {gV : List V → List V → List V} (F : Fun K x q st f fd)
    (hb : ∀ (kV doc pm : Value) (an : Option Addr) (cdv ct : Value) (us ws : List Value), us.length = n → ws.length = ks.length → bindArgs (PySem.W.fnOf x q (defArgs st) (defBody st) (defScope st) .none kV doc pm an cdv ct) ⟨us, ks.zip ws⟩ = pure (ps.zip (g us ws)))
    (hv : ∀ {vs : List V} {us : List Value} {zs : List V} {ws : List Value}, Vals vs us → Vals zs ws → Vals (gV vs zs) (g us ws)) : KBn K fd ps n ks g gV := by
  refine ⟨fun s us ws _ h1 h2 => ?_, hv⟩
  obtain ⟨oc, od, kV, doc, pm, an, cdv, ct, osl, rfl, _⟩ := F.ex
  exact .of_eq (hb kV doc pm an cdv ct us ws h1 h2)
theorem vals_app : ∀ {vs : List V} {us : List Value} {zs : List V} {ws : List Value}, Vals vs us → Vals zs ws → Vals (vs ++ zs) (us ++ ws)
  | _, _, _, _, .nil, h => h
  | _, _, _, _, .cons a r, h => .cons a (vals_app r h)
end
end LA

namespace K41
open PySem PySem.Spec PyProof.Rows L2 LA
/-! ### patterns -/
theorem chr_eq {a n : Nat} : (chr1 a = chr1 n) ↔ a = n := by
  constructor
  · intro h
    have : (chr1 a).cps.toList = (chr1 n).cps.toList := by rw [h]
    simpa [chr1] using this
  · rintro rfl
    rfl
def chc (a : Nat) : List Nat := if a = 45 then bins else [a]
def fitW (m : List Nat) : List (List Nat) := wordsV [[]] (m.map chc)
def okPat (l : List Nat) (d : D) : Bool := isW pats d && decide (((cds d).length : Int) = (manyOf l : Nat))
def patOfR (B : Addr) : FSpec := fun ds c o => ∃ d n, ds = [d, .int n] ∧ Fit d ∧ o = if isW pats d && decide (((cds d).length : Int) = n) then .val .non true c else .ex B [("given", d)] c
def chkR (B : Addr) : FSpec := fun ds c o => ∃ d, ds = [d] ∧ Fit d ∧ o = if isW pats d then .val .non true c else .ex B [("given", d)] c
def fitR : FSpec := fun ds c o => ∃ m, ds = [.str (tx m)] ∧ m.length ≤ 6 ∧ (∀ a ∈ m, a ∈ pats) ∧ o = .val (.lst ⟨decide (m.length = 0), true⟩ (wD (fitW m))) false c
theorem pats_is : pats = [45, 48, 49] := by decide
theorem pat_of {a : Nat} (h : a ∈ pats) : a = 45 ∨ a ∈ bins := by
  rw [pats_is] at h
  rw [bins_is]
  simp at h ⊢
  omega
theorem chc_bin {a : Nat} (h : a ∈ pats) : ∀ n ∈ chc a, n ∈ bins := fun n hn => by
  unfold chc at hn
  split at hn
  · exact hn
  · rename_i h0
    rw [List.mem_singleton.mp hn]
    exact (pat_of h).resolve_left h0
theorem chc_len (a : Nat) : (chc a).length ≤ 3 := by
  unfold chc
  split
  · decide
  · show 1 ≤ 3
    decide
theorem str_fit {l : List Nat} (h : l.length ≤ 1000) : Fit (.str (tx l)) := ⟨⟨_, rfl⟩, fun l' e => by rw [str_eq e, tx_list]; exact h⟩
section
variable {P : Program} {w : World} {K : PySem.W.Frag} {mg : Str → Option Value} {base : Heap} {B BP US C BT : Addr}
abbrev IsPatD (P : Program) (w : World) (K : PySem.W.Frag) (mg : Str → Option Value) (base : Heap) := Def0 P w K mg base 2 "is_pattern" ["value"] (isInR "-01")
theorem ok_isPat {f : Addr} {fd : FuncData} (T : WordD P w K mg base) (F : Fun K "is_pattern" "is_pattern" (top 15) f fd) : FnOk P w K mg base CX0 2 f fd ["value"] (spF K (isInR "-01")) := by
  refine fn_val F (N := ["value"]) ⟨rfl, rfl, rfl, by decide +kernel, rfl, by decide +kernel, by decide +kernel⟩ (fun ds c o h => ?_) (fun ds c o h => ?_) (fun cdv A outer s H E hr p ds c o h => ?_)
  · obtain ⟨d, rfl, _⟩ := h
    rfl
  · obtain ⟨d, _, _, rfl⟩ := h
    exact ⟨_, _, _, rfl⟩
  · obtain ⟨d, rfl, fd', rfl⟩ := h
    exact .inl (rss_ret (rs_ret (re_c0 T hr (ra_cons (re_var 0) (ra_cons re_str ra_nil)) ⟨d, _, rfl, fd', rfl⟩)))
theorem isW_strA {a : List Nat} {d : D} (h : isW a d = true) : ∃ l, d = .str (tx l) ∧ l.length ≤ 6 ∧ ∀ n ∈ l, n ∈ a := isW_str h
theorem ok_patOf {f : Addr} {fd : FuncData} (G : Glb mg) (T : IsPatD P w K mg base) (Er : Err1 P w K mg base "BadPattern" "given" B) (F : Fun K "check_pattern_of" "check_pattern_of" (top 22) f fd) : FnOk P w K mg base (L2.CX P w) 3 f fd ["pattern", "many"] (spF K (patOfR B)) := by
  refine fn_exc F (N := ["pattern", "many"]) ⟨rfl, rfl, rfl, by decide +kernel, rfl, by decide +kernel, by decide +kernel⟩ (fun ds c o h => ?_) (fun cdv A outer s H E hr p ds c o h tk => ?_)
  · obtain ⟨d, n, rfl, _⟩ := h
    rfl
  · obtain ⟨d, n, rfl, fd', rfl⟩ := h
    have len : isW pats d = true → CV K p (fun xs H Q => ∃ z, xs = [.str z] ∧ z.length ≤ sizeLine ∧ Q (.int z.length) H) [d] (.int (cds d).length) true c := fun hw => by
      obtain ⟨l, rfl, h6, _⟩ := isW_str hw
      rw [cds_tx]
      exact cv_lenT' (by omega)
    cases h : (isW pats d && decide (((cds d).length : Int) = n)) with
    | true =>
      rw [if_pos rfl]
      exact .inr ⟨rfl, _, rss_cons (rs_if (kb := false) (rt_to (rt_not (RW.rt (rw_and (k1 := isW pats d) (k2 := decide (((cds d).length : Int) = n)) (rt_val (re_c0 T hr (ra_cons (re_var 0) ra_nil) ⟨d, rfl, fd', rfl⟩)) fun hk => rw_and1 (rt_cmp op_eq (re_callB call_len_str G.len PySem.boot_len (ra_cons (re_var 0) ra_nil) (len hk)) (re_var 1) ov_eqI)))) (by rw [h]; rfl)) (fun z => nomatch z) fun _ => rss_nil) rss_nil⟩
    | false =>
      rw [if_neg Bool.false_ne_true]
      exact rss_ex (rs_if (kb := true) (rt_to (rt_not (RW.rt (rw_and (k1 := isW pats d) (k2 := decide (((cds d).length : Int) = n)) (rt_val (re_c0 T hr (ra_cons (re_var 0) ra_nil) ⟨d, rfl, fd', rfl⟩)) fun hk => rw_and1 (rt_cmp op_eq (re_callB call_len_str G.len PySem.boot_len (ra_cons (re_var 0) ra_nil) (len hk)) (re_var 1) ov_eqI)))) (by rw [h]; rfl)) (fun _ => rss_ex (rs_raiseG rfl tk Er hr (re_var 0))) fun z => nomatch z)
theorem ok_chk {f : Addr} {fd : FuncData} (T : IsPatD P w K mg base) (Er : Err1 P w K mg base "BadPattern" "given" B) (F : Fun K "_check_pattern" "_check_pattern" (top 26) f fd) : FnOk P w K mg base (L2.CX P w) 3 f fd ["pattern"] (spF K (chkR B)) := by
  refine fn_exc F (N := ["pattern"]) ⟨rfl, rfl, rfl, by decide +kernel, rfl, by decide +kernel, by decide +kernel⟩ (fun ds c o h => ?_) (fun cdv A outer s H E hr p ds c o h tk => ?_)
  · obtain ⟨d, rfl, _⟩ := h
    rfl
  · obtain ⟨d, rfl, fd', rfl⟩ := h
    cases h : isW pats d with
    | true =>
      rw [if_pos rfl]
      exact .inr ⟨rfl, _, rss_cons (rs_if (kb := false) (rt_not (rt_val (re_c0 (d := .bl true) T hr (ra_cons (re_var 0) ra_nil) ⟨d, rfl, fd', by rw [← h]; rfl⟩))) (fun z => nomatch z) fun _ => rss_nil) rss_nil⟩
    | false =>
      rw [if_neg Bool.false_ne_true]
      exact rss_ex (rs_if (kb := true) (rt_not (rt_val (re_c0 (d := .bl false) T hr (ra_cons (re_var 0) ra_nil) ⟨d, rfl, fd', by rw [← h]; rfl⟩))) (fun _ => rss_ex (rs_raiseG rfl tk Er hr (re_var 0))) fun z => nomatch z)
abbrev PatOfD (P : Program) (w : World) (K : PySem.W.Frag) (mg : Str → Option Value) (base : Heap) (B : Addr) := Def1 P w K mg base 3 "check_pattern_of" ["pattern", "many"] (patOfR B)
abbrev ChkD (P : Program) (w : World) (K : PySem.W.Frag) (mg : Str → Option Value) (base : Heap) (B : Addr) := Def1 P w K mg base 3 "_check_pattern" ["pattern"] (chkR B)
abbrev FitD (P : Program) (w : World) (K : PySem.W.Frag) (mg : Str → Option Value) (base : Heap) := Def0 P w K mg base 4 "fitting" ["pattern"] fitR
abbrev nFit : List Str := ["pattern", "letter"]
theorem scFit : FnScope nFit ["pattern"] (defScope (top 18)) := ⟨rfl, rfl, rfl, by decide +kernel, rfl, by decide +kernel, by decide +kernel⟩
theorem ok_fit {f : Addr} {fd : FuncData} (T : ChkD P w K mg base B) (TW : WordsD P w K mg base) (F : Fun K "fitting" "fitting" (top 18) f fd) : FnOk P w K mg base CX0 4 f fd ["pattern"] (spF K fitR) := by
  refine fn_val F scFit (fun ds c o h => ?_) (fun ds c o h => ?_) (fun cdv A outer s H E hr p ds c o h => ?_)
  · obtain ⟨m, rfl, _⟩ := h
    rfl
  · obtain ⟨m, _, _, _, rfl⟩ := h
    exact ⟨_, _, _, rfl⟩
  · obtain ⟨m, rfl, h6, hp, rfl⟩ := h
    have ok : isW pats (.str (tx m)) = true := by
      unfold isW
      rw [cds_tx, decide_eq_true (by omega)]
      exact Bool.and_eq_true_iff.mpr ⟨rfl, Bool.and_eq_true_iff.mpr ⟨rfl, List.all_eq_true.mpr fun n hn => decide_eq_true (hp n hn)⟩⟩
    refine .inl (rss_cons (rs_expr (re_c1 (o := .val .non true c) takes0 T hr (ra_cons (re_var 0) ra_nil) ⟨_, rfl, str_fit (by omega), by rw [ok, if_pos rfl]⟩)) ?_)
    have key : (List.range (chars (tx m)).length).map (fun i => D.str (tx (chc (m.getD i 0)))) = wD (m.map chc) := by
      rw [signs_len, LA.range_get m fun a => D.str (tx (chc a))]
      unfold wD
      rw [List.map_map]
      rfl
    refine rss_ret (rs_ret (re_c0 (ds := [.lst ⟨false, true⟩ (wD (m.map chc))]) TW (hr.mono (by decide)) (ra_cons (nw := true) ?_ ra_nil) ⟨⟨false, true⟩, m.map chc, rfl, by rw [List.length_map]; exact h6, fun l hl => by
      obtain ⟨a, _, rfl⟩ := List.mem_map.mp hl
      exact chc_len a, by rw [List.length_map]; rfl⟩))
    rw [← key]
    refine re_lcA (own := [("letter", 1)]) (g := gName 1) _ (fun _ => c) (fun i => [some (.str (tx m)), some (.str (chr1 (m.getD i 0)))]) (fun _ => false) rfl scFit.nd (ri_str (re_var 0)) (blkOk_by (N := nFit) (sc := defScope (top 18)) (by decide +kernel)) (fun _ _ _ _ _ => pg_name (i := 1) scFit.nd rfl (Or.inl rfl)) (fun i d h => ?_) (fun i d h q s H C cl fp => ?_) (by rw [signs_len]; omega)
    · obtain ⟨rfl, _⟩ := signs_at h
      exact tg_name (by decide)
    · refine re_if (k := decide (m.getD i 0 = 45)) (rt_to (rt_cmp op_eq (re_var 1) re_str ov_eqT) (decide_eq_decide.mpr (chr_eq (n := 45)))) (fun hk => ?_) fun hk => ?_
      · have e : chc (m.getD i 0) = bins := by unfold chc; rw [if_pos (of_decide_eq_true hk)]
        rw [e]
        exact re_old re_str
      · have e : chc (m.getD i 0) = [m.getD i 0] := by unfold chc; rw [if_neg (of_decide_eq_false hk)]
        rw [e]
        exact re_var 1
end
end K41

namespace K41
open PySem PySem.Spec PyProof.Rows L2 LA
/-! ### questions made of questions -/
structure QMet (P : Program) (w : World) (K : PySem.W.Frag) (mg : Str → Option Value) (base : Heap) (C : Addr) (m : Str) (k : Nat) (ps : List Str) (R : FSpec) : Prop where
  ex : ∃ g fd, Meth K C m g ∧ FnOk P w K mg base (L2.CX P w) k g fd ps (spF K R) ∧ Binds K fd ps []
section
variable {X : Cx} {W : WX} {p : HD} {ρ : Rho} {c c1 c2 : PC} {e a b : Expr} {es : List Expr} {pos apos : Pos} {nw n2 : Bool} {C : Addr} {l l' : List Nat} {m : Str} {k : Nat} {ps : List Str} {R : FSpec} {ds : List D} {o : EO}
theorem re_qmeth {pl : Sem Bool} (tk : Takes X W) (T : QMet X.prog X.w X.K X.mg X.base C m k ps R) (Q : QC X.K C) (hr : Room k X.A) (ha : RE X W p ρ c a (.val (qD C l) nw c1)) (hs : RA X W p ρ c1 (e :: es) (.val ds c2)) (ho : R (qD C l :: ds) c2 o) (hn : (flds l).lookup m = none := by rfl)
    (ht : eval (.Call (.Attribute a m apos) (e :: es) [] pos) X.env = (do
      let ov ← eval a X.env
      standAt apos.atName
      let (f, first) ← holding [ov] (getMethod ov m pl)
      callWith pos f first (backTo pos (starEach (e :: es) X.env)) (backToKw pos (keywordEach [] X.env))) := by rfl)
    (hst : starEach (e :: es) X.env = (false, eval e X.env) :: starEach es X.env := by rfl) (hpl : (backTo pos (starEach es X.env)).any (·.1) = false := by rfl) :
    RE X W p ρ c (.Call (.Attribute a m apos) (e :: es) [] pos) o := by
  obtain ⟨g, fd, h1, h2, h3⟩ := T.ex
  exact re_methX (fs := flds l) tk h2 hr h3 ha Q.cl h1 hn hs ho ht hst hpl
end
def bit (b : Bool) : Nat := if b then 49 else 48
def tabOfR : FSpec := fun ds c o => ∃ (g : G) (bs : List Bool), ds = [.lst g (bs.map D.bl)] ∧ bs.length ≤ 1000 ∧ o = .val (.str (tx (bs.map bit))) true c
def takL (l : List Nat) (ts : List (List Nat)) : List Nat := ts.map fun t => l.getD (binNum (48 :: t)) 0
def takR (C : Addr) : FSpec := fun ds c o => ∃ (l : List Nat) (g : G) (ts : List (List Nat)), ds = [qD C l, .lst g (wD ts)] ∧ Tab l ∧ (∀ t ∈ ts, t.length = manyOf l ∧ ∀ n ∈ t, n ∈ bins) ∧ inLens ts.length = true ∧ o = .val (qD C (takL l ts)) true c
def restL (l m : List Nat) : List Nat := takL l (fitW m)
def restR (C BP : Addr) : FSpec := fun ds c o => ∃ l d, ds = [qD C l, d] ∧ Tab l ∧ Fit d ∧ o = if okPat l d then .val (qD C (restL l (cds d))) true c else .ex BP [("given", d)] c
def settD (a : List Nat) : D := if 48 ∈ a ∧ 49 ∈ a then .non else .int ((a.getD 0 0 : Nat) - 48 : Int)
def settR (C BP : Addr) : FSpec := fun ds c o => ∃ l d, ds = [qD C l, d] ∧ Tab l ∧ Fit d ∧ o = if okPat l d then .val (settD (restL l (cds d))) true c else .ex BP [("given", d)] c
def sumAt (l1 l2 : List Nat) (i : Nat) : Int := ((l1.getD i 0 : Int) - 48) + ((l2.getD i 0 : Int) - 48)
def joinL (ws : List Int) (l1 l2 : List Nat) : List Nat := (List.range (min l1.length l2.length)).map fun i => bit (inV (V.int (sumAt l1 l2 i)) (ws.map V.int))
def cntdR (C US : Addr) : FSpec := fun ds c o => ∃ l1 l2 ws, ds = [qD C l1, qD C l2, .tup (ws.map D.int)] ∧ Tab l1 ∧ Tab l2 ∧ o = if manyOf l1 = manyOf l2 then .val (qD C (joinL ws l1 l2)) true c else .ex US [("second", .int (manyOf l2 : Nat)), ("first", .int (manyOf l1 : Nat))] c
def binR (C US : Addr) (ws : List Int) : FSpec := fun ds c o => ∃ l1 l2, ds = [qD C l1, qD C l2] ∧ Tab l1 ∧ Tab l2 ∧ o = if manyOf l1 = manyOf l2 then .val (qD C (joinL ws l1 l2)) true c else .ex US [("second", .int (manyOf l2 : Nat)), ("first", .int (manyOf l1 : Nat))] c
def invL (l : List Nat) : List Nat := l.map fun a => bit (decide (a = 48))
def invR (C : Addr) : FSpec := fun ds c o => ∃ l, ds = [qD C l] ∧ Tab l ∧ o = .val (qD C (invL l)) true c
theorem bit_bin (b : Bool) : bit b ∈ bins := by
  cases b <;> decide
theorem tab_64 {l : List Nat} (h : Tab l) : l.length ≤ 64 := by
  have := lens_of h.1
  omega
theorem tab_is {l : List Nat} (h : Tab l) : isTab (.str (tx l)) = true := by
  unfold isTab
  rw [cds_tx, h.1]
  exact Bool.and_eq_true_iff.mpr ⟨rfl, Bool.and_eq_true_iff.mpr ⟨rfl, List.all_eq_true.mpr fun n hn => decide_eq_true (h.2 n hn)⟩⟩
theorem inv_tab {l : List Nat} (h : Tab l) : Tab (invL l) := by
  refine ⟨by unfold invL; rw [List.length_map]; exact h.1, fun n hn => ?_⟩
  unfold invL at hn
  obtain ⟨a, _, rfl⟩ := List.mem_map.mp hn
  exact bit_bin _
theorem same_len {l1 l2 : List Nat} (h1 : Tab l1) (h2 : Tab l2) (h : manyOf l1 = manyOf l2) : l1.length = l2.length := by
  rw [(tab_pow h1.1).1, (tab_pow h2.1).1, h]
theorem join_tab {ws : List Int} {l1 l2 : List Nat} (h1 : Tab l1) (h2 : Tab l2) (h : manyOf l1 = manyOf l2) : Tab (joinL ws l1 l2) := by
  have e := same_len h1 h2 h
  refine ⟨?_, fun n hn => ?_⟩
  · unfold joinL
    rw [List.length_map, List.length_range, ← e, Nat.min_self]
    exact h1.1
  · unfold joinL at hn
    obtain ⟨a, _, rfl⟩ := List.mem_map.mp hn
    exact bit_bin _
theorem at_bin {l : List Nat} (h : ∀ n ∈ l, n ∈ bins) {i : Nat} (hi : i < l.length) : l.getD i 0 ∈ bins := h _ (by
  rw [List.getD_eq_getElem?_getD, List.getElem?_eq_getElem hi]
  exact List.getElem_mem _)
theorem take_tab {l : List Nat} {ts : List (List Nat)} (h : Tab l) (ht : ∀ t ∈ ts, t.length = manyOf l ∧ ∀ n ∈ t, n ∈ bins) (hl : inLens ts.length = true) : Tab (takL l ts) := by
  refine ⟨by unfold takL; rw [List.length_map]; exact hl, fun n hn => ?_⟩
  unfold takL at hn
  obtain ⟨t, htt, rfl⟩ := List.mem_map.mp hn
  have hp := place_lt (ht t htt).2
  rw [(ht t htt).1, ← (tab_pow h.1).1] at hp
  exact at_bin h.2 hp
theorem fit_all (m : List Nat) : ∀ t ∈ fitW m, t.length = m.length := fun t ht => by
  have := words_all (m.map chc) (ws := [[]]) (n := 0) (fun w hw => by rcases List.mem_cons.mp hw with rfl | hw; rfl; cases hw) t ht
  rw [List.length_map] at this
  omega
theorem words_bin : ∀ (cs : List (List Nat)) {ws : List (List Nat)}, (∀ l ∈ cs, ∀ n ∈ l, n ∈ bins) → (∀ t ∈ ws, ∀ n ∈ t, n ∈ bins) → ∀ t ∈ wordsV ws cs, ∀ n ∈ t, n ∈ bins
  | [], ws, _, h => h
  | l :: r, ws, hc, h => words_bin r (ws := step ws l) (fun l' hl' => hc l' (List.mem_cons_of_mem _ hl')) fun t ht n hn => by
    unfold step at ht
    obtain ⟨a, ha, hb⟩ := List.mem_flatMap.mp ht
    obtain ⟨z, hz, rfl⟩ := List.mem_map.mp hb
    rcases List.mem_append.mp hn with hn | hn
    · exact h a ha n hn
    · rw [List.mem_singleton.mp hn]
      exact hc l List.mem_cons_self z hz
theorem fit_bin {m : List Nat} (h : ∀ a ∈ m, a ∈ pats) : ∀ t ∈ fitW m, ∀ n ∈ t, n ∈ bins := words_bin _ (fun l hl => by
  obtain ⟨a, ha, rfl⟩ := List.mem_map.mp hl
  exact chc_bin (h a ha)) fun t ht n hn => by
    rcases List.mem_cons.mp ht with rfl | ht
    · cases hn
    · cases ht
theorem words_lenP : ∀ (m : List Nat) (ws : List (List Nat)), (wordsV ws (m.map chc)).length = ws.length * 2 ^ m.count 45
  | [], ws => by simp [wordsV]
  | a :: r, ws => by
    show (wordsV (step ws (chc a)) (r.map chc)).length = _
    rw [words_lenP r, step_len, List.count_cons]
    unfold chc
    by_cases h : a = 45
    · have e : bins.length = 2 := by decide
      rw [if_pos h, h, e]
      simp [Nat.pow_succ]
      rw [Nat.mul_assoc, Nat.mul_comm 2]
    · rw [if_neg h]
      simp [h]
theorem fit_len (m : List Nat) : (fitW m).length = 2 ^ m.count 45 := by
  unfold fitW
  rw [words_lenP]
  simp
theorem fit_lens {m : List Nat} (h : m.length ≤ 6) : inLens (fitW m).length = true := by
  rw [fit_len]
  have := List.count_le_length (a := 45) (l := m)
  have key : ∀ k : Fin 7, inLens (2 ^ k.val) = true := by decide +kernel
  exact key ⟨m.count 45, by omega⟩
theorem okPat_str {l : List Nat} {d : D} (h : okPat l d = true) : ∃ m, d = .str (tx m) ∧ m.length ≤ 6 ∧ (∀ a ∈ m, a ∈ pats) ∧ m.length = manyOf l := by
  unfold okPat at h
  obtain ⟨h1, h2⟩ := Bool.and_eq_true_iff.mp h
  obtain ⟨m, rfl, h3, h4⟩ := isW_str h1
  refine ⟨m, rfl, h3, h4, ?_⟩
  have := of_decide_eq_true h2
  rw [cds_tx] at this
  omega
theorem rest_tab {l m : List Nat} (h : Tab l) (h6 : m.length ≤ 6) (hm : ∀ a ∈ m, a ∈ pats) (hl : m.length = manyOf l) : Tab (restL l m) :=
  take_tab h (fun t ht => ⟨by rw [fit_all m t ht, hl], fit_bin hm t ht⟩) (fit_lens h6)
section
variable {P : Program} {w : World} {K : PySem.W.Frag} {mg : Str → Option Value} {base : Heap} {B BP US C BT : Addr}
abbrev TabOfD (P : Program) (w : World) (K : PySem.W.Frag) (mg : Str → Option Value) (base : Heap) := Def0 P w K mg base 1 "_table_of" ["answers"] tabOfR
theorem scTabOf : FnScope ["answers", "answer"] ["answers"] (defScope (top 46)) := ⟨rfl, rfl, rfl, by decide +kernel, rfl, by decide +kernel, by decide +kernel⟩
theorem ok_tabOf {f : Addr} {fd : FuncData} (F : Fun K "_table_of" "_table_of" (top 46) f fd) : FnOk P w K mg base CX0 1 f fd ["answers"] (spF K tabOfR) := by
  refine fn_val F scTabOf (fun ds c o h => ?_) (fun ds c o h => ?_) (fun cdv A outer s H E hr p ds c o h => ?_)
  · obtain ⟨g, bs, rfl, _⟩ := h
    rfl
  · obtain ⟨g, bs, _, _, rfl⟩ := h
    exact ⟨_, _, _, rfl⟩
  · obtain ⟨g, bs, rfl, hl, rfl⟩ := h
    have hz : (bs.map D.bl).length = bs.length := List.length_map _
    have key : (List.range (bs.map D.bl).length).map (fun i => D.str (chr1 (bit (bs.getD i false)))) = (bs.map bit).map fun n => D.str (chr1 n) := by
      rw [hz, List.map_map]
      refine List.ext_getElem? fun i => ?_
      by_cases hi : i < bs.length
      · simp [hi, List.getElem?_range]
      · simp [hi]
    refine .inl (rss_ret (rs_ret (re_joinC (g := ⟨false, true⟩) (n2 := true) re_str ?_ (by rw [List.length_map]; omega))))
    rw [← key]
    refine re_lcA (own := [("answer", 1)]) (g := gName 1) _ (fun _ => c) (fun i => [some (.lst g (bs.map D.bl)), some (.bl (bs.getD i false))]) (fun _ => true) rfl scTabOf.nd (ri_lst (re_var 0)) (blkOk_by (N := ["answers", "answer"]) (sc := defScope (top 46)) (by decide +kernel)) (fun _ _ _ _ _ => pg_name (i := 1) scTabOf.nd rfl (Or.inl rfl)) (fun i d h => ?_) (fun i d h q s H C cl fp => ?_) (by rw [hz]; omega)
    · rw [List.getElem?_map] at h
      obtain ⟨b, hb, rfl⟩ := Option.map_eq_some_iff.mp h
      rw [List.getD_eq_getElem?_getD, hb]
      exact tg_name (j := 1) (vs := [1]) (by decide)
    · refine re_if (k := bs.getD i false) (rt_val (re_var 1)) (fun hk => ?_) fun hk => ?_
      · rw [hk]
        exact re_str
      · rw [hk]
        exact re_str
abbrev nTak : List Str := ["self", "texts", "text"]
theorem scTak : FnScope nTak ["self", "texts"] (defScope (mth 26)) := ⟨rfl, rfl, rfl, by decide +kernel, rfl, by decide +kernel, by decide +kernel⟩
theorem ok_tak {f : Addr} {fd : FuncData} (Q : QC K C) (TQ : QMk P w K mg base C BT) (TP : PlaceD P w K mg base) (F : Fun K "_taken_from" "Question._taken_from" (mth 26) f fd) : FnOk P w K mg base (L2.CX P w) 7 f fd ["self", "texts"] (spF K (takR C)) := by
  refine fn_exc F scTak (fun ds c o h => ?_) (fun cdv A outer s H E hr p ds c o h tk => ?_)
  · obtain ⟨l, g, ts, rfl, _⟩ := h
    rfl
  · obtain ⟨l, g, ts, rfl, tb, ht, hl, rfl⟩ := h
    have tt := take_tab tb ht hl
    have tz := tab_64 tt
    have lz := tab_64 tb
    have ez : (takL l ts).length = ts.length := by unfold takL; rw [List.length_map]
    refine .inl (rss_ret (rs_ret (re_makeQ tk TQ hr (re_joinC (l := takL l ts) (g := ⟨false, true⟩) (n2 := true) re_str ?_ (by omega)) (str_fit (by omega)) (fun _ => rfl) (by unfold outQ; rw [tab_is tt, if_pos rfl, cds_tx]))))
    unfold takL
    rw [← wD_map]
    refine re_lcA (own := [("text", 2)]) (g := gName 2) _ (fun _ => c) (fun i => [some (qD C l), some (.lst g (wD ts)), some (.str (tx (ts.getD i [])))]) (fun _ => true) rfl scTak.nd (ri_lst (re_var 1)) (blkOk_by (N := nTak) (sc := defScope (mth 26)) (by decide +kernel)) (fun _ _ _ _ _ => pg_name (i := 2) scTak.nd rfl (Or.inl rfl)) (fun i d h => ?_) (fun i d h q s H C' cl fp => ?_) (by rw [wD_len]; omega)
    · obtain ⟨rfl, _⟩ := wD_at h
      exact tg_name (by decide)
    · obtain ⟨_, hi, hm⟩ := wD_at h
      obtain ⟨h1, h2⟩ := ht _ hm
      have hp := place_lt h2
      have h6 := (tab_pow tb.1).2
      rw [h1, ← (tab_pow tb.1).1] at hp
      exact re_ix ix_seq (re_fld (C := C) (fs := flds l) (re_var 0) Q.cl Q.t rfl) (re_c0 TP (hr.mono (by decide)) (ra_cons (re_var 2) ra_nil) ⟨_, rfl, by omega, h2, rfl⟩) (ov_ixS (by rw [tx_len]; exact sz_le (by omega)) rfl (at_tx hp))
abbrev TakM (P : Program) (w : World) (K : PySem.W.Frag) (mg : Str → Option Value) (base : Heap) (C : Addr) := QMet P w K mg base C "_taken_from" 7 ["self", "texts"] (takR C)
abbrev RestM (P : Program) (w : World) (K : PySem.W.Frag) (mg : Str → Option Value) (base : Heap) (C BP : Addr) := QMet P w K mg base C "restricted" 8 ["self", "pattern"] (restR C BP)
theorem ok_rest {f : Addr} {fd : FuncData} (Q : QC K C) (TP : PatOfD P w K mg base BP) (TF : FitD P w K mg base) (TK : TakM P w K mg base C) (F : Fun K "restricted" "Question.restricted" (mth 14) f fd) : FnOk P w K mg base (L2.CX P w) 8 f fd ["self", "pattern"] (spF K (restR C BP)) := by
  refine fn_exc F (N := ["self", "pattern"]) ⟨rfl, rfl, rfl, by decide +kernel, rfl, by decide +kernel, by decide +kernel⟩ (fun ds c o h => ?_) (fun cdv A outer s H E hr p ds c o h tk => ?_)
  · obtain ⟨l, d, rfl, _⟩ := h
    rfl
  · obtain ⟨l, d, rfl, tb, fd', rfl⟩ := h
    cases h : okPat l d with
    | false =>
      rw [if_neg Bool.false_ne_true]
      exact rss_ex (rs_exprX (re_c1 tk TP (hr.mono (by decide)) (ra_cons (re_var 1) (ra_cons (re_fld (C := C) (fs := flds l) (re_var 0) Q.cl Q.m rfl) ra_nil)) ⟨d, _, rfl, fd', by
        show _ = if okPat l d = true then _ else _
        rw [h, if_neg Bool.false_ne_true]⟩))
    | true =>
      rw [if_pos rfl]
      obtain ⟨m, rfl, h6, hp, hl⟩ := okPat_str h
      rw [cds_tx]
      refine .inl (rss_cons (rs_expr (re_c1 (o := .val .non true c) tk TP (hr.mono (by decide)) (ra_cons (re_var 1) (ra_cons (re_fld (C := C) (fs := flds l) (re_var 0) Q.cl Q.m rfl) ra_nil)) ⟨_, _, rfl, fd', by
        show _ = if okPat l (.str (tx m)) = true then _ else _
        rw [h, if_pos rfl]⟩)) ?_)
      exact rss_ret (rs_ret (re_qmeth tk TK Q hr (re_var 0) (ra_cons (re_c0 TF (hr.mono (by decide)) (ra_cons (re_var 1) ra_nil) ⟨m, rfl, h6, hp, rfl⟩) ra_nil) ⟨l, _, fitW m, rfl, tb, fun t ht => ⟨by rw [fit_all m t ht, hl], fit_bin hp t ht⟩, fit_lens h6, rfl⟩))
end
end K41

/-! classmethods, with keywords; a class that stands in a variable is called -/
namespace LA
open PySem PySem.Spec PyProof.Rows L2
section
variable {X : Cx} {W : WX} {p : HD} {ρ ρ1 : Rho} {c c1 c2 c3 : PC} {e a b fe : Expr} {es : List Expr} {pos apos : Pos} {d d1 d2 : D} {n1 n2 nw : Bool} {o o' : EO}
variable {CX : CXT} {k : Nat} {f C g q : Addr} {fd : FuncData} {ps : List Str} {R : FSpec} {x m : Str} {xp : Pos} {ds : List D} {sp : Sp} {mc : Value}
/-- cls(..) -/
def tMakeV (C : Addr) (sp : Sp) (E : L2.St → XK) (tf : TE) (t : TA) : TE := fun σ H Q => tf σ H fun y H1 => y = .ref C ∧ t σ H1 fun vs H2 => ∀ x dx, H2 x = none → H2 dx = none → dx ≠ x → sp (V.ref x :: vs) (laid H2 x dx C) (fun v H3 => v = .non ∧ Q (.ref x) H3) (E σ)
theorem pe_makeV {E : L2.St → XK} {tf : TE} {t : TA} (hf : PE X (.Name x xp) tf) (M : Mk X.K C f) (F : FnOk X.prog X.w X.K X.mg X.base CX k f fd ps sp) (hr : Room (k + 1) X.A) (hb : Binds X.K fd ps []) (hx : ∀ σ, PassesAt CX X σ (E σ))
    (ha : PA X (e :: es) t) (he : starEach (e :: es) X.env = (false, eval e X.env) :: starEach es X.env := by rfl) (hpl : (backTo pos (starEach es X.env)).any (·.1) = false := by rfl) :
    PE X (.Call (.Name x xp) (e :: es) [] pos) (tMakeV C sp E tf t) := ⟨fun pins s σ H Q I h =>
  wpAny_Call_Name_kw (thn (hf.run pins s σ H _ I h) fun u s0 ⟨y, H0, I0, ry, ey, q0⟩ => by
    subst ey
    obtain rfl : u = Value.ref C := ry
    exact PySem.W.callWith_K (h₀ := X.base) I0.ok.mod.kin M.kp (thn (ha.run pos pins s0 σ H0 _ I0 q0) fun us s1 ⟨vs, H1, I1, r, q⟩ => ⟨I1.kIn, run_makeS M F hr hb (hx σ) I1 r q⟩) he hpl)⟩
theorem re_makeXv (tk : Takes X W) (hf : RE X W p ρ c (.Name x xp) (.val (.cls C) nw c)) (M : Mk X.K C f) (G : FnOk X.prog X.w X.K X.mg X.base (L2.CX X.prog X.w) k f fd ps (spF X.K R)) (hr : Room (k + 1) X.A) (hb : Binds X.K fd ps []) (ha : RA X W p ρ c (e :: es) (.val ds c1)) (ho : R (.mut c1.length :: ds) (c1 ++ [.ins C []]) o') (hd : Made C c1.length o' o)
    (he : starEach (e :: es) X.env = (false, eval e X.env) :: starEach es X.env := by rfl) (hpl : (backTo pos (starEach es X.env)).any (·.1) = false := by rfl) :
    RE X W p ρ c (.Call (.Name x xp) (e :: es) [] pos) o := by
  refine pe_imp (pe_makeV hf M G hr hb (fun σ => passAt tk σ) ha he hpl) fun σ H Q h => ⟨tE_sr h, fun v H0 e0 p0 dv _ => ?_⟩
  cases dv
  refine ⟨rfl, (tE_sr h).mono e0 p0, fun vs H1 e1' p1 dvs y dy ny nd ne => ?_⟩
  have e1 := e0.trans e1'
  refine ⟨p.mut y, c1 ++ [.ins C []], .mut c1.length :: ds, o', laid_vals p1 dvs ny nd ne, laid_pool p1 ny nd ne, ho, ?_⟩
  cases hd with
  | val hl =>
    intro v H3 e3 p3 dv _
    have ext := laid_after p1 ny nd ne e3
    refine ⟨by cases dv; rfl, ?_⟩
    exact (fo_at h e1) (.ref y) H3 ext (laid_out hl p1 p3) (laid_obj hl p1 ny p3) fun _ => laid_new hl p1 ny p3
  | ex hl lo =>
    intro dx fv H3 e3 p3 hx hf
    have ext := laid_after p1 ny nd ne e3
    exact (fo_at h e1) dx fv H3 ext (laid_out hl p1 p3) (sub_mut dx _ hx) (hf.low (n := c1.length) sub_mut (fun i b li hi => at_mut (by rw [p1.1.2.1]; exact li) hi) lo)
/-! ### C.m(a, .., k = v, ..) -/
def tCMS (C : Addr) (n m : Nat) (sp : Sp) (gV : List V → List V → List V) (E : L2.St → XK) (ta : TE) (t tk : TA) : TE := fun σ H Q => ta σ H fun x H1 => x = .ref C ∧ t σ H1 fun vs H2 => tk σ H2 fun zs H3 => vs.length = n ∧ zs.length = m ∧ sp (gV (.ref C :: vs) zs) H3 Q (E σ)
theorem run_cmKS {n : Nat} {ks : List Str} {gL : List Value → List Value → List Value} {gV : List V → List V → List V} {E : L2.St → XK} {pins : List (Addr × Obj)} {σ : L2.St} {H : Hp} {s : Shared} {Q : VK} {us ws : List Value} {vs zs : List V}
    (F : FnOk X.prog X.w X.K X.mg X.base CX k g fd ps sp) (hr : Room k X.A) (hb : KBn X.K fd ps (n + 1) ks gL gV) (hx : PassesAt CX X σ (E σ))
    (I : Inv X ((q, PySem.W.methodObj (.ref g) (.ref C)) :: pins) σ H s) (r : Vals vs us) (rz : Vals zs ws) (l1 : vs.length = n) (l2 : zs.length = ks.length) (h : sp (gV (.ref C :: vs) zs) H Q (E σ)) : wpAny (model X.prog X.w) X.A (call (.ref q) us (ks.zip ws)) (EP X pins σ Q) X.xe s := by
  have r1 : Vals (V.ref C :: vs) (Value.ref C :: us) := .cons rfl r
  have r2 := hb.rel r1 rz
  have z : wpAny (model X.prog X.w) X.A (call (.ref q) us (ks.zip ws)) (EP X ((q, PySem.W.methodObj (.ref g) (.ref C)) :: pins) σ Q) X.xe s := by
    refine wpAny_call (PySem.W.method_call (ClX.pin_at I) (codeAny_mono (F.run X.A X.stack s H ⟨Value.ref C :: us, ks.zip ws⟩ (gL (Value.ref C :: us) ws) (gV (V.ref C :: vs) zs) Q (E σ) hr I.env0 (hb.to s _ ws I.kIn (by rw [List.length_cons, ← r.length, l1]) (rz.length.symm.trans l2)) r2 h) fun r s' hq => ?_))
    cases r with
    | error e => exact hx _ H s e s' I hq
    | ok fl =>
      cases fl with
      | ret u => exact I.after hq
      | next => exact False.elim hq
      | brk => exact False.elim hq
      | cont => exact False.elim hq
  exact thn z fun _ _ y => ClX.unpinE y
theorem pe_cmKS {n : Nat} {ks : List Str} {gL : List Value → List Value → List Value} {gV : List V → List V → List V} {pl : Sem Bool} {E : L2.St → XK} {pc : Addr} {ta : TE} {t : TA} {kws : List Keyword} {tk : TA} (he : PE X a ta) (r : ClX.CRead X.K C mc) (cm : ClX.CMet X.K C mc m pc g) (F : FnOk X.prog X.w X.K X.mg X.base CX k g fd ps sp) (hr : Room k X.A) (hb : KBn X.K fd ps (n + 1) ks gL gV) (hx : ∀ σ, PassesAt CX X σ (E σ))
    (ha : PA X (e :: es) t) (hkw : PK X kws tk) (hall : (backToKw pos (keywordEach kws X.env)).all (·.1.isSome) = true) (hks : (backToKw pos (keywordEach kws X.env)).filterMap (·.1) = ks)
    (ht : eval (.Call (.Attribute a m apos) (e :: es) kws pos) X.env = (do
      let ov ← eval a X.env
      standAt apos.atName
      let (f, first) ← holding [ov] (getMethod ov m pl)
      callWith pos f first (backTo pos (starEach (e :: es) X.env)) (backToKw pos (keywordEach kws X.env))))
    (hst : starEach (e :: es) X.env = (false, eval e X.env) :: starEach es X.env)
    (hpl : ((backTo pos (starEach (e :: es) X.env)).any (·.1) || (backToKw pos (keywordEach kws X.env)).any (·.1.isNone)) = false) :
    PE X (.Call (.Attribute a m apos) (e :: es) kws pos) (tCMS C n ks.length sp gV E ta t tk) := by
  refine ⟨fun pins s σ H Q I h => ?_⟩
  refine PySem.W.methodCall_KW (pl := pl) (thn (he.run pins s σ H _ I h) fun u s1 ⟨x, H1, I1, rx, ex, q⟩ => ?_) ht
  subst ex
  obtain rfl : u = Value.ref C := rx
  refine ClX.getmethcm_ok I1 r cm fun s2 I2 => ?_
  refine PySem.W.callWith_of hpl (PySem.W.keeps_M (q := s1.heap.objs.size) (self := .ref C) cm.fi) (PyProof.Rows.evalArgs_kw2 hall (thn (ha.run pos _ s2 σ H1 _ I2 q) fun us s3 ⟨vs, H2, I3, rv, q2⟩ => thn (hkw.run pos _ s3 σ H2 _ I3 q2) fun ws s4 ⟨zs, H3, I4, rz, l1, l2, q3⟩ => ⟨⟨ClX.pin_at I4, I4.kIn⟩, ?_⟩) hst)
  rw [hks]
  exact run_cmKS F hr hb (hx σ) I4 rv rz l1 l2 q3
theorem pe_cmKS0 {ks : List Str} {gL : List Value → List Value → List Value} {gV : List V → List V → List V} {pl : Sem Bool} {E : L2.St → XK} {pc : Addr} {ta : TE} {kws : List Keyword} {tk : TA} (he : PE X a ta) (r : ClX.CRead X.K C mc) (cm : ClX.CMet X.K C mc m pc g) (F : FnOk X.prog X.w X.K X.mg X.base CX k g fd ps sp) (hr : Room k X.A) (hb : KBn X.K fd ps 1 ks gL gV) (hx : ∀ σ, PassesAt CX X σ (E σ))
    (hkw : PK X kws tk) (hall : (backToKw pos (keywordEach kws X.env)).all (·.1.isSome) = true) (hks : (backToKw pos (keywordEach kws X.env)).filterMap (·.1) = ks)
    (ht : eval (.Call (.Attribute a m apos) [] kws pos) X.env = (do
      let ov ← eval a X.env
      standAt apos.atName
      let (f, first) ← holding [ov] (getMethod ov m pl)
      callWith pos f first (backTo pos (starEach [] X.env)) (backToKw pos (keywordEach kws X.env))))
    (hpl : ((backTo pos (starEach [] X.env)).any (·.1) || (backToKw pos (keywordEach kws X.env)).any (·.1.isNone)) = false) :
    PE X (.Call (.Attribute a m apos) [] kws pos) (tCMS C 0 ks.length sp gV E ta tNil tk) := by
  refine ⟨fun pins s σ H Q I h => ?_⟩
  refine PySem.W.methodCall_KW (pl := pl) (thn (he.run pins s σ H _ I h) fun u s1 ⟨x, H1, I1, rx, ex, q⟩ => ?_) ht
  subst ex
  obtain rfl : u = Value.ref C := rx
  refine ClX.getmethcm_ok I1 r cm fun s2 I2 => ?_
  have q : tk σ H1 fun zs H3 => ([] : List V).length = 0 ∧ zs.length = ks.length ∧ sp (gV [.ref C] zs) H3 Q (E σ) := q
  refine PySem.W.callWith_of hpl (PySem.W.keeps_M (q := s1.heap.objs.size) (self := .ref C) cm.fi) (PyProof.Rows.evalArgs_kw2_nil hall (thn (hkw.run pos _ s2 σ H1 _ I2 q) fun ws s4 ⟨zs, H3, I4, rz, l1, l2, q3⟩ => ⟨⟨ClX.pin_at I4, I4.kIn⟩, ?_⟩))
  rw [hks]
  exact run_cmKS (n := 0) (us := []) (vs := []) F hr hb (hx σ) I4 .nil rz rfl l2 q3
structure CMeth (P : Program) (w : World) (K : PySem.W.Frag) (mg : Str → Option Value) (base : Heap) (C : Addr) (m : Str) (k : Nat) (ps : List Str) (R : FSpec) (n : Nat) (ks : List Str) (gL : List Value → List Value → List Value) (gV : List V → List V → List V) : Prop where
  ex : ∃ (mc : Value) (pc g : Addr) (fd : FuncData), ClX.CRead K C mc ∧ ClX.CMet K C mc m pc g ∧ FnOk P w K mg base (L2.CX P w) k g fd ps (spF K R) ∧ KBn K fd ps (n + 1) ks gL gV
theorem re_cm {n : Nat} {ks : List Str} {gL : List Value → List Value → List Value} {gV : List V → List V → List V} {pl : Sem Bool} {kws : List Keyword} {zs : List D} (tk : Takes X W) (T : CMeth X.prog X.w X.K X.mg X.base C m k ps R n ks gL gV) (hr : Room k X.A) (hc : RE X W p ρ c a (.val (.cls C) nw c1))
    (ha : RA X W p ρ c1 (e :: es) (.val ds c2)) (hkw : RK X W p ρ c2 kws (.val zs c3)) (hn : ds.length = n) (hl : zs.length = ks.length) {gD : List D} (hg : ∀ {H : Hp} {vs us : List V}, DVs X.K p H vs (.cls C :: ds) → DVs X.K p H us zs → DVs X.K p H (gV vs us) gD) (ho : R gD c3 o)
    (ht : eval (.Call (.Attribute a m apos) (e :: es) kws pos) X.env = (do
      let ov ← eval a X.env
      standAt apos.atName
      let (f, first) ← holding [ov] (getMethod ov m pl)
      callWith pos f first (backTo pos (starEach (e :: es) X.env)) (backToKw pos (keywordEach kws X.env))) := by rfl)
    (hall : (backToKw pos (keywordEach kws X.env)).all (·.1.isSome) = true := by rfl) (hks : (backToKw pos (keywordEach kws X.env)).filterMap (·.1) = ks := by rfl) (hst : starEach (e :: es) X.env = (false, eval e X.env) :: starEach es X.env := by rfl)
    (hpl : ((backTo pos (starEach (e :: es) X.env)).any (·.1) || (backToKw pos (keywordEach kws X.env)).any (·.1.isNone)) = false := by rfl) : RE X W p ρ c (.Call (.Attribute a m apos) (e :: es) kws pos) o := by
  obtain ⟨mc, pc, g, fd, h1, h2, h3, h4⟩ := T.ex
  refine pe_imp (pe_cmKS hc h1 h2 h3 hr h4 (fun σ => passAt tk σ) ha hkw hall hks ht hst hpl) fun σ H Q h => ⟨tE_sr h, fun v H1 e1 p1 dv _ => ?_⟩
  cases dv
  exact ⟨rfl, (tE_sr h).mono e1 p1, fun vs H2 e2 p2 dvs => ⟨((tE_sr h).mono e1 p1).mono e2 p2, fun us H3 e3 p3 dus => ⟨by rw [dvs.length]; exact hn, by rw [dus.length]; exact hl, p, c3, gD, o, hg (.cons (.cls C) (dvs.mono e3)) dus, p3, ho, fo_at h ((e1.trans e2).trans e3)⟩⟩⟩
theorem re_cm0 {ks : List Str} {gL : List Value → List Value → List Value} {gV : List V → List V → List V} {pl : Sem Bool} {kws : List Keyword} {zs : List D} (tk : Takes X W) (T : CMeth X.prog X.w X.K X.mg X.base C m k ps R 0 ks gL gV) (hr : Room k X.A) (hc : RE X W p ρ c a (.val (.cls C) nw c1))
    (hkw : RK X W p ρ c1 kws (.val zs c3)) (hl : zs.length = ks.length) {gD : List D} (hg : ∀ {H : Hp} {vs us : List V}, DVs X.K p H vs [.cls C] → DVs X.K p H us zs → DVs X.K p H (gV vs us) gD) (ho : R gD c3 o)
    (ht : eval (.Call (.Attribute a m apos) [] kws pos) X.env = (do
      let ov ← eval a X.env
      standAt apos.atName
      let (f, first) ← holding [ov] (getMethod ov m pl)
      callWith pos f first (backTo pos (starEach [] X.env)) (backToKw pos (keywordEach kws X.env))) := by rfl)
    (hall : (backToKw pos (keywordEach kws X.env)).all (·.1.isSome) = true := by rfl) (hks : (backToKw pos (keywordEach kws X.env)).filterMap (·.1) = ks := by rfl)
    (hpl : ((backTo pos (starEach [] X.env)).any (·.1) || (backToKw pos (keywordEach kws X.env)).any (·.1.isNone)) = false := by rfl) : RE X W p ρ c (.Call (.Attribute a m apos) [] kws pos) o := by
  obtain ⟨mc, pc, g, fd, h1, h2, h3, h4⟩ := T.ex
  refine pe_imp (pe_cmKS0 hc h1 h2 h3 hr h4 (fun σ => passAt tk σ) hkw hall hks ht hpl) fun σ H Q h => ⟨tE_sr h, fun v H1 e1 p1 dv _ => ?_⟩
  cases dv
  exact ⟨rfl, (tE_sr h).mono e1 p1, fun us H3 e3 p3 dus => ⟨rfl, by rw [dus.length]; exact hl, p, c3, gD, o, hg (.cons (.cls C) .nil) dus, p3, ho, fo_at h (e1.trans e3)⟩⟩
end
end LA

/-! a loop whose turn raises; a number's truth; an odd number -/
namespace LA
open PySem PySem.Spec PyProof.Rows L2
section
variable {X : Cx} {W : WX} {p : HD} {ρ : Rho} {c c1 : PC} {e tg it : Expr} {body : List Stmt} {pos : Pos} {xs : List D} {g : TG} {vs : List Nat} {nw : Bool} {C : Addr} {fs : List (Str × D)}
/-- n turns go on, then a turn raises -/
theorem rs_forX (n : Nat) (ρs ρt : Nat → Rho) (cs : Nat → PC) (hp : PassesOwn (model X.prog X.w) X.A X.env X.xe) (hc : X.calm = true) (h0 : ρs 0 = ρ) (hi : RI X W p ρ c tg it xs (cs 0)) (hg : PG X tg g)
    (htg : ∀ i d, xs[i]? = some d → i ≤ n → TgOk X.K g vs d (ρs i) (ρt i))
    (hb : ∀ i d, xs[i]? = some d → i < n → RSs X W p (ρt i) (cs i) body (.nx (ρs (i + 1)) (cs (i + 1))))
    {d : D} (h1 : xs[n]? = some d) (h3 : RSs X W p (ρt n) (cs n) body (.ex C fs c1)) (hl : (ρt n).length = ρ.length)
    (hs : ∀ x, foldedSetIterable it X.env x = pure x := by intro _; rfl) : RS X W p ρ c (.For tg it body [] pos) (.ex C fs c1) := by
  subst h0
  have hn : n ≤ xs.length := by
    have := (List.getElem?_eq_some_iff.mp h1).1
    omega
  have PU : PSs X body (fun De σ H => ∃ (i : Nat) (so : SO), RSs X W p (ρt i) (cs i) body so ∧ tSt X.K W p (ρt i) (cs i) so De σ H) := ⟨fun pins s σ H De I ⟨i, so, h1, h2⟩ => h1.run pins s σ H De I h2⟩
  refine ps_imp (ps_for hp hc hi hg PU hs) fun De σ H h => ?_
  refine ⟨st_sr h, fun J H1 e1 p1 yl => ?_⟩
  refine ⟨fun i m σ2 H2 => m = xs.length - i ∧ i ≤ n ∧ Ext p H1 H2 ∧ SR X.K p H2 σ2 (ρs i) (cs i), ⟨xs.length, by simp, Nat.zero_le _, Ext.refl _ _, (st_sr h).mono e1 p1⟩, ?_⟩
  rintro i m σ2 H2 ⟨rfl, hi', e2, s2⟩
  obtain ⟨hstop, hgo⟩ := yl p (cs i) H2 rfl e2.hide s2.pl
  by_cases hlt : i < n
  · have hd : xs[i]? = some (xs[i]'(Nat.lt_of_lt_of_le hlt hn)) := List.getElem?_eq_getElem _
    obtain ⟨g1, g2⟩ := hgo i _ hd
    refine .inr ⟨g1, fun σ' H' => Ext p H1 H' ∧ SR X.K p H' σ' (ρs (i + 1)) (cs (i + 1)), fun σ' H' ⟨a1, a2⟩ => ⟨xs.length - (i + 1), by omega, rfl, hlt, a1, a2⟩, fun x H3 hy => ?_⟩
    obtain ⟨e3, p3, dx⟩ := g2 x H3 hy
    refine (htg i _ hd hi').run p (cs i) x _ H3 _ dx (s2.mono e3 p3) p3 fun σ3 s3 _ => ⟨i, _, hb i _ hd hlt, s3, fun σ4 H4 e4 s4 => ⟨(e2.trans e3).trans e4, s4⟩⟩
  · have e : i = n := by omega
    subst e
    obtain ⟨g1, g2⟩ := hgo i _ h1
    refine .inr ⟨g1, fun _ _ => False, fun _ _ z => z.elim, fun x H3 hy => ?_⟩
    obtain ⟨e3, p3, dx⟩ := g2 x H3 hy
    refine (htg i _ h1 hi').run p (cs i) x _ H3 _ dx (s2.mono e3 p3) p3 fun σ3 s3 _ => ⟨i, _, h3, s3, fun ρ' dx fv σ4 H4 e4 s4 hl' hx hf => ?_⟩
    exact h.2 ρ' dx fv σ4 H4 (e1.trans (e2.trans (e3.trans e4))) s4 (hl'.trans hl) hx hf
theorem re_lcX {elt : Expr} {ifs : List Expr} {scope : Scope} {own : List (Str × Nat)} (hc : X.calm = true) (hN : X.N.Nodup) (h : RE X W p ρ c it (.ex C fs c1)) (ok : BlkOk X.N X.env.scope scope own)
    (hg : ∀ (s : Shared) (H : Hp) (C : Addr) (cl : List (Str × Addr)) (fp : List Addr), PG (X.blk s H scope (compEnvC scope cl C X.env) fp) tg g)
    (hs : ∀ x, foldedSetIterable it X.env x = pure x := by intro _; rfl) : RE X W p ρ c (.ListComp elt [⟨tg, it, ifs, 0⟩] scope pos) (.ex C fs c1) :=
  pe_imp (pe_lc (tt := fun _ _ _ => False) (te := fun _ _ _ => False) hc hN (pi_list h) ok hg (fun s H C cl fp => ⟨fun _ _ _ _ _ _ z => z.elim⟩) (fun s H C cl fp => ⟨fun _ _ _ _ _ _ z => z.elim⟩) hs) fun σ H Q h => h
theorem ov_odd {K : PySem.W.Frag} {n : Nat} : OV K p (fun x y H Q => ∃ n : Nat, x = .int (n : Int) ∧ y = .int 1 ∧ Q (.int ((n % 2 : Nat) : Int)) H) (.int ((n : Nat) : Int)) (.int 1) (.int ((n % 2 : Nat) : Int)) true c := fun v u H Q dv du hp k => by
  cases dv
  cases du
  exact ⟨n, rfl, rfl, k _ H (Ext.refl p H) hp (.int _) fun _ => New.sc (by intro a h; cases h)⟩
end
end LA

/-! a statement, a block that leaves a new list out of sight; its return, as new -/
namespace LA
open PySem PySem.Spec PyProof.Rows L2
section
variable {X : Cx} {W : WX} {p : HD} {as : List Addr} {ρ ρ1 ρ2 ρ' : Rho} {c c1 c2 c' cc : PC} {e t : Expr} {st st1 st2 : Stmt} {A B sts rest : List Stmt} {pos pos' : Pos} {g : G} {ds : List D} {so : SO} {x : Str}
/-- it ends with a new list out of sight -/
def tM (K : PySem.W.Frag) (p : HD) (ρ : Rho) (c : PC) (ρ1 : Rho) (cc : PC) : TS := fun De σ H => SR K p H σ ρ c ∧ ∀ a σ' H', (H a = none ∧ a ∉ p.m) → Ext p H H' → SR K (p.mut a) H' σ' ρ1 cc → De.nx σ' H'
theorem rm_one (i : Nat) (h : RN X p ρ c st i (.lst g ds) c1) (hds : lowDs 0 ds = true) : PS X st (tM X.K p ρ c (ρ.set i (some (.mut c1.length))) (c1 ++ [.lst ds])) :=
  ps_imp h fun De σ H ⟨s, k⟩ => ⟨s, fun v H1 e2 p1 dv hn => by
    cases dv with
    | @lst a vs _ _ hb hq r =>
      obtain ⟨⟨nA, nm⟩, pa, hc⟩ := hn a rfl
      obtain ⟨vs', hv, dvs⟩ := hc _ _ rfl
      exact k a _ _ ⟨nA, nm⟩ e2 (s.in' nA nm e2 pa hv dvs hds)⟩
theorem none_back {H H1 : Hp} {a : Addr} (e1 : Ext p H H1) (na : H1 a = none ∧ a ∉ p.m) : H a = none ∧ a ∉ p.m := by
  refine ⟨?_, na.2⟩
  cases q0 : H a with
  | none => rfl
  | some o =>
    have := e1 a o na.2 q0
    rw [na.1] at this
    cases this
theorem rm_cons (h1 : RS X W p ρ c st (.nx ρ' c')) (h2 : PSs X rest (tM X.K p ρ' c' ρ1 cc)) : PSs X (st :: rest) (tM X.K p ρ c ρ1 cc) :=
  pss_imp (pss_cons h1 h2) fun De σ H ⟨s, k⟩ => ⟨s, fun σ1 H1 e1 s1 => ⟨s1, fun a σ2 H2 na e2 s2 => k a σ2 H2 (none_back e1 na) (e1.trans e2) s2⟩⟩
theorem rm_last (h1 : PS X st (tM X.K p ρ c ρ1 cc)) : PSs X [st] (tM X.K p ρ c ρ1 cc) := pss_one h1
/-- one more statement behind it -/
theorem rm_more (h1 : PS X st1 (tM X.K p ρ c ρ1 cc)) (h2 : ∀ a, RS X W (p.mut a) ρ1 cc st2 (.nx ρ2 c2)) : PSs X [st1, st2] (tM X.K p ρ c ρ2 c2) := by
  have PU : PSs X [st2] (fun De σ H => ∃ a, tSt X.K W (p.mut a) ρ1 cc (.nx ρ2 c2) De σ H) := ⟨fun pins s σ H De I ⟨a, q⟩ => (pss_one (h2 a)).run pins s σ H De I q⟩
  refine pss_imp (pss_cons h1 PU) fun De σ H ⟨s, k⟩ => ⟨s, fun a σ1 H1 na e1 s1 => ⟨a, s1, fun σ2 H2 e2 s2 => k a σ2 H2 na ?_ s2⟩⟩
  exact fun b o n q => e2 b o (fun z => by
    rcases List.mem_append.mp z with z | z
    · exact n z
    · rw [List.mem_singleton.mp z, na.1] at q
      cases q) (e1 b o n q)
theorem rm_if (ht : RT X W p ρ c t (.val true c1)) (h : PSs X A (tM X.K p ρ c1 ρ1 cc)) : PS X (.If t A B pos) (tM X.K p ρ c ρ1 cc) :=
  ps_imp (ps_if ht h pss_never) fun De σ H ⟨s, k⟩ => ⟨s, fun H1 e1 p1 => ⟨s.mono e1 p1, fun a σ2 H2 na e2 s2 => k a σ2 H2 (none_back e1 na) (e1.trans e2) s2⟩⟩
theorem rso_m (h : PS X st (tM X.K (p.muts as) ρ c ρ1 cc)) (hl1 : ρ1.length = ρ.length) (hr : ∀ a, RSo X W p (a :: as) ρ1 cc rest so) : RSo X W p as ρ c (st :: rest) so := by
  have PU : PSs X rest (fun De σ H => ∃ a, tSo X.K W p (a :: as) ρ1 cc so De σ H) := ⟨fun pins s σ H De I ⟨a, h2⟩ => (hr a).run pins s σ H De I h2⟩
  refine pss_imp (pss_cons h PU) fun De σ H ⟨H0, σ0, ρ0, c0, na, e1, q, hl, s⟩ => ⟨s, fun a σ1 H1 nA e2 s1 => ?_⟩
  have n0 : H0 a = none ∧ a ∉ p.m := by
    have nmp : a ∉ p.m := fun z => nA.2 (by
      have key : ∀ (as : List Addr), a ∈ (p.muts as).m := fun as => by
        induction as with
        | nil => exact z
        | cons b r ih => exact List.mem_append.mpr (.inl ih)
      exact key as)
    refine ⟨?_, nmp⟩
    cases q0 : H0 a with
    | none => rfl
    | some o =>
      rw [e1 a o nmp q0] at nA
      cases nA.1
  exact ⟨a, H0, σ0, ρ0, c0, fun b m => (List.mem_cons.mp m).elim (fun z => by rw [z]; exact n0) (na b), ext_muts na e1 e2, q, hl1.trans hl, s1⟩
/-- the new list is returned -/
theorem rso_ret {a : Addr} (h : RE X W (p.mut a) ρ (c ++ [.lst ds]) e (.val (.mut c.length) false (c ++ [.lst ds]))) : RSo X W p [a] ρ (c ++ [.lst ds]) [.Return (some e) pos] (.rt (.lst ⟨false, true⟩ ds) true c) := by
  refine pss_imp (show RSs X W (p.mut a) ρ (c ++ [.lst ds]) [.Return (some e) pos] (.rt (.mut c.length) false (c ++ [.lst ds])) from rss_ret (rs_ret h)) fun De σ H ⟨H0, σ0, ρ0, c0, na, e1, q, hl, s⟩ => ⟨s, fun v H2 e2 p2 dv hnw => ?_⟩
  clear hnw
  have n0 := na a (List.mem_singleton.mpr rfl)
  have hn : p.m.length = c.length := by
    have := p2.1.2.1
    rw [List.length_append] at this
    have e : (p.m ++ [a]).length = c.length + 1 := this
    rw [List.length_append] at e
    exact Nat.succ.inj e
  have po : PoolAt X.K p H2 c := by
    have z := PoolAt.out (p := p) p2
    rw [hn, List.take_left'] at z
    · exact z
    · rfl
  have ha : (p.m ++ [a])[c.length]? = some a := by
    rw [← hn, List.getElem?_append_right (Nat.le_refl _)]
    simp
  obtain ⟨vs, hv2, dvs⟩ : CellAt X.K (p.mut a) H2 a (.lst ds) := p2.1.2.2 c.length a (.lst ds) ha (by simp)
  have eb : v = .ref a := by
    generalize hm : D.mut c.length = dm at dv
    cases dv <;> cases hm
    rename_i b hb
    have hb' : (p.m ++ [a])[c.length]? = some b := hb
    rw [ha] at hb'
    rw [Option.some.inj hb']
  subst eb
  have vis : hide p H2 a = some (.lst vs) := by
    rw [hide_ne]
    · exact hv2
    · rintro (z | z)
      · exact n0.2 z
      · obtain ⟨o, ho⟩ := (st_sr q).pl.2 a z
        rw [n0.1] at ho
        cases ho
  have e3 : Ext p H0 H2 := ext_muts (as := [a]) na e1 e2
  refine q.2 _ H2 e3 po (.lst ⟨(fun z => nomatch z), fun _ => vis⟩ (.inl (.inl vis)) (dvs.sub (fun b o y => by rw [hide_flat] at y; exact sub_mut b o y) fun i b z => by simp [HD.flat] at z)) fun _ b eb => ?_
  cases eb
  have sm : Sub (hide (p.mut a) H2) (hide (p.also a) H2) := fun b o z => by
    obtain ⟨z1, z2⟩ := hide_some z
    rw [hide_ne]
    · exact z1
    · rintro (y | y)
      · exact z2 (.inl (List.mem_append.mpr (.inl y)))
      · rcases List.mem_cons.mp y with y | y
        · exact z2 (.inl (List.mem_append.mpr (.inr (List.mem_singleton.mpr y))))
        · exact z2 (.inr y)
  refine ⟨n0, ⟨⟨po.1.1, po.1.2.1, fun i b y hb hy => ?_⟩, fun b m => ?_⟩, fun g ds' e' => ?_⟩
  · refine (p2.1.2.2 i b y (mut_at hb) ?_).sub sm rfl
    rw [List.getElem?_append_left (List.getElem?_eq_some_iff.mp hy).1]
    exact hy
  · rcases List.mem_cons.mp m with rfl | m
    · exact ⟨_, hv2⟩
    · exact po.2 b m
  · cases e'
    exact ⟨vs, hv2, dvs.sub (fun b o y => by rw [hide_flat] at y; exact sm b o y) fun i b z => by simp [HD.flat] at z⟩
end
end LA


namespace K41
open PySem PySem.Spec PyProof.Rows L2 LA

/-! ### two branches -/
def nw (m : List Nat) (p : Int) (c : Nat) : List Nat := m.set p.toNat c
def repR : FSpec := fun ds c o => ∃ (l : List Nat) (p : Int) (ch : Nat), ds = [.str (tx l), .int p, .str (chr1 ch)] ∧ 0 ≤ p ∧ p.toNat < l.length ∧ l.length ≤ 1000 ∧ o = .val (.str (tx (nw l p ch))) true c
def brR : FSpec := fun ds c o => ∃ (l : List Nat) (p : Int), ds = [.str (tx l), .int p] ∧ 0 ≤ p ∧ p.toNat < l.length ∧ l.length ≤ 1000 ∧ o = .val (.tup [.str (tx (nw l p 48)), .str (tx (nw l p 49))]) true c
section
variable {P : Program} {w : World} {K : PySem.W.Frag} {mg : Str → Option Value} {base : Heap} {BT : Addr}
theorem scRep : FnScope ["pattern", "position", "letter"] ["pattern", "position", "letter"] (defScope (top 25)) := ⟨rfl, rfl, rfl, by decide +kernel, rfl, by decide +kernel, by decide +kernel⟩
theorem ok_rep {f : Addr} {fd : FuncData} (F : Fun K "_replaced" "_replaced" (top 25) f fd) : FnOk P w K mg base CX0 1 f fd ["pattern", "position", "letter"] (spF K repR) := by
  refine fn_val F scRep (fun ds c o h => ?_) (fun ds c o h => ?_) (fun cdv A outer s H E hr p ds c o h => ?_)
  · obtain ⟨l, p, ch, rfl, _⟩ := h
    rfl
  · obtain ⟨l, p, ch, _, _, _, _, rfl⟩ := h
    exact ⟨_, _, _, rfl⟩
  · obtain ⟨l, pp, ch, rfl, h0, hl, hz, rfl⟩ := h
    have zt : (tx l).length ≤ sizeLine := sz_le (by rw [tx_len]; omega)
    obtain ⟨n, rfl⟩ : ∃ n : Nat, pp = ((n : Nat) : Int) := ⟨pp.toNat, (Int.toNat_of_nonneg h0).symm⟩
    have hl : n < l.length := hl
    have e : tx (nw l ((n : Nat) : Int) ch) = tx (l.take n) ++ chr1 ch ++ tx (l.drop (n + 1)) := by
      rw [show chr1 ch = tx [ch] from rfl, tx_app, tx_app]
      congr 1
      exact (set_cut hl).symm
    rw [e]
    refine .inl (rss_ret (rs_ret (re_bin (n2 := true) op_add_str (re_bin (n1 := true) op_add_str (re_to (re_slS (re_var 0) rp_none (rp_some (W := Wf) (re_var 1)) zt) (congrArg D.str (cut_lo (by omega)))) (re_var 2) (ov_addS ?_)) (re_to (re_slS (re_var 0) (rp_some (W := Wf) (nw := true) (re_to (re_bin op_add (re_var 1) re_int ov_ii) (d' := .int ((n + 1 : Nat) : Int)) (congrArg D.int (by omega)))) rp_none zt) (congrArg D.str (cut_hi (by omega)))) (ov_addS ?_))))
    · rw [tx_len, List.length_take]
      show min _ _ + 1 ≤ _
      exact sz_le (by omega)
    · rw [show chr1 ch = tx [ch] from rfl, tx_app, tx_len, tx_len, List.length_append, List.length_take, List.length_drop]
      show min _ _ + 1 + _ ≤ _
      exact sz_le (by omega)
abbrev RepD (P : Program) (w : World) (K : PySem.W.Frag) (mg : Str → Option Value) (base : Heap) := Def0 P w K mg base 1 "_replaced" ["pattern", "position", "letter"] repR
theorem scBr : FnScope ["pattern", "position"] ["pattern", "position"] (defScope (top 20)) := ⟨rfl, rfl, rfl, by decide +kernel, rfl, by decide +kernel, by decide +kernel⟩
theorem ok_br {f : Addr} {fd : FuncData} (T : RepD P w K mg base) (F : Fun K "branches" "branches" (top 20) f fd) : FnOk P w K mg base CX0 2 f fd ["pattern", "position"] (spF K brR) := by
  refine fn_val F scBr (fun ds c o h => ?_) (fun ds c o h => ?_) (fun cdv A outer s H E hr p ds c o h => ?_)
  · obtain ⟨l, p, rfl, _⟩ := h
    rfl
  · obtain ⟨l, p, _, _, _, _, rfl⟩ := h
    exact ⟨_, _, _, rfl⟩
  · obtain ⟨l, pp, rfl, h0, hl, hz, rfl⟩ := h
    exact .inl (rss_ret (rs_ret (re_tup (ra_cons (re_c0 T hr (ra_cons (re_var 0) (ra_cons (re_var 1) (ra_cons re_str ra_nil))) ⟨l, pp, 48, rfl, h0, hl, hz, rfl⟩) (ra_cons (re_c0 T hr (ra_cons (re_var 0) (ra_cons (re_var 1) (ra_cons re_str ra_nil))) ⟨l, pp, 49, rfl, h0, hl, hz, rfl⟩) ra_nil)) (by show 2 ≤ 100000; decide))))
abbrev BrD (P : Program) (w : World) (K : PySem.W.Frag) (mg : Str → Option Value) (base : Heap) := Def0 P w K mg base 2 "branches" ["pattern", "position"] brR
end
end K41

/-! a list that changes, walked, searched, copied, emptied, and seen as one that does not -/
namespace LA
open PySem PySem.Spec PyProof.Rows L2
section
variable {X : Cx} {W : WX} {p : HD} {ρ ρ1 ρ2 ρ' : Rho} {c c1 c2 c' cc : PC} {e t : Expr} {tg it : Expr} {st : Stmt} {body : List Stmt} {pos : Pos} {g : TG} {gg : G} {ds xs : List D} {k : Nat} {x : Str} {nw : Bool} {d : D} {vs : List Nat} {K : PySem.W.Frag}
theorem dvs_unflat {H : Hp} {us : List V} (h : DVs K p.flat H us ds) : DVs K p H us ds := h.sub (fun b o y => by rw [hide_flat] at y; exact y) fun i b z => by simp [HD.flat] at z
/-- an iterator that yields the data xs while c stays -/
def YieldsM (K : PySem.W.Frag) (p : HD) (J : It) (xs : List D) (c : PC) (H0 : Hp) : Prop :=
  ∀ (q : HD) (H1 : Hp), q.m = p.m → Sub (hide p H0) (hide q H1) → PoolAt K q H1 c →
    J.stop xs.length H1 ∧ ∀ i d, xs[i]? = some d → J.go i H1 ∧ ∀ x H2, J.yld i H1 x H2 → Ext q H1 H2 ∧ PoolAt K q H2 c ∧ DV K q H2 x d
def tIM (K : PySem.W.Frag) (W : WX) (p : HD) (ρ : Rho) (c : PC) (xs : List D) (c' : PC) : TI := fun σ H R => SR K p H σ ρ c ∧ ∀ J H', Ext p H H' → PoolAt K p H' c' → YieldsM K p J xs c' H' → R J H'
theorem ri_mut (h : RE X W p ρ c e (.val (.mut k) nw c1)) (hc : c1[k]? = some (.lst xs)) : PI X tg e (tIM X.K W p ρ c xs c1) :=
  pi_imp (pi_list h) fun σ H R ⟨s, kk⟩ => ⟨s, fun v H1 e1 p1 dv _ => by
    obtain ⟨a, us, rfl, ha, hv, r⟩ := mut_lst dv p1 hc
    refine ⟨a, rfl, ⟨us, .inl (.inl hv)⟩, kk _ H1 e1 p1 fun q H2 qe qs p2 => ?_⟩
    have ha2 : q.m[k]? = some a := by rw [qe]; exact ha
    obtain ⟨us2, hv2, r2⟩ : CellAt X.K q H2 a (.lst xs) := p2.1.2.2 k a _ ha2 hc
    have hq2 : SqL X.K H2 a us2 := .inl (.inl hv2)
    refine ⟨⟨us2, hq2, Nat.le_of_eq r2.length⟩, fun i d hd => ?_⟩
    obtain ⟨v, h1, h2⟩ := (dvs_unflat r2).get hd
    refine ⟨⟨us2, v, hq2, h1⟩, fun x H3 y => ?_⟩
    obtain ⟨rfl, h3⟩ := y
    have e' : x = v := Option.some.inj ((h3 us2 hq2).symm.trans h1)
    subst e'
    exact ⟨Ext.refl _ _, p2, h2⟩⟩
/-- all turns go on, and c stays -/
theorem rs_forM (ρs ρt : Nat → Rho) (hp : PassesOwn (model X.prog X.w) X.A X.env X.xe) (hc : X.calm = true) (h0 : ρs 0 = ρ) (hi : PI X tg it (tIM X.K W p ρ c xs c1)) (hg : PG X tg g)
    (htg : ∀ i d, xs[i]? = some d → TgOk X.K g vs d (ρs i) (ρt i))
    (hb : ∀ i d, xs[i]? = some d → RSs X W p (ρt i) c1 body (.nx (ρs (i + 1)) c1))
    (hs : ∀ x, foldedSetIterable it X.env x = pure x := by intro _; rfl) : RS X W p ρ c (.For tg it body [] pos) (.nx (ρs xs.length) c1) := by
  subst h0
  have PU : PSs X body (fun De σ H => ∃ (i : Nat) (so : SO), RSs X W p (ρt i) c1 body so ∧ tSt X.K W p (ρt i) c1 so De σ H) := ⟨fun pins s σ H De I ⟨i, so, h1, h2⟩ => h1.run pins s σ H De I h2⟩
  refine ps_imp (ps_for hp hc hi hg PU hs) fun De σ H h => ?_
  refine ⟨st_sr h, fun J H1 e1 p1 yl => ?_⟩
  refine ⟨fun i m σ2 H2 => m = xs.length - i ∧ i ≤ xs.length ∧ Ext p H1 H2 ∧ SR X.K p H2 σ2 (ρs i) c1, ⟨xs.length, by simp, Nat.zero_le _, Ext.refl _ _, ⟨((st_sr h).mono e1 p1).len, ((st_sr h).mono e1 p1).at', p1⟩⟩, ?_⟩
  rintro i m σ2 H2 ⟨rfl, hi', e2, s2⟩
  obtain ⟨hstop, hgo⟩ := yl p H2 rfl e2.hide s2.pl
  by_cases hlt : i < xs.length
  · have hd : xs[i]? = some (xs[i]'hlt) := List.getElem?_eq_getElem _
    obtain ⟨g1, g2⟩ := hgo i _ hd
    refine .inr ⟨g1, fun σ' H' => Ext p H1 H' ∧ SR X.K p H' σ' (ρs (i + 1)) c1, fun σ' H' ⟨a1, a2⟩ => ⟨xs.length - (i + 1), by omega, rfl, hlt, a1, a2⟩, fun x H3 hy => ?_⟩
    obtain ⟨e3, p3, dx⟩ := g2 x H3 hy
    refine (htg i _ hd).run p c1 x _ H3 _ dx (s2.mono e3 p3) p3 fun σ3 s3 _ => ⟨i, _, hb i _ hd, s3, fun σ4 H4 e4 s4 => ⟨(e2.trans e3).trans e4, s4⟩⟩
  · have e : i = xs.length := by omega
    subst e
    exact .inl ⟨hstop, h.2 σ2 H2 (e1.trans e2) s2⟩
/-- x in a list that changes, of flat items -/
theorem ov_inM {y : D} {v : V} {ws : List V} {neg : Bool} (hc : c[k]? = some (.lst ds)) (hx : scD y = some v) (hs : ds.map scD = ws.map some) (fx : flatV v = true) (fs : ws.all flatV = true) :
    OV K p (rIn K neg) y (.mut k) (.bl (if neg then !inV v ws else inV v ws)) true c := fun v' u' H Q dv du hp kk => by
  have e1 := dv_sc dv hx
  subst e1
  obtain ⟨a, us, rfl, ha, hv, r⟩ := mut_lst du hp hc
  have e2 := dvs_sc r hs
  subst e2
  exact ⟨_, _, rfl, .inl (.inl (.inl hv)), fx, fs, kk _ H (Ext.refl p H) hp (.bl _) fun _ => New.sc (by intro a h; cases h)⟩
theorem cv_listM (hc : c[k]? = some (.lst ds)) : CV K p (fun vs H Q => ∃ p ys, vs = [.ref p] ∧ (SqL K H p ys ∨ SqT K H p ys) ∧ ∀ l, H l = none → Q (.ref l) (upd H l (.lst ys))) [.mut k] (.lst ⟨false, true⟩ ds) true c := fun vs H Q dvs hp kk => by
  cases dvs with
  | cons h1 r =>
    cases r
    obtain ⟨a, us, rfl, ha, hv, r⟩ := mut_lst h1 hp hc
    have r := dvs_unflat r
    exact ⟨_, _, rfl, .inl (.inl (.inl hv)), fun l nl => kk _ _ (Ext.new nl) (hp.upd nl) (.lst ⟨(fun z => nomatch z), fun _ => hide_upd hp nl⟩ (.inl (.inl (hide_upd hp nl))) (r.mono (Ext.new nl))) fun _ => New.lst hp nl r⟩
theorem cv_tupM (hc : c[k]? = some (.lst ds)) : CV K p (fun xs H Q => ∃ p ys, xs = [.ref p] ∧ ((SqL K H p ys ∧ ∀ l, H l = none → Q (.ref l) (upd H l (.tup ys))) ∨ (SqT K H p ys ∧ Q (.ref p) H))) [.mut k] (.tup ds) true c := fun vs H Q dvs hp kk => by
  cases dvs with
  | cons h1 r =>
    cases r
    obtain ⟨a, us, rfl, ha, hv, r⟩ := mut_lst h1 hp hc
    have r := dvs_unflat r
    exact ⟨_, _, rfl, .inl ⟨.inl (.inl hv), fun l nl => kk _ _ (Ext.new nl) (hp.upd nl) (.tup (.inl (.inl (hide_upd hp nl))) (r.mono (Ext.new nl))) fun _ => New.oth hp nl (by intro _ _ z; cases z)⟩⟩
/-- x.clear() -/
theorem rs_clear (i k : Nat) {xp apos cpos : Pos} (hc : c[k]? = some (.lst ds)) (hρ : ρ[i]? = some (some (.mut k)) := by rfl) (hN : X.N[i]? = some x := by rfl) (hv : Vis X.env.scope x := by first | exact Or.inl rfl | exact Or.inr (Or.inl rfl) | exact Or.inr (Or.inr rfl))
    (hd : (x == ("__debug__" : Str)) = false := by decide) (hcd : (x == ("__classdict__" : Str)) = false := by decide) (hline : (apos.endLine == cpos.line) = true := by rfl) (hsw : swapsWith (.Call (.Attribute (.Name x xp) "clear" apos) [] [] cpos) none pos.line X.env = pure false := by rfl)
    (hbase : attributeBase (.Name x xp) "clear" X.env (eval (.Name x xp) X.env) = eval (.Name x xp) X.env := by rfl) :
    RS X W p ρ c (.Expr (.Call (.Attribute (.Name x xp) "clear" apos) [] [] cpos) pos) (.nx ρ (c.set k (.lst []))) := by
  have PB := pe_bm0 (cpos := cpos) (apos := apos) PySem.F.plainAttrs_list PySem.F.slot_list_clear PySem.F.type_list_clear mt_clear (pe_var (pos := xp) hN hv hd hcd) hbase hline
  refine ps_imp (ps_expr PB hsw) fun De σ H h => ?_
  obtain ⟨o, q1, q2⟩ := h.1.at' i _ hρ
  obtain ⟨a, vs0, rfl, ha, hv0, _⟩ := mut_lst q2 h.1.pl hc
  have m : a ∈ p.m := List.mem_of_getElem? ha
  refine ⟨_, q1, .inl ⟨rfl, _, .inl (.inl hv0)⟩, a, vs0, rfl, rfl, hv0, ?_⟩
  exact h.2 σ _ (ext_upd m) (h.1.mono (ext_upd m) (h.1.pl.put ha ⟨_, upd_same, .nil⟩))
end
end LA

/-! a test asked while the last list that changes is seen as one that does not -/
namespace LA
open PySem PySem.Spec PyProof.Rows L2
def isSc : D → Bool
  | .non => true
  | .bl _ => true
  | .int _ => true
  | .str _ => true
  | _ => false
def ScCell (y : Cell) : Prop := ∃ es, y = .lst es ∧ es.all isSc = true
section
variable {K : PySem.W.Frag} {p q : HD} {H H' : Hp}
theorem dv_move {v : V} {d : D} (h : DV K p H v d) (e : isSc d = true) : DV K q H' v d := by
  cases h <;> first | (cases e; done) | constructor
theorem dvs_move : ∀ {vs : List V} {ds : List D}, DVs K p H vs ds → ds.all isSc = true → DVs K q H' vs ds
  | _, _, .nil, _ => .nil
  | _, _, .cons h r, e => by
    rw [List.all_cons, Bool.and_eq_true_iff] at e
    exact .cons (dv_move h e.1) (dvs_move r e.2)
end
inductive Frz (n : Nat) (ds : List D) : Rho → Rho → Prop
  | nil : Frz n ds [] []
  | non {r r' : Rho} : Frz n ds r r' → Frz n ds (none :: r) (none :: r')
  | low {d : D} {r r' : Rho} : lowD n d = true → Frz n ds r r' → Frz n ds (some d :: r) (some d :: r')
  | seen {r r' : Rho} : Frz n ds r r' → Frz n ds (some (.mut n) :: r) (some (.lst ⟨false, true⟩ ds) :: r')
theorem Frz.len {n : Nat} {ds : List D} : ∀ {r r' : Rho}, Frz n ds r r' → r.length = r'.length
  | _, _, .nil => rfl
  | _, _, .non h => by rw [List.length_cons, List.length_cons, Frz.len h]
  | _, _, .low _ h => by rw [List.length_cons, List.length_cons, Frz.len h]
  | _, _, .seen h => by rw [List.length_cons, List.length_cons, Frz.len h]
theorem Frz.get {n : Nat} {ds : List D} : ∀ {r r' : Rho}, Frz n ds r r' → ∀ (i : Nat) (d : D), r'[i]? = some (some d) → (r[i]? = some (some d) ∧ lowD n d = true) ∨ (d = .lst ⟨false, true⟩ ds ∧ r[i]? = some (some (.mut n)))
  | _, _, .nil, _, _, h => by simp at h
  | _, _, .non _, 0, _, h => by cases h
  | _, _, .non h, i + 1, d, z => Frz.get h i d z
  | _, _, .low l _, 0, _, h => by
    cases Option.some.inj (Option.some.inj h)
    exact .inl ⟨rfl, l⟩
  | _, _, .low _ h, i + 1, d, z => Frz.get h i d z
  | _, _, .seen _, 0, _, h => by
    cases Option.some.inj (Option.some.inj h)
    exact .inr ⟨rfl, rfl⟩
  | _, _, .seen h, i + 1, d, z => Frz.get h i d z
section
variable {X : Cx} {W : WX} {p : HD} {ρ ρf : Rho} {c c1 : PC} {t : Expr} {ds : List D} {b : Bool}
theorem rt_frz {a : Addr} (h : RT X W p ρf c t (.val b c1)) (fz : Frz c.length ds ρ ρf) (hz : p.z = []) (hs : ∀ y ∈ c1, ScCell y) : RT X W (p.mut a) ρ (c ++ [.lst ds]) t (.val b (c1 ++ [.lst ds])) := by
  refine pt_imp h fun σ H Q ⟨s, k⟩ => ?_
  have hn : p.m.length = c.length := by
    have := s.pl.1.2.1
    rw [List.length_append] at this
    have e : (p.m ++ [a]).length = c.length + 1 := this
    rw [List.length_append] at e
    exact Nat.succ.inj e
  have po : PoolAt X.K p H c := by
    have z := PoolAt.out (p := p) s.pl
    rw [hn, List.take_left'] at z
    · exact z
    · rfl
  have ha : (p.m ++ [a])[c.length]? = some a := by
    rw [← hn, List.getElem?_append_right (Nat.le_refl _)]
    simp
  have nda : a ∉ p.m := fun z => by
    have nd : (p.m ++ [a]).Nodup := s.pl.1.1
    exact (List.nodup_append.mp nd).2.2 a z a (List.mem_singleton.mpr rfl) rfl
  obtain ⟨vs, hv, dvs⟩ : CellAt X.K (p.mut a) H a (.lst ds) := s.pl.1.2.2 c.length a (.lst ds) ha (by simp)
  have vis : hide p H a = some (.lst vs) := by
    rw [hide_ne]
    · exact hv
    · rintro (z | z)
      · exact nda z
      · rw [hz] at z
        cases z
  refine ⟨⟨by rw [← fz.len]; exact s.len, fun i d q => ?_, po⟩, fun H1 e1 p1 => k H1 (fun x o n y => e1 x o (fun z => n (List.mem_append.mpr (.inl z))) y) ?_⟩
  · rcases fz.get i d q with ⟨q1, l⟩ | ⟨rfl, q1⟩
    · obtain ⟨v, h1, h2⟩ := s.at' i d q1
      exact ⟨v, h1, h2.low (n := c.length) sub_mut (fun i b li hi => at_mut (by rw [hn]; exact li) hi) l⟩
    · obtain ⟨v, h1, h2⟩ := s.at' i _ q1
      refine ⟨v, h1, ?_⟩
      obtain ⟨b, us, rfl, hb, hv2, r2⟩ := mut_lst h2 s.pl (ds := ds) (by simp)
      have eb : b = a := by
        have hb' : (p.m ++ [a])[c.length]? = some b := hb
        rw [ha] at hb'
        exact (Option.some.inj hb').symm
      subst eb
      exact .lst ⟨(fun z => nomatch z), fun _ => vis⟩ (.inl (.inl vis)) (dvs.sub (fun b o y => by rw [hide_flat] at y; exact sub_mut b o y) fun i b z => by simp [HD.flat] at z)
  · have hv1 : H1 a = some (.lst vs) := e1 a _ nda hv
    have pa : PoolAt X.K (p.also a) H1 c1 := by
      refine ⟨⟨p1.1.1, p1.1.2.1, fun i b y hb hy => ?_⟩, fun b m => ?_⟩
      · obtain ⟨es, rfl, he⟩ := hs y (List.mem_of_getElem? hy)
        obtain ⟨us, u1, u2⟩ : CellAt X.K p H1 b (.lst es) := p1.1.2.2 i b _ hb hy
        exact ⟨us, u1, dvs_move u2 he⟩
      · rcases List.mem_cons.mp m with rfl | m
        · exact ⟨_, hv1⟩
        · exact p1.2 b m
    refine pa.in' nda ⟨vs, hv1, dvs.sub (fun b o y => ?_) fun i b z => by simp [HD.flat] at z⟩
    rw [hide_flat] at y ⊢
    obtain ⟨y1, y2⟩ := hide_some y
    rw [hide_ne y2]
    exact e1 b o (fun z => y2 (.inl (List.mem_append.mpr (.inl z)))) y1
end
end LA

/-! what the head leaves of a classmethod -/
namespace LA
open PySem PySem.Spec PyProof.Rows L2
structure Gcm (K : PySem.W.Frag) (C : Addr) (m q : Str) (st : Stmt) : Prop where
  ex : ∃ p g fd, ClX.CRead K C (.type "type") ∧ ClX.CMet K C (.type "type") m p g ∧ Fun K m q st g fd
theorem gcm_mk {K : PySem.W.Frag} {C : Addr} {m q : Str} {st : Stmt} {p g : Addr} {rest : List Value} {oc kV dc pm cd ct : Value} {od an : Option Addr} {sl : Array (Option Value)} (rd : PySem.W.readsIn K C (.type "type") = true) (ga : PySem.W.specialIn K (.ref C) "__getattribute__" = some (some (.builtin "type.__getattribute__")))
    (a : PySem.W.findCls K (.ref C) (.type "type") m = some (.get (.builtin "classmethod.__get__") (.ref p) .none (.ref C))) (r : PySem.W.recIn K p "classmethod" = some (.ref g :: rest))
    (l : K.lookup g = some ⟨oc, od, .func (PySem.W.fnOf m q (defArgs st) (defBody st) (defScope st) .none kV dc pm an cd ct), sl⟩) (c : PySem.W.codeIn K cd q = true) (k : PySem.W.keepIn K (.ref g) = true) : Gcm K C m q st :=
  ⟨p, g, _, ⟨rd, ga⟩, ⟨a, ⟨rest, r⟩, by unfold PySem.W.fnIn; rw [l]⟩, fun_mk l c k⟩
end LA

/-! while -/
namespace LA
open PySem PySem.Spec PyProof.Rows L2
section
variable {X : Cx} {W : WX} {p : HD} {ρ : Rho} {c : PC} {t : Expr} {body : List Stmt} {pos : Pos}
/-- n turns, then the test fails -/
theorem rs_while (n : Nat) (ρs : Nat → Rho) (cs : Nat → PC) (hp : PassesOwn (model X.prog X.w) X.A X.env X.xe) (h0 : ρs 0 = ρ) (hc0 : cs 0 = c)
    (ht : ∀ i, i < n → RT X W p (ρs i) (cs i) t (.val true (cs i))) (hf : RT X W p (ρs n) (cs n) t (.val false (cs n)))
    (hb : ∀ i, i < n → RSs X W p (ρs i) (cs i) body (.nx (ρs (i + 1)) (cs (i + 1)))) : RS X W p ρ c (.While t body [] pos) (.nx (ρs n) (cs n)) := by
  subst h0
  subst hc0
  have PTt : PT X t (fun σ H Q => ∃ (i : Nat) (o : TO), RT X W p (ρs i) (cs i) t o ∧ tT X.K W p (ρs i) (cs i) o σ H Q) := ⟨fun pins s σ H Q I ⟨i, o, h1, h2⟩ => h1.run pins s σ H Q I h2⟩
  have PU : PSs X body (fun De σ H => ∃ (i : Nat) (so : SO), RSs X W p (ρs i) (cs i) body so ∧ tSt X.K W p (ρs i) (cs i) so De σ H) := ⟨fun pins s σ H De I ⟨i, so, h1, h2⟩ => h1.run pins s σ H De I h2⟩
  refine ps_imp (ps_while hp PTt PU) fun De σ H h => ?_
  refine ⟨fun m σ2 H2 => ∃ i, m = n - i ∧ i ≤ n ∧ Ext p H H2 ∧ SR X.K p H2 σ2 (ρs i) (cs i), ⟨n, 0, by simp, Nat.zero_le _, Ext.refl _ _, st_sr h⟩, ?_⟩
  rintro m σ2 H2 ⟨i, rfl, hi, e2, s2⟩
  by_cases hlt : i < n
  · refine ⟨i, _, ht i hlt, s2, fun H3 e3 p3 => ?_⟩
    exact ⟨fun σ' H' => Ext p H H' ∧ SR X.K p H' σ' (ρs (i + 1)) (cs (i + 1)), fun σ' H' ⟨a1, a2⟩ => ⟨n - (i + 1), by omega, i + 1, rfl, hlt, a1, a2⟩, i, _, hb i hlt, s2.mono e3 p3, fun σ4 H4 e4 s4 => ⟨(e2.trans e3).trans e4, s4⟩⟩
  · have e : i = n := by omega
    subst e
    refine ⟨i, _, hf, s2, fun H3 e3 p3 => ?_⟩
    exact iteF (h.2 σ2 H3 (e2.trans e3) (s2.mono e3 p3))
end
end LA

/-! trees of tuples; three names at once; f-strings; a loop whose turn raises -/
namespace LA
open PySem PySem.Spec PyProof.Rows L2
inductive Tr where
  | leaf (i : Int)
  | node (p : Int) (l r : Tr)
def trD : Tr → D
  | .leaf i => .int i
  | .node p l r => .tup [.int p, trD l, trD r]
def nodes : Tr → Nat
  | .leaf _ => 0
  | .node _ l r => nodes l + nodes r + 1
def okT (n : Int) : Tr → Bool
  | .leaf i => decide (0 ≤ i) && decide (i < 2)
  | .node p l r => (decide (0 ≤ p) && decide (p < n)) && (okT n l && okT n r)
theorem tr_ty (t : Tr) : ∃ y, tyD (trD t) = some y := by
  cases t <;> exact ⟨_, rfl⟩
theorem tr_low (n : Nat) : ∀ t : Tr, lowD n (trD t) = true
  | .leaf _ => rfl
  | .node _ l r => by
    show (true && (lowD n (trD l) && (lowD n (trD r) && true))) = true
    rw [tr_low n l, tr_low n r]
    rfl
section
variable {X : Cx} {W : WX} {p : HD} {ρ ρ1 : Rho} {c c1 c2 c3 : PC} {e a b tg it : Expr} {es : List Expr} {pos apos : Pos} {d d1 d2 d3 : D} {n1 n2 nw : Bool} {o o' : EO} {K : PySem.W.Frag} {body : List Stmt}
theorem tg_three {i j k : Nat} {vs : List Nat} (hi : i ∈ vs) (hj : j ∈ vs) (hk : k ∈ vs) : TgOk K (gTup K 3 (gCons (gName i) (gCons (gName j) (gCons (gName k) gNil)))) vs (.tup [d1, d2, d3]) ρ (((ρ.set i (some d1)).set j (some d2)).set k (some d3)) :=
  ⟨fun q c x σ H Q dv s hp kk => by
    cases dv with
    | tup hq r =>
      cases r with
      | cons h1 r =>
        cases r with
        | cons h2 r =>
          cases r with
          | cons h3 r =>
            cases r
            exact ⟨_, _, rfl, un_sqT hq, rfl, _, _, rfl, _, _, rfl, _, _, rfl, rfl, kk _ (((s.set i h1).set j h2).set k h3) ((wipe_set hk).trans ((wipe_set hj).trans (wipe_set hi)))⟩⟩
/-! ### f-strings -/
theorem re_fmtI {i : Int} (h : RE X W p ρ c e (.val (.int i) nw c1)) (hi : 0 ≤ i ∧ i < 10) : RE X W p ρ c (.FormattedValue e (-1) none pos) (.val (.str (chr1 (48 + i.toNat))) true c1) :=
  pe_imp (pe_fmt h) fun σ H Q ⟨s, k⟩ => ⟨s, fun v H1 e1 p1 dv _ => by
    cases dv
    have et : Str.ofString (toString i) = chr1 (48 + i.toNat) := by
      have : i = 0 ∨ i = 1 ∨ i = 2 ∨ i = 3 ∨ i = 4 ∨ i = 5 ∨ i = 6 ∨ i = 7 ∨ i = 8 ∨ i = 9 := by omega
      rcases this with rfl | rfl | rfl | rfl | rfl | rfl | rfl | rfl | rfl | rfl <;> decide
    have lg : i.natAbs.log2 < 1920 := by
      have : i = 0 ∨ i = 1 ∨ i = 2 ∨ i = 3 ∨ i = 4 ∨ i = 5 ∨ i = 6 ∨ i = 7 ∨ i = 8 ∨ i = 9 := by omega
      rcases this with rfl | rfl | rfl | rfl | rfl | rfl | rfl | rfl | rfl | rfl <;> decide
    have q := k (.str (Str.ofString (toString i))) H1 e1 p1 (by rw [et]; exact .str _) fun _ => New.sc (by intro a h; cases h)
    exact .inr ⟨i, rfl, lg, q⟩⟩
theorem re_fmtS {l : List Nat} (h : RE X W p ρ c e (.val (.str (tx l)) nw c1)) (hl : l.length ≤ 100000) : RE X W p ρ c (.FormattedValue e (-1) none pos) (.val (.str (tx l)) true c1) :=
  pe_imp (pe_fmt h) fun σ H Q ⟨s, k⟩ => ⟨s, fun v H1 e1 p1 dv _ => by
    cases dv
    exact .inl ⟨_, rfl, sz_le (by rw [tx_len]; exact hl), k _ H1 e1 p1 (.str _) fun _ => New.sc (by intro a h; cases h)⟩⟩
inductive RJ (X : Cx) (W : WX) (p : HD) (ρ : Rho) : PC → List Expr → List (List Nat) → PC → Prop
  | nil {c : PC} : RJ X W p ρ c [] [] c
  | cons {c c1 c2 : PC} {e : Expr} {es : List Expr} {l : List Nat} {ls : List (List Nat)} {nw : Bool} : RE X W p ρ c e (.val (.str (tx l)) nw c1) → RJ X W p ρ c1 es ls c2 → RJ X W p ρ c (e :: es) (l :: ls) c2
theorem rj_pj : ∀ {c c' : PC} {es : List Expr} {ls : List (List Nat)}, RJ X W p ρ c es ls c' → ∃ ts, PJ X es ts ∧ ∀ (acc : List Nat) (σ : L2.St) (H : Hp) (Q : Str → Hp → Prop), SR X.K p H σ ρ c → acc.length + ls.flatten.length ≤ 100000 →
    (∀ H', Ext p H H' → PoolAt X.K p H' c' → Q (tx (acc ++ ls.flatten)) H') → tJs ts (tx acc) σ H Q
  | _, _, _, _, .nil => ⟨[], .nil, fun acc σ H Q s hz k => by
    have := k H (Ext.refl p H) s.pl
    rw [List.flatten_nil, List.append_nil] at this
    exact this⟩
  | c, c2, _, _, .cons (c1 := c1) (l := l) (ls := ls) (nw := nw) h r => by
    obtain ⟨ts, pj, run⟩ := rj_pj r
    refine ⟨_ :: ts, .cons h pj, fun acc σ H Q s hz k => ⟨s, fun v H1 e1 p1 dv _ => ?_⟩⟩
    cases dv
    rw [List.flatten_cons, List.length_append] at hz
    refine ⟨tx l, rfl, sz_le (by rw [tx_app, tx_len, List.length_append]; omega), ?_⟩
    rw [tx_app]
    refine run (acc ++ l) σ H1 Q (s.mono e1 p1) (by rw [List.length_append]; omega) fun H' e2 p2 => ?_
    have := k H' (e1.trans e2) p2
    rw [List.flatten_cons, ← List.append_assoc] at this
    exact this
theorem re_js {v1 v2 : Expr} {rest : List Expr} {ls : List (List Nat)} {l : List Nat} (h : RJ X W p ρ c (v1 :: v2 :: rest) ls c1) (hl : ls.flatten = l) (hz : l.length ≤ 100000) : RE X W p ρ c (.JoinedStr (v1 :: v2 :: rest) pos) (.val (.str (tx l)) true c1) := by
  obtain ⟨ts, pj, run⟩ := rj_pj h
  subst hl
  exact pe_imp (pe_joined pj) fun σ H Q ⟨s, k⟩ => run [] σ H _ s (by simpa using hz) fun H' e1 p1 => k _ H' e1 p1 (.str _) fun _ => New.sc (by intro a h; cases h)
end
end LA

namespace LA
open PySem PySem.Spec PyProof.Rows L2
section
variable {X : Cx} {W : WX} {p : HD} {ρ ρ1 : Rho} {c c1 c2 c3 : PC} {e a b tg it : Expr} {es : List Expr} {pos apos ps : Pos} {d d1 d2 d3 : D} {n1 n2 nw : Bool} {C : Addr} {fs : List (Str × D)} {g : TG}
theorem re_callTX {T : String} {x : Str} {r : List V → Hp → VK → Prop} (hc : CallR X (.type T) r) (hm : X.mg x = none) (hv : bootBuiltins x = some (.type T)) (ha : RA X W p ρ c (e :: es) (.ex C fs c1))
    (hg : Gl X x := by rfl) (hn : x ≠ "__name__" := by decide) (hdb : (x == ("__debug__" : Str)) = false := by decide)
    (he : starEach (e :: es) X.env = (false, eval e X.env) :: starEach es X.env := by rfl) (hpl : (backTo pos (starEach es X.env)).any (·.1) = false := by rfl) : RE X W p ρ c (.Call (.Name x ps) (e :: es) [] pos) (.ex C fs c1) :=
  pe_imp (pe_callTy hc hg hm hv ha hn hdb he hpl) fun σ H Q h => h
theorem ra_consX {es : List Expr} (ha : RE X W p ρ c e (.ex C fs c1)) (hs : starEach (e :: es) X.env = (false, eval e X.env) :: starEach es X.env := by rfl) : RA X W p ρ c (e :: es) (.ex C fs c1) :=
  pa_imp (pa_cons ha (⟨fun ps pins s σ H Q I h => h.elim⟩ : PA X es fun _ _ _ => False) hs) fun σ H Q h => h
theorem rs_tgX (he : RE X W p ρ c e (.ex C fs c1)) (hg : PG X tg g) (hs : swapsWithSole [tg] e pos.line X.env = pure false := by rfl) (hw : swappedStores [tg] e X.env = pure none := by rfl)
    (h1 : (assignEach [tg] X.env).map (·.2) = [assign tg X.env] := by rfl) : RS X W p ρ c (.Assign [tg] e pos) (.ex C fs c1) :=
  ps_imp (ps_asg he hg hs hw h1) fun De σ H q => tS_ex q _
end
end LA

namespace LA
open PySem PySem.Spec PyProof.Rows L2
/-! ### the bag -/
structure Bg where
  xs : List Int
  w : Int
  s : Int
  n : Int
def Bg.ds (b : Bg) : List D := [.lst ⟨false, true⟩ (b.xs.map D.int), .int b.w, .int b.s, .int b.n]
def Bg.c (b : Bg) : Cell := .lst b.ds
def abI (i : Int) : Int := if i < 0 then -i else i
/-- a cell is taken -/
def Bg.took (b : Bg) : Bg := match b.xs with
  | [] => b
  | x :: r => if b.w = 0 then ⟨r, if abI x ≥ 10 ^ (18 : Int).toNat then abI x else b.w, (b.s * 69069 + x * 48271 + 5) % 2147483647, b.n⟩ else b
def mixV (s n m : Int) : Int := (((((s + n * 40692) % 2147483647) ^ (3 : Int).toNat + n * 16807 + 7) % 2147483629) ^ (2 : Int).toNat + 3 * ((((s + n * 40692) % 2147483647) ^ (3 : Int).toNat + n * 16807 + 7) % 2147483629)) % 2147483587 / 8 % m
def bagV (b : Bg) (m : Int) : Int := if b.took.w > 0 then b.took.w % m else mixV b.took.s (b.took.n + 1) m
def bagC (b : Bg) (m : Int) : Bg := if b.took.w > 0 then { b.took with w := b.took.w / m } else { b.took with n := b.took.n + 1 }
theorem bagV_in {b : Bg} {m : Int} (h : 0 < m) : 0 ≤ bagV b m ∧ bagV b m < m := by
  unfold bagV mixV
  split
  · exact ⟨Int.emod_nonneg _ (by omega), Int.emod_lt_of_pos _ h⟩
  · exact ⟨Int.emod_nonneg _ (by omega), Int.emod_lt_of_pos _ h⟩
def bagR : FSpec := fun ds c o => ∃ (g : G) (ns : List Int), ds = [.lst g (ns.map D.int)] ∧ o = .val (.lst ⟨true, true⟩ (Bg.ds ⟨ns, 0, 29, 0⟩)) true c
def bdrawR : FSpec := fun ds c o => ∃ (m : Int) (b : Bg), ds = [.mut 0, .int m] ∧ c = [b.c] ∧ 0 < m ∧ m.natAbs.log2 < 9000 ∧ o = .val (.int (bagV b m)) false [(bagC b m).c]
section
variable {X : Cx} {W : WX} {p : HD} {ρ : Rho} {c c1 : PC} {e : Expr} {es : List Expr} {pos xp : Pos} {d : D} {nw : Bool} {K : PySem.W.Frag} {g : G} {xs : List D} {ds : List D} {x : Str}
theorem cv_listL : CV K p (fun vs H Q => ∃ p ys, vs = [.ref p] ∧ (SqL K H p ys ∨ SqT K H p ys) ∧ ∀ l, H l = none → Q (.ref l) (upd H l (.lst ys))) [.lst g xs] (.lst ⟨false, true⟩ xs) true c := fun vs H Q dvs hp k => by
  cases dvs with
  | cons h1 r =>
    cases r
    cases h1 with
    | lst hb hq ha =>
      exact ⟨_, _, rfl, .inl (un_sqL hq), fun l nl => k _ _ (Ext.new nl) (hp.upd nl) (.lst ⟨(fun z => nomatch z), fun _ => hide_upd hp nl⟩ (.inl (.inl (hide_upd hp nl))) (ha.mono (Ext.new nl))) fun _ => New.lst hp nl ha⟩
theorem cv_listT : CV K p (fun vs H Q => ∃ p ys, vs = [.ref p] ∧ (SqL K H p ys ∨ SqT K H p ys) ∧ ∀ l, H l = none → Q (.ref l) (upd H l (.lst ys))) [.tup xs] (.lst ⟨false, true⟩ xs) true c := fun vs H Q dvs hp k => by
  cases dvs with
  | cons h1 r =>
    cases r
    cases h1 with
    | tup hq ha =>
      exact ⟨_, _, rfl, .inr (un_sqT hq), fun l nl => k _ _ (Ext.new nl) (hp.upd nl) (.lst ⟨(fun z => nomatch z), fun _ => hide_upd hp nl⟩ (.inl (.inl (hide_upd hp nl))) (ha.mono (Ext.new nl))) fun _ => New.lst hp nl ha⟩
theorem cv_abs {i : Int} : CV K p (fun xs H Q => ∃ i, xs = [.int i] ∧ Q (.int (if i < 0 then -i else i)) H) [.int i] (.int (abI i)) true c := fun vs H Q dvs hp k => by
  cases dvs with
  | cons h r =>
    cases r
    cases h
    exact ⟨i, rfl, k _ H (Ext.refl p H) hp (.int _) fun _ => New.sc (by intro a h; cases h)⟩
theorem cv_gcd {a b : Int} : CV K p rGcd [.int a, .int b] (.int ((Nat.gcd a.natAbs b.natAbs : Nat) : Int)) true c := fun vs H Q dvs hp k => by
  cases dvs with
  | cons h r =>
    cases r with
    | cons h2 r =>
      cases r
      cases h
      cases h2
      exact ⟨a, b, rfl, k _ H (Ext.refl p H) hp (.int _) fun _ => New.sc (by intro a h; cases h)⟩
/-- a call of a built-in that stands under a module's name -/
theorem re_callBf {id : String} {r : List V → Hp → VK → Prop} (hc : CallR X (.builtin id) r) (hm : X.mg x = some (.builtin id)) (ha : RA X W p ρ c (e :: es) (.val ds c1)) (hr : CV X.K p r ds d nw c1)
    (hg : Gl X x := by rfl) (hdb : (x == ("__debug__" : Str)) = false := by decide)
    (he : starEach (e :: es) X.env = (false, eval e X.env) :: starEach es X.env := by rfl) (hpl : (backTo pos (starEach es X.env)).any (·.1) = false := by rfl) : RE X W p ρ c (.Call (.Name x xp) (e :: es) [] pos) (.val d nw c1) :=
  pe_imp (pe_callBfun hc hg hm ha hdb he hpl) fun σ H Q ⟨s, k⟩ => ⟨s, fun vs H1 e1 p1 dvs => hr vs H1 Q dvs p1 fun w H2 e2 p2 dw hn => k w H2 (e1.trans e2) p2 dw fun q => (hn q).back e1⟩
end
/-- // by any int but 0 -/
theorem op_fdivA {X : Cx} : OpR X (binaryOp .FloorDiv) (rI (fun _ j => j ≠ 0 ∧ j.natAbs.log2 < 9000) fun i j => .int (i.fdiv j)) := opI fun i j _ _ _ _ _ hc q => floordiv_int hc.1 q (.inl (PyProof.noPylong_of_log2 hc.2))
theorem log_lt {m : Int} {n : Nat} (h : m.natAbs < 2 ^ n) (hn : 0 < n) : m.natAbs.log2 < n := PySem.Flt.log2_lt_of hn h
end LA

/-! keyword-only parameters with defaults; sum, max; {}; a pair with the list that changed -/
namespace LA
open PySem PySem.Spec PyProof.Rows L2
section
variable {X : Cx} {W : WX} {p : HD} {ρ ρ1 : Rho} {c c1 c2 : PC} {sts : List Stmt} {pos : Pos} {ds xs : List D} {b : D} {nw : Bool} {K : PySem.W.Frag} {g : G}
theorem rso_pair {a : Addr} (h : RSs X W (p.mut a) ρ c1 sts (.rt (.tup [.mut c.length, b]) nw (c ++ [.lst ds]))) (lb : lowD c.length b = true) : RSo X W p [a] ρ c1 sts (.rt (.tup [.lst ⟨false, true⟩ ds, b]) false c) := by
  refine pss_imp h fun De σ H q0 => ?_
  obtain ⟨H0, σ0, ρ0, c0, na, e1, q, hl, s⟩ := q0
  refine ⟨s, fun v H2 e2 p2 dv _ => ?_⟩
  have hz : a ∉ p.z := fun z => by
    obtain ⟨o, ho⟩ := (st_sr q).pl.2 a z
    rw [(na a List.mem_cons_self).1] at ho
    cases ho
  have hlen : p.m.length = c.length := by
    have := p2.1.2.1
    rw [List.length_append] at this
    have e : (p.m ++ [a]).length = c.length + 1 := this
    rw [List.length_append] at e
    exact Nat.succ.inj e
  have po : PoolAt X.K p H2 c := by
    have z := PoolAt.out (p := p) p2
    rw [hlen, List.take_left'] at z
    · exact z
    · rfl
  have ha : (p.m ++ [a])[c.length]? = some a := by
    rw [← hlen, List.getElem?_append_right (Nat.le_refl _)]
    simp
  have nda : a ∉ p.m := (na a List.mem_cons_self).2
  obtain ⟨vs, hv, dvs⟩ : CellAt X.K (p.mut a) H2 a (.lst ds) := p2.1.2.2 c.length a (.lst ds) ha (by simp)
  have vis : hide p H2 a = some (.lst vs) := by
    rw [hide_ne]
    · exact hv
    · rintro (z | z)
      · exact nda z
      · exact hz z
  refine q.2 v H2 (ext_muts (as := [a]) na e1 e2) po ?_ fun z => nomatch z
  cases dv with
  | tup hq r =>
    cases r with
    | cons h1 r =>
      cases r with
      | cons h2 r =>
        cases r
        refine .tup (Sub.sqT sub_mut hq) (.cons ?_ (.cons (h2.low (n := c.length) sub_mut (fun i b li hi => at_mut (by rw [hlen]; exact li) hi) lb) .nil))
        generalize hm : D.mut c.length = dm at h1
        cases h1 <;> cases hm
        rename_i b hb
        have eb : b = a := by
          have hb' : (p.m ++ [a])[c.length]? = some b := hb
          rw [ha] at hb'
          exact (Option.some.inj hb').symm
        subst eb
        exact .lst ⟨(fun z => nomatch z), fun _ => vis⟩ (.inl (.inl vis)) (dvs.sub (fun b o y => by rw [hide_flat] at y; exact sub_mut b o y) fun i b z => by simp [HD.flat] at z)
theorem re_dct0 : RE X W p ρ c (.Dict [] [] pos) (.val (.dct []) true c) :=
  pe_imp pe_dnewK fun σ H Q ⟨s, k⟩ => fun L nL => by
    have pq : PoolAt X.K p (upd H L (.dK [])) c := s.pl.upd nL
    refine k _ _ (Ext.new nL) pq (.dct (.inl (hide_upd s.pl nL)) .nil) fun _ => (fun b z => by
      cases z
      exact ⟨⟨nL, s.pl.not nL ∘ Or.inl⟩, s.pl.also nL, fun g ds z => nomatch z⟩)
theorem cv_sum {ns : List Int} : CV K p (rSum K) [.lst g (ns.map D.int)] (.int ns.sum) true c := fun vs H Q dvs hp k => by
  cases dvs with
  | cons h r =>
    cases r
    cases h with
    | lst hb hq ha =>
      rw [of_ints ha] at hq
      exact ⟨_, ns, rfl, un_sqL hq, k _ H (Ext.refl p H) hp (.int _) fun _ => New.sc (by intro a h; cases h)⟩
def mxL (ns : List Int) : Int := ns.tail.foldl max (ns.headD 0)
theorem mxL_ok : ∀ {ns : List Int} {m : Int}, m ∈ ns → (∀ y ∈ ns, y ≤ m) → m = mxL ns := by
  have key : ∀ (r : List Int) (a : Int), a ≤ r.foldl max a ∧ (∀ y ∈ r, y ≤ r.foldl max a) ∧ (r.foldl max a = a ∨ r.foldl max a ∈ r) := fun r => by
    induction r with
    | nil => exact fun a => ⟨Int.le_refl _, (fun y h => nomatch h), .inl rfl⟩
    | cons b r ih =>
      intro a
      obtain ⟨h1, h2, h3⟩ := ih (max a b)
      refine ⟨Int.le_trans (Int.le_max_left a b) h1, fun y hy => ?_, ?_⟩
      · rcases List.mem_cons.mp hy with rfl | hy
        · exact Int.le_trans (Int.le_max_right a y) h1
        · exact h2 y hy
      · show (r.foldl max (max a b) = a) ∨ r.foldl max (max a b) ∈ b :: r
        rcases h3 with h3 | h3
        · rw [h3]
          by_cases q : a ≤ b
          · rw [Int.max_eq_right q]
            exact .inr List.mem_cons_self
          · rw [Int.max_eq_left (by omega)]
            exact .inl rfl
        · exact .inr (List.mem_cons_of_mem _ h3)
  intro ns m hm hy
  cases ns with
  | nil => cases hm
  | cons a r =>
    obtain ⟨h1, h2, h3⟩ := key r a
    have u : mxL (a :: r) ≤ m := by
      rcases h3 with h3 | h3
      · show r.foldl max a ≤ m
        rw [h3]
        exact hy a List.mem_cons_self
      · exact hy _ (List.mem_cons_of_mem _ h3)
    have l : m ≤ mxL (a :: r) := by
      rcases List.mem_cons.mp hm with rfl | hm
      · exact h1
      · exact h2 m hm
    exact Int.le_antisymm l u
theorem cv_maxL {ns : List Int} (h0 : 0 < ns.length) : CV K p (rMax K) [.lst g (ns.map D.int)] (.int (mxL ns)) true c := fun vs H Q dvs hp k => by
  cases dvs with
  | cons h r =>
    cases r
    cases h with
    | lst hb hq ha =>
      rw [of_ints ha] at hq
      refine ⟨_, ns, rfl, un_sqL hq, h0, fun m h1 h2 => ?_⟩
      rw [mxL_ok h1 h2]
      exact k _ H (Ext.refl p H) hp (.int _) fun _ => New.sc (by intro a h; cases h)
end
/-! ### defs with keyword-only parameters that have defaults -/
structure Gk (K : PySem.W.Frag) (x : Str) (st : Stmt) (kws : List (Str × V)) : Prop where
  ex : ∃ f fd, PySem.W.nsIn K mainGlobals x = some (some (.ref f)) ∧ FunD K x x (defArgs st) (defBody st) (defScope st) [] kws f fd
section
variable {K : PySem.W.Frag} {x qual : Str} {params : Arguments} {body : List Stmt} {scope : Scope} {kws : List (Str × V)} {f : Addr} {fd : FuncData} {ps : List Str}
theorem gk1_mk {x k1 : Str} {st : Stmt} {f T : Addr} {oc dc pm cd ct : Value} {od an : Option Addr} {sl : Array (Option Value)} (a : PySem.W.nsIn K mainGlobals x = some (some (.ref f)))
    (l : K.lookup f = some ⟨oc, od, .func (PySem.W.fnOf x x (defArgs st) (defBody st) (defScope st) .none (.ref T) dc pm an cd ct), sl⟩) (n1 : PySem.W.nsIn K T k1 = some (some .none)) (c : PySem.W.codeIn K cd x = true) (k : PySem.W.keepIn K (.ref f) = true) : Gk K x st [(k1, .non)] :=
  ⟨⟨f, _, a, ⟨⟨oc, od, .none, .ref T, dc, pm, an, cd, ct, sl, rfl, l, c, .inl ⟨rfl, rfl⟩, .inr ⟨T, rfl, fun q hq => by
    rw [List.mem_singleton.mp hq]
    exact ⟨.none, n1, rfl⟩⟩⟩, k⟩⟩⟩
theorem gk2_mk {x k1 k2 : Str} {st : Stmt} {f T : Addr} {oc dc pm cd ct : Value} {od an : Option Addr} {sl : Array (Option Value)} (a : PySem.W.nsIn K mainGlobals x = some (some (.ref f)))
    (l : K.lookup f = some ⟨oc, od, .func (PySem.W.fnOf x x (defArgs st) (defBody st) (defScope st) .none (.ref T) dc pm an cd ct), sl⟩) (n1 : PySem.W.nsIn K T k1 = some (some .none)) (n2 : PySem.W.nsIn K T k2 = some (some .none)) (c : PySem.W.codeIn K cd x = true) (k : PySem.W.keepIn K (.ref f) = true) : Gk K x st [(k1, .non), (k2, .non)] :=
  ⟨⟨f, _, a, ⟨⟨oc, od, .none, .ref T, dc, pm, an, cd, ct, sl, rfl, l, c, .inl ⟨rfl, rfl⟩, .inr ⟨T, rfl, fun q hq => by
    rcases List.mem_cons.mp hq with rfl | hq
    · exact ⟨.none, n1, rfl⟩
    · rw [List.mem_singleton.mp hq]
      exact ⟨.none, n2, rfl⟩⟩⟩, k⟩⟩⟩
/-- f(e, .., k = v, ..): keywords named ks are written, those named ms lack (defaults None) -/
theorem FunD.kbinds0 (F : FunD K x qual params body scope [] kws f fd) (n : Nat) (ks ms : List Str) (g : List Value → List Value → List Value) (gV : List V → List V → List V) (hk : kws ≠ []) (hms : ∀ q ∈ ms, (q, V.non) ∈ kws)
    (hrel : ∀ {vs : List V} {us : List Value} {zs : List V} {ws : List Value}, Vals vs us → Vals zs ws → Vals (gV vs zs) (g us ws))
    (h : ∀ (D : Addr) (doc pm : Value) (an : Option Addr) (cdv ct : Value) (us ws : List Value), us.length = n → ws.length = ks.length →
      KwChain D (ms.map fun m => (m, Value.none)) (bindArgs (PySem.W.fnOf x qual params body scope .none (.ref D) doc pm an cdv ct) ⟨us, ks.zip ws⟩) (ps.zip (g us ws))) : KBn K fd ps n ks g gV := by
  obtain ⟨oc, od, dV, kV, doc, pm, an, cdv, ct, osl, rfl, lk, hcd, hD, hK⟩ := F.ex
  rcases hD with ⟨_, rfl⟩ | ⟨e, _⟩
  · rcases hK with e | ⟨D, rfl, hq⟩
    · exact absurd e hk
    · refine ⟨fun s us ws X l1 l2 => BindsTo.of_looks fun M => KwChain.looks X (fun q hqm => ?_) (h D doc pm an cdv ct us ws l1 l2), hrel⟩
      obtain ⟨m, hm, rfl⟩ := List.mem_map.mp hqm
      obtain ⟨u, e1, e2⟩ := hq _ (hms m hm)
      have e3 : u = Value.none := by cases u <;> first | rfl | exact absurd e2 (by intro z; cases z)
      rw [e3] at e1
      exact e1
  · exact absurd rfl e
end
/-! ### zip of two lists -/
def zipLL (xs ys : List D) : List D := (List.range (min xs.length ys.length)).map fun i => D.tup [xs.getD i .non, ys.getD i .non]
theorem zipLL_at {xs ys : List D} {i : Nat} {d : D} (h : (zipLL xs ys)[i]? = some d) : i < min xs.length ys.length ∧ d = D.tup [xs.getD i .non, ys.getD i .non] := by
  have l := (List.getElem?_eq_some_iff.mp h).1
  unfold zipLL at h l
  rw [List.length_map, List.length_range] at l
  rw [List.getElem?_map, List.getElem?_range l] at h
  exact ⟨l, (Option.some.inj h).symm⟩
section
variable {X : Cx} {W : WX} {p : HD} {ρ : Rho} {c c1 : PC} {e e2 : Expr} {pos : Pos}
theorem ri_zLL {ps tpos : Pos} {elts : List Expr} {kk : Nat} {g g2 : LA.G} {xs ys : List D} (hm : X.mg "zip" = none) (h : RA X W p ρ c [e, e2] (.val [.lst g xs, .lst g2 ys] c1)) (hg : Gl X "zip" := by rfl)
    (hs : starEach [e, e2] X.env = (false, eval e X.env) :: starEach [e2] X.env := by rfl) (hpl : (backTo pos (starEach [e2] X.env)).any (·.1) = false := by rfl) :
    RI X W p ρ c (.Tuple elts kk tpos) (.Call (.Name "zip" ps) [e, e2] [] pos) (zipLL xs ys) c1 :=
  pi_imp (pi_zip hg hm h hs hpl) fun σ H R ⟨s, k⟩ => ⟨s, fun vs H1 e1 p1 dvs => by
    match vs, dvs with
    | _, .cons (.lst (a := a) (xs := ws) hb hq r) (.cons (.lst (a := a2) (xs := ws2) hb2 hq2 r2) .nil) =>
      refine ⟨a, a2, ws, ws2, rfl, un_sqL hq, un_sqL hq2, k _ H1 e1 p1 fun q c' H2 qe qs p2 => ?_⟩
      have hq3 : SqL X.K H2 a ws := un_sqL (qs.sqL hq)
      have hq4 : SqL X.K H2 a2 ws2 := un_sqL (qs.sqL hq2)
      have len : (zipLL xs ys).length = min ws.length ws2.length := by
        unfold zipLL
        rw [List.length_map, List.length_range, r.length, r2.length]
      refine ⟨⟨ws, ws2, hq3, hq4, by omega⟩, fun i d hd => ?_⟩
      obtain ⟨li, rfl⟩ := zipLL_at hd
      have lx : i < xs.length := Nat.lt_of_lt_of_le li (Nat.min_le_left _ _)
      have ly : i < ys.length := Nat.lt_of_lt_of_le li (Nat.min_le_right _ _)
      obtain ⟨v, h1, h2⟩ := r.get (List.getElem?_eq_getElem lx)
      obtain ⟨v2, h3, h4⟩ := r2.get (List.getElem?_eq_getElem ly)
      refine ⟨⟨ws, ws2, v, v2, hq3, hq4, h1, h3⟩, fun x H3 y => ?_⟩
      obtain ⟨T, w, w2, rfl, hT, rfl, hw, hw2⟩ := y
      obtain rfl : w = v := Option.some.inj ((hw ws hq3).symm.trans h1)
      obtain rfl : w2 = v2 := Option.some.inj ((hw2 ws2 hq4).symm.trans h3)
      have ex : xs.getD i .non = xs[i] := by
        rw [List.getD_eq_getElem?_getD, List.getElem?_eq_getElem lx]
        rfl
      have ey : ys.getD i .non = ys[i] := by
        rw [List.getD_eq_getElem?_getD, List.getElem?_eq_getElem ly]
        rfl
      rw [ex, ey]
      exact ⟨Ext.new hT, p2.upd hT, .tup (.inl (.inl (hide_upd p2 hT))) (.cons ((h2.sub qs (fun i b zz => by rw [qe]; exact zz)).mono (Ext.new hT)) (.cons ((h4.sub qs (fun i b zz => by rw [qe]; exact zz)).mono (Ext.new hT)) .nil))⟩⟩
end
section
variable {X : Cx} {W : WX} {p : HD} {ρ ρ1 : Rho} {c c1 c2 : PC} {e : Expr} {es : List Expr} {pos xp : Pos} {k : Nat} {x : Str} {ps : List Str} {R : FSpec} {C : Addr} {fs : List (Str × D)} {d : D} {nw : Bool} {st : Stmt} {rest : List Stmt} {o : EO}
theorem body_cons (h1 : RS X W p ρ c st (.nx ρ1 c1)) (h2 : BodyOk X W p ρ1 c1 rest o) (hl : ρ1.length = ρ.length := by rfl) : BodyOk X W p ρ c (st :: rest) o := by
  cases o with
  | val d nw c' =>
    rcases h2 with h2 | ⟨h, ρ', h2⟩
    · exact .inl (rss_cons h1 h2 hl)
    · exact .inr ⟨h, ρ', rss_cons h1 h2 hl⟩
  | ex C fs c' => exact rss_cons h1 h2 hl
theorem re_c0Z (T : Def0 X.prog X.w X.K X.mg X.base k x ps R) (hr : Room k X.A) (ha : RA X W p ρ c (e :: es) (.ex C fs c1))
    (hg : Gl X x := by rfl) (hdb : (x == ("__debug__" : Str)) = false := by decide) (he : starEach (e :: es) X.env = (false, eval e X.env) :: starEach es X.env := by rfl) (hpl : (backTo pos (starEach es X.env)).any (·.1) = false := by rfl) :
    RE X W p ρ c (.Call (.Name x xp) (e :: es) [] pos) (.ex C fs c1) := by
  obtain ⟨f, fd, h1, h2, h3, h4⟩ := T.ex
  exact pe_imp (pe_call h1 hr hg h2 h3 h4 .nil pass0 ha hdb he hpl) fun σ H Q h => h
theorem ra_consZ (ha : RE X W p ρ c e (.val d nw c1)) (hr : RA X W p ρ c1 es (.ex C fs c2)) (hs : starEach (e :: es) X.env = (false, eval e X.env) :: starEach es X.env := by rfl) : RA X W p ρ c (e :: es) (.ex C fs c2) :=
  pa_imp (pa_cons ha hr hs) fun σ H Q ⟨s, k⟩ => ⟨s, fun v H1 e1 p1 dv _ => ⟨s.mono e1 p1, fun dx fv σ' H' e2 s2 hx hf => k dx fv σ' H' (e1.trans e2) s2 hx hf⟩⟩
end
section
variable {X : Cx} {W : WX} {p : HD} {ρ : Rho} {c c1 : PC} {e tg : Expr} {pos : Pos} {nw : Bool}
theorem ri_rangeN {ps : Pos} {m : Nat} (hm : X.mg "range" = none) (h : RE X W p ρ c e (.val (.int ((m : Nat) : Int)) nw c1)) (h1 : m ≤ 100000) (hg : Gl X "range" := by rfl) (hs : starEach [e] X.env = [(false, eval e X.env)] := by rfl) : RI X W p ρ c tg (.Call (.Name "range" ps) [e] [] pos) (intsD m) c1 := by
  have q := ri_range (tg := tg) (ps := ps) (pos := pos) hm h (by omega) (by omega) hg hs
  rw [Int.toNat_natCast] at q
  exact q
end
end LA

/-! a def that gives a pair, the first of it a list that nobody else sees -/
namespace LA
open PySem PySem.Spec PyProof.Rows L2
theorem dvs_intL {K : PySem.W.Frag} {p : HD} {H : Hp} : ∀ ns : List Int, DVs K p H (ns.map V.int) (ns.map D.int)
  | [] => .nil
  | n :: r => .cons (.int n) (dvs_intL r)
theorem low_intL (n : Nat) : ∀ ns : List Int, lowDs n (ns.map D.int) = true
  | [] => rfl
  | _ :: r => low_intL n r
section
variable {X : Cx} {W : WX} {p : HD} {as : List Addr} {ρ ρ1 ρ' : Rho} {c c1 c2 c3 : PC} {e : Expr} {st : Stmt} {sts rest : List Stmt} {pos pos' : Pos} {g : G} {ds ds2 : List D} {so : SO} {d : D} {w : Ends → L2.St → Hp → Prop}
/-- within, with whatever is wanted without -/
def tW (K : PySem.W.Frag) (p : HD) (as : List Addr) (ρ : Rho) (c : PC) (w : Ends → L2.St → Hp → Prop) : TS := fun De σ H => ∃ (H0 : Hp) (σ0 : L2.St), (∀ a ∈ as, H0 a = none ∧ a ∉ p.m) ∧ Ext p H0 H ∧ w De σ0 H0 ∧ (∀ a ∈ p.z, ∃ o, H0 a = some o) ∧ SR K (p.muts as) H σ ρ c
theorem tw_of (h : PSs X sts (tW X.K p [] ρ c w)) : PSs X sts (fun De σ H => w De σ H ∧ SR X.K p H σ ρ c) := pss_imp h fun De σ H q => ⟨H, σ, (fun _ m => nomatch m), Ext.refl _ _, q.1, q.2.pl.2, q.2⟩
theorem tw_cons (h1 : RS X W (p.muts as) ρ c st (.nx ρ1 c1)) (h2 : PSs X rest (tW X.K p as ρ1 c1 w)) : PSs X (st :: rest) (tW X.K p as ρ c w) := by
  refine pss_imp (pss_cons h1 h2) fun De σ H ⟨H0, σ0, na, e1, h, z, s⟩ => ⟨s, fun σ1 H1 e2 s1 => ⟨H0, σ0, na, ext_muts na e1 e2, h, z, s1⟩⟩
theorem tw_new (i : Nat) (h : RN X (p.muts as) ρ c st i (.lst g ds) c1) (hds : lowDs 0 ds = true)
    (hr : ∀ a, PSs X rest (tW X.K p (a :: as) (ρ.set i (some (.mut c1.length))) (c1 ++ [.lst ds]) w)) : PSs X (st :: rest) (tW X.K p as ρ c w) := by
  have PU : PSs X rest (fun De σ H => ∃ a, tW X.K p (a :: as) (ρ.set i (some (.mut c1.length))) (c1 ++ [.lst ds]) w De σ H) := ⟨fun pins s σ H De I ⟨a, h2⟩ => (hr a).run pins s σ H De I h2⟩
  refine pss_imp (pss_cons h PU) fun De σ H ⟨H0, σ0, na, e1, q, z, s⟩ => ⟨s, fun v H1 e2 p1 dv hn => ?_⟩
  cases dv with
  | @lst a vs _ _ hb hq r =>
    obtain ⟨⟨nA, nm⟩, pa, hc⟩ := hn a rfl
    obtain ⟨vs', hv, dvs⟩ := hc _ _ rfl
    have n0 : H0 a = none ∧ a ∉ p.m := by
      have nmp : a ∉ p.m := fun z => nm (by
        have key : ∀ (as : List Addr), a ∈ (p.muts as).m := fun as => by
          induction as with
          | nil => exact z
          | cons b r ih => exact List.mem_append.mpr (.inl ih)
        exact key as)
      refine ⟨?_, nmp⟩
      cases q0 : H0 a with
      | none => rfl
      | some o =>
        rw [e1 a o nmp q0] at nA
        cases nA
    exact ⟨a, H0, σ0, fun b m => (List.mem_cons.mp m).elim (fun z => by rw [z]; exact n0) (na b), ext_muts na e1 e2, q, z, s.in' nA nm e2 pa hv dvs hds⟩
/-- what is wished at the end: the pair, its list seen by nobody else -/
def wPair (K : PySem.W.Frag) (p : HD) (c : PC) (ns : List Int) (i : Int) : Ends → L2.St → Hp → Prop := fun De _ H0 => ∀ (a T : Addr) (H1 : Hp), Ext p H0 H1 → (H0 a = none ∧ a ∉ p.m) → PoolAt K (p.also a) H1 c → H1 a = some (.lst (ns.map V.int)) → SqT K H1 T [.ref a, .int i] → De.rt (.ref T) H1
theorem tw_pair {a : Addr} {nw : Bool} {ns : List Int} {i : Int} (h : RSs X W (p.mut a) ρ (c ++ [.lst (ns.map D.int)]) sts (.rt (.tup [.mut c.length, .int i]) nw (c ++ [.lst (ns.map D.int)]))) : PSs X sts (tW X.K p [a] ρ (c ++ [.lst (ns.map D.int)]) (wPair X.K p c ns i)) := by
  refine pss_imp h fun De σ H ⟨H0, σ0, na, e1, q, z0, s⟩ => ⟨s, fun v H2 e2 p2 dv _ => ?_⟩
  have hlen : p.m.length = c.length := by
    have := p2.1.2.1
    rw [List.length_append] at this
    have e : (p.m ++ [a]).length = c.length + 1 := this
    rw [List.length_append] at e
    exact Nat.succ.inj e
  have ha : (p.m ++ [a])[c.length]? = some a := by
    rw [← hlen, List.getElem?_append_right (Nat.le_refl _)]
    simp
  have nda : a ∉ p.m := (na a List.mem_cons_self).2
  obtain ⟨vs, hv, dvs⟩ : CellAt X.K (p.mut a) H2 a (.lst (ns.map D.int)) := p2.1.2.2 c.length a (.lst (ns.map D.int)) ha (by simp)
  rw [of_ints dvs] at hv
  have eF := ext_muts (as := [a]) na e1 e2
  have pa : PoolAt X.K (p.also a) H2 c := by
    refine ⟨⟨(List.nodup_append.mp (show (p.m ++ [a]).Nodup from p2.1.1)).1, hlen, fun j b y hb hy => ?_⟩, fun b m => ?_⟩
    · have lt : j < c.length := (List.getElem?_eq_some_iff.mp hy).1
      have q1 : CellAt X.K (p.mut a) H2 b y := p2.1.2.2 j b y (mut_at hb) (by rw [List.getElem?_append_left lt]; exact hy)
      refine q1.sub (fun x o hx => ?_) rfl
      obtain ⟨h1, h2⟩ := hide_some hx
      rw [hide_ne]
      · exact h1
      · rintro (z | z)
        · exact h2 (.inl (List.mem_append.mpr (.inl z)))
        · rcases List.mem_cons.mp z with rfl | z
          · exact h2 (.inl (List.mem_append.mpr (.inr List.mem_cons_self)))
          · exact h2 (.inr z)
    · rcases List.mem_cons.mp m with rfl | m
      · exact ⟨_, hv⟩
      · exact p2.2 b m
  cases dv with
  | @tup T _ _ hq r =>
    cases r with
    | cons h1 r =>
      cases r with
      | cons h2 r =>
        cases r
        cases h2
        generalize hm : D.mut c.length = dm at h1
        cases h1 <;> cases hm
        rename_i b hb
        have eb : b = a := by
          have hb' : (p.m ++ [a])[c.length]? = some b := hb
          rw [ha] at hb'
          exact (Option.some.inj hb').symm
        subst eb
        exact q _ T H2 eF (na _ List.mem_cons_self) pa hv (un_sqT hq)
/-- two names: a new list, a number -/
def tN2 (K : PySem.W.Frag) (p : HD) (ρ : Rho) (c : PC) (i j : Nat) (ns : List Int) (k : Int) : TS := fun De σ H => SR K p H σ ρ c ∧ ∀ a H', Ext p H H' → (H a = none ∧ a ∉ p.m) → PoolAt K (p.also a) H' c → H' a = some (.lst (ns.map V.int)) → De.nx ((σ.set i (some (.ref a))).set j (some (.int k))) H'
theorem rso_new2 (i j : Nat) {ns : List Int} {k : Int} (h : PS X st (tN2 X.K (p.muts as) ρ c i j ns k))
    (hr : ∀ a, RSo X W p (a :: as) ((ρ.set i (some (.mut c.length))).set j (some (.int k))) (c ++ [.lst (ns.map D.int)]) rest so) : RSo X W p as ρ c (st :: rest) so := by
  have PU : PSs X rest (fun De σ H => ∃ a, tSo X.K W p (a :: as) ((ρ.set i (some (.mut c.length))).set j (some (.int k))) (c ++ [.lst (ns.map D.int)]) so De σ H) := ⟨fun pins s σ H De I ⟨a, h2⟩ => (hr a).run pins s σ H De I h2⟩
  refine pss_imp (pss_cons h PU) fun De σ H ⟨H0, σ0, ρ0, c0, na, e1, q, hl, s⟩ => ⟨s, fun a H1 e2 nA pa hv => ?_⟩
  have nmp : a ∉ p.m := fun z => nA.2 (by
    have key : ∀ (as : List Addr), a ∈ (p.muts as).m := fun as => by
      induction as with
      | nil => exact z
      | cons b r ih => exact List.mem_append.mpr (.inl ih)
    exact key as)
  have n0 : H0 a = none ∧ a ∉ p.m := by
    refine ⟨?_, nmp⟩
    cases q0 : H0 a with
    | none => rfl
    | some o =>
      rw [e1 a o nmp q0] at nA
      cases nA.1
  have dvs : DVs X.K ((p.muts as).also a) H1 (ns.map V.int) (ns.map D.int) := dvs_intL ns
  have low : lowDs 0 (ns.map D.int) = true := low_intL 0 ns
  exact ⟨a, H0, σ0, ρ0, c0, fun b m => (List.mem_cons.mp m).elim (fun z => by rw [z]; exact n0) (na b), ext_muts na e1 e2, q, by rw [List.length_set, List.length_set]; exact hl, (s.in' (i := i) nA.1 nA.2 e2 pa hv dvs low).set j (.int k)⟩
end
/-- a def that gives such a pair -/
def spPair (K : PySem.W.Frag) (R : List D → List Int → Int → Prop) : Sp := fun vs H Q _ => ∃ (p : HD) (c : PC) (ds : List D) (ns : List Int) (i : Int), DVs K p H vs ds ∧ PoolAt K p H c ∧ R ds ns i ∧
  ∀ (a T : Addr) (H1 : Hp), Ext p H H1 → (H a = none ∧ a ∉ p.m) → PoolAt K (p.also a) H1 c → H1 a = some (.lst (ns.map V.int)) → SqT K H1 T [.ref a, .int i] → Q (.ref T) H1
structure DefP (P : Program) (w : World) (K : PySem.W.Frag) (mg : Str → Option Value) (base : Heap) (k : Nat) (x : Str) (ps : List Str) (R : List D → List Int → Int → Prop) : Prop where
  ex : ∃ (f : Addr) (fd : FuncData), FnOk P w K mg base CX0 k f fd ps (spPair K R) ∧ mg x = some (.ref f) ∧ PySem.W.keepIn K (.ref f) = true ∧ Binds K fd ps []
section
variable {P : Program} {w : World} {K : PySem.W.Frag} {mg : Str → Option Value} {base : Heap} {x qual : Str} {st : Stmt} {f : Addr} {fd : FuncData} {N ps : List Str} {k : Nat} {R : List D → List Int → Int → Prop}
theorem fn_pair (F : Fun K x qual st f fd) (S : FnScope N ps (defScope st)) (hl : ∀ ds ns i, R ds ns i → ds.length = ps.length)
    (body : ∀ (cdv : Value) (A : Around) (outer : List Env) (s : Shared) (H : Hp) (E : XK), Room k (A.deeper (envOfC qual (defScope st) s.heap.objs.size f cdv)) → ∀ (p : HD) (ds : List D) (c : PC) (ns : List Int) (i : Int), R ds ns i →
      PSs (cxOf CX0 P w K mg base N qual (defScope st) f cdv A outer s H E).nox (defBody st) (tW K p [] (startR N ds) c (wPair K p c ns i))) : FnOk P w K mg base CX0 (k + 1) f fd ps (spPair K R) := by
  refine F.ok S (fun vs H Q E h => ?_) (fun cdv A outer s H vs Q E hr h => ?_)
  · obtain ⟨p, c, ds, ns, i, h1, _, h3, _⟩ := h
    rw [h1.length]
    exact hl _ _ _ h3
  · obtain ⟨p, c, ds, ns, i, h1, h2, h3, h4⟩ := h
    exact ⟨_, tw_of (body cdv A outer s H E hr p ds c ns i h3), fun a T H1 e1 na pa hv hq => h4 a T H1 e1 na pa hv hq, sr_start h1 h2⟩
end
section
variable {X : Cx} {W : WX} {p : HD} {ρ : Rho} {c c1 : PC} {e : Expr} {es : List Expr} {pos xp q1 q2 tp apos : Pos} {k : Nat} {x a b : Str} {ps : List Str} {R : List D → List Int → Int → Prop} {ds : List D} {ns : List Int} {v : Int} {i j kk : Nat}
/-- a, b = x(e, ..) -/
theorem rn_pair (i j : Nat) (T : DefP X.prog X.w X.K X.mg X.base k x ps R) (hr : Room k X.A) (ha : RA X W p ρ c (e :: es) (.val ds c1)) (ho : R ds ns v) (hN : X.N.Nodup)
    (hg1 : PG X (.Tuple [.Name a q1, .Name b q2] kk tp) (gTup X.K 2 (gCons (gName i) (gCons (gName j) gNil))))
    (hg : Gl X x := by rfl) (hdb : (x == ("__debug__" : Str)) = false := by decide) (he : starEach (e :: es) X.env = (false, eval e X.env) :: starEach es X.env := by rfl) (hpl : (backTo pos (starEach es X.env)).any (·.1) = false := by rfl)
    (hs : swapsWithSole [.Tuple [.Name a q1, .Name b q2] kk tp] (.Call (.Name x xp) (e :: es) [] pos) apos.line X.env = pure false := by rfl) (hw : swappedStores [.Tuple [.Name a q1, .Name b q2] kk tp] (.Call (.Name x xp) (e :: es) [] pos) X.env = pure none := by rfl)
    (h1 : (assignEach [.Tuple [.Name a q1, .Name b q2] kk tp] X.env).map (·.2) = [assign (.Tuple [.Name a q1, .Name b q2] kk tp) X.env] := by rfl) :
    PS X (.Assign [.Tuple [.Name a q1, .Name b q2] kk tp] (.Call (.Name x xp) (e :: es) [] pos) apos) (fun De σ H => SR X.K p H σ ρ c ∧ ∀ ad H', Ext p H H' → (H ad = none ∧ ad ∉ p.m) → PoolAt X.K (p.also ad) H' c1 → H' ad = some (.lst (ns.map V.int)) → De.nx ((σ.set i (some (.ref ad))).set j (some (.int v))) H') := by
  obtain ⟨f, fd, F, hm, hk, hb⟩ := T.ex
  refine ps_imp (ps_asg (pe_call F hr hg hm hk hb .nil pass0 ha hdb he hpl) hg1 hs hw h1) fun De σ H ⟨s, k1⟩ => ⟨s, fun vs H1 e1 p1 dvs => ?_⟩
  refine ⟨p, c1, ds, ns, v, by rw [List.append_nil]; exact dvs, p1, ho, fun ad T H2 e2 na pa hv hq => ?_⟩
  have nH : H ad = none ∧ ad ∉ p.m := by
    refine ⟨?_, na.2⟩
    cases q0 : H ad with
    | none => rfl
    | some o =>
      have := e1 ad o na.2 q0
      rw [na.1] at this
      cases this
  exact ⟨_, _, rfl, hq, rfl, _, _, rfl, _, _, rfl, rfl, k1 ad H2 (e1.trans e2) nH pa hv⟩
end
end LA

/-! tuples added, tuples cut -/
namespace LA
open PySem PySem.Spec PyProof.Rows L2
section
variable {X : Cx} {W : WX} {p : HD} {ρ : Rho} {c c1 c2 c3 : PC} {e : Expr} {lo hi : Option Expr} {ol oh : Option Int} {p2 pos : Pos} {n1 : Bool} {K : PySem.W.Frag} {xs ys : List D}
theorem ov_catA (hz : xs.length + ys.length ≤ 100000) : OV K p (rCatA K) (.tup xs) (.tup ys) (.tup (xs ++ ys)) false c := fun v u H Q dv du hp k => by
  cases dv with
  | @tup a us _ hq r =>
    cases du with
    | @tup b vs _ hq2 r2 =>
      refine ⟨a, b, us, vs, rfl, rfl, un_sqT hq, un_sqT hq2, by rw [r.length, r2.length]; exact sz_le hz, fun h => ?_, fun _ h => ?_, fun _ _ q hn => ?_⟩
      · subst h
        cases r
        exact k _ H (Ext.refl p H) hp (.tup hq2 r2) fun z => nomatch z
      · subst h
        cases r2
        simp only [List.append_nil] at k
        exact k _ H (Ext.refl p H) hp (.tup hq r) fun z => nomatch z
      · exact k _ _ (Ext.new hn) (hp.upd hn) (.tup (.inl (.inl (hide_upd hp hn))) ((r.mono (Ext.new hn)).app (r2.mono (Ext.new hn)))) fun z => nomatch z
theorem re_slT (he : RE X W p ρ c e (.val (.tup xs) n1 c1)) (hl : RP X p ρ c1 lo ol c2) (hh : RP X p ρ c2 hi oh c3) : RE X W p ρ c (.Subscript e (.Slice lo hi none p2) pos) (.val (.tup (cutD xs ol oh)) false c3) :=
  pe_imp (pe_slice sl_tupA he hl hh) fun σ H Q ⟨s, k⟩ => ⟨s, fun v H1 e1 p1 dv _ => ⟨s.mono e1 p1, fun H2 e2 q2 => ⟨s.mono (e1.trans e2) q2, fun H3 e3 q3 => by
    cases (dv.mono e2).mono e3 with
    | @tup a0 us _ hq r =>
      have e4 := (e1.trans e2).trans e3
      have key : DVs X.K p H3 (cutV us ol oh) (cutD xs ol oh) := by
        unfold cutV cutD
        rw [r.length]
        exact dvs_take _ (dvs_drop _ r)
      refine ⟨_, _, rfl, un_sqT hq, fun h => ?_, fun _ a na => ?_⟩
      · refine k _ _ e4 q3 ?_ fun z => nomatch z
        refine .tup hq ?_
        have e : cutV us ol oh = us := by
          unfold cutV
          rw [h.1, h.2, List.drop_zero, Nat.sub_zero, List.take_length]
        rw [e] at key
        exact key
      · exact k _ _ (e4.trans (Ext.new na)) (q3.upd na) (.tup (.inl (.inl (hide_upd q3 na))) (key.mono (Ext.new na))) fun z => nomatch z⟩⟩⟩
end
end LA

/-! dicts that are made at once and looked up from then on -/
namespace LA
open PySem PySem.Spec PyProof.Rows L2
def kD : Key → D
  | .inl i => .int i
  | .inr x => .str x
def valD (ds : List (Key × D)) (k : Key) : Option D := (ds.find? fun kv => decide (kv.1 = k)).map (·.2)
theorem valD_pos {x : Key × D} {r : List (Key × D)} {k : Key} (e : x.1 = k) : valD (x :: r) k = some x.2 := by simp [valD, List.find?_cons, e]
theorem valD_neg {x : Key × D} {r : List (Key × D)} {k : Key} (e : ¬ x.1 = k) : valD (x :: r) k = valD r k := by simp [valD, List.find?_cons, e]
theorem put_new {kvs : List (Key × V)} {k : Key} {v : V} (h : k ∉ kvs.map (·.1)) : putK kvs k v = kvs ++ [(k, v)] := by
  unfold putK
  rw [if_neg]
  intro z
  rw [List.any_eq_true] at z
  obtain ⟨x, hx, e⟩ := z
  exact h (List.mem_map.mpr ⟨x, hx, of_decide_eq_true e⟩)
theorem merge_new : ∀ {more kvs : List (Key × V)}, ((kvs ++ more).map (·.1)).Nodup → mergeK kvs more = kvs ++ more
  | [], kvs, _ => (List.append_nil kvs).symm
  | x :: r, kvs, h => by
    have nk : x.1 ∉ kvs.map (·.1) := fun z => by
      rw [List.map_append, List.map_cons] at h
      exact (List.nodup_append.mp h).2.2 _ z _ List.mem_cons_self rfl
    show mergeK (putK kvs x.1 x.2) r = _
    rw [put_new nk, merge_new (by rw [List.append_assoc]; exact h), List.append_assoc]
    rfl
section
variable {K : PySem.W.Frag} {p : HD} {H : Hp}
theorem DVk.val : ∀ {vs : List (Key × V)} {ds : List (Key × D)} {k : Key}, DVk K p H vs ds → (∀ d, valD ds k = some d → ∃ v, valV vs k = some v ∧ DV K p H v d) ∧ (valD ds k = none → valV vs k = none)
  | _, _, _, .nil => ⟨(fun d h => nomatch h), fun _ => rfl⟩
  | _, _, k, .cons (k := k') (v := v) (d := d) h r => by
    by_cases e : k' = k
    · refine ⟨fun d' q => ?_, fun q => ?_⟩
      · rw [valD_pos e] at q
        cases q
        exact ⟨v, valV_pos e, h⟩
      · rw [valD_pos e] at q
        cases q
    · obtain ⟨a, b⟩ := DVk.val (k := k) r
      refine ⟨fun d' q => ?_, fun q => ?_⟩
      · rw [valD_neg e] at q
        rw [valV_neg e]
        exact a d' q
      · rw [valD_neg e] at q
        rw [valV_neg e]
        exact b q
theorem DVk.some {vs : List (Key × V)} {ds : List (Key × D)} {k : Key} (h : DVk K p H vs ds) : (valV vs k).isSome = (valD ds k).isSome := by
  obtain ⟨a, b⟩ := DVk.val (k := k) h
  cases e : valD ds k with
  | none =>
    rw [b e]
    rfl
  | some d =>
    obtain ⟨v, hv, _⟩ := a d e
    rw [hv]
    rfl
theorem dv_key {v : V} {k : Key} (h : DV K p H v (kD k)) : v = kV k := by
  cases k with
  | inl i => cases h; rfl
  | inr x => cases h; rfl
def prD (x : Key × D) : D := .tup [kD x.1, x.2]
theorem dvs_pairs : ∀ {xs : List (Key × D)} {vs : List V}, DVs K p H vs (xs.map prD) → ∃ (ps : List Addr) (kvs : List (Key × V)), vs = ps.map V.ref ∧ Paired (fun q kv => SqT K H q [kV kv.1, kv.2]) ps kvs ∧ DVk K p H kvs xs ∧ kvs.map (·.1) = xs.map (·.1)
  | [], _, .nil => ⟨[], [], rfl, .nil, .nil, rfl⟩
  | x :: r, _, .cons h t => by
    obtain ⟨ps, kvs, rfl, hp, hk, hm⟩ := dvs_pairs t
    cases h with
    | @tup a ys _ hq hd =>
      cases hd with
      | cons h1 h2 =>
        cases h2 with
        | cons h3 h4 =>
          cases h4
          have e := dv_key h1
          subst e
          rename_i v
          exact ⟨a :: ps, (x.1, v) :: kvs, rfl, .cons (un_sqT hq) hp, .cons h3 hk, by rw [List.map_cons, List.map_cons, hm]⟩
end
theorem DVk.mono {K : PySem.W.Frag} {p : HD} {H H' : Hp} (e : Ext p H H') {vs : List (Key × V)} {ds : List (Key × D)} (h : DVk K p H vs ds) : DVk K p H' vs ds := DVk.sub (e.hide) (fun _ _ z => z) h
section
variable {X : Cx} {W : WX} {p : HD} {ρ : Rho} {c c1 c2 : PC} {a b : Expr} {pos : Pos} {n1 n2 : Bool} {K : PySem.W.Frag}
def rDctP (K : PySem.W.Frag) : List V → Hp → VK → Prop := fun xs H Q => ∃ (a : Addr) (ps : List Addr) (kvs : List (Key × V)), xs = [.ref a] ∧ SqL K H a (ps.map V.ref) ∧ Paired (fun p kv => SqT K H p [kV kv.1, kv.2]) ps kvs ∧ ∀ p, H p = none → Q (.ref p) (upd H p (.dK (mergeK [] kvs)))
theorem call_dct (hc : X.calm = true) : CallR X (.type "dict") (rDctP X.K) := call_dictP hc
/-- dict([(k, v), ..]) of keys that differ -/
theorem cv_dct {g : G} {xs : List (Key × D)} (nd : (xs.map (·.1)).Nodup) : CV K p (rDctP K) [.lst g (xs.map prD)] (.dct xs) true c := fun vs H Q dvs hp k => by
  cases dvs with
  | cons h r =>
    cases r
    cases h with
    | lst hb hq ha =>
      obtain ⟨ps, kvs, rfl, h1, h2, h3⟩ := dvs_pairs ha
      refine ⟨_, ps, kvs, rfl, un_sqL hq, h1, fun l nl => ?_⟩
      have e : mergeK [] kvs = kvs := merge_new (kvs := []) (by rw [List.nil_append, h3]; exact nd)
      rw [e]
      refine k _ _ (Ext.new nl) (hp.upd nl) (.dct (.inl (hide_upd hp nl)) (h2.mono (Ext.new nl))) fun _ => (fun b z => by
        cases z
        exact ⟨⟨nl, hp.not nl ∘ Or.inl⟩, hp.also nl, fun g ds z => nomatch z⟩)
/-- d[k] -/
theorem re_dget {xs : List (Key × D)} {k : Key} {d : D} (hu : X.A.units + 1 < cLine) (ha : RE X W p ρ c a (.val (.dct xs) n1 c1)) (hb : RE X W p ρ c1 b (.val (kD k) n2 c2)) (hv : valD xs k = some d) (hs : NoSl b := by exact fun _ _ => rfl) : RE X W p ρ c (.Subscript a b pos) (.val d false c2) :=
  pe_imp (pe_dget hu ha hb hs) fun σ H Q ⟨s, kk⟩ => two (W := W) s rfl rfl fun v u H1 e1 p1 dv du => by
    have eu := dv_key du
    subst eu
    cases dv with
    | dct hr hk =>
      obtain ⟨w, hw, dw⟩ := (DVk.val (k := k) hk).1 d hv
      exact ⟨_, w, rfl, .inl ⟨_, k, un_rd hr, rfl, hw.symm⟩, kk w H1 e1 p1 dw fun q => nomatch q⟩
/-- k in d -/
theorem re_din {xs : List (Key × D)} {k : Key} (hu : X.A.units + 1 < cLine) (hb : RE X W p ρ c b (.val (kD k) n2 c1)) (ha : RE X W p ρ c1 a (.val (.dct xs) n1 c2)) (hm : behindInMarks .In a = false := by first | rfl | exact nomark _) : RE X W p ρ c (.Compare b [.In] [a] pos) (.val (.bl (valD xs k).isSome) true c2) :=
  pe_imp (pe_cmp (pc_din hu hb ha) hm) fun σ H Q ⟨s, kk⟩ => two (W := W) s rfl rfl fun v u H1 e1 p1 dv du => by
    have eu := dv_key dv
    subst eu
    cases du with
    | dct hr hk =>
      refine ⟨_, valV _ k, rfl, .inl ⟨_, k, un_rd hr, rfl, rfl⟩, ?_⟩
      have e : (valV _ k).isSome = (valD xs k).isSome := DVk.some hk
      rw [e]
      exact kk _ H1 e1 p1 (.bl _) fun _ => New.sc (by intro a h; cases h)
theorem re_dnotin {xs : List (Key × D)} {k : Key} (hu : X.A.units + 1 < cLine) (hb : RE X W p ρ c b (.val (kD k) n2 c1)) (ha : RE X W p ρ c1 a (.val (.dct xs) n1 c2)) (hm : behindInMarks .NotIn a = false := by first | rfl | exact nomark _) : RE X W p ρ c (.Compare b [.NotIn] [a] pos) (.val (.bl (!(valD xs k).isSome)) true c2) :=
  pe_imp (pe_cmp (pc_dnotin hu hb ha) hm) fun σ H Q ⟨s, kk⟩ => two (W := W) s rfl rfl fun v u H1 e1 p1 dv du => by
    have eu := dv_key dv
    subst eu
    cases du with
    | dct hr hk =>
      refine ⟨_, valV _ k, rfl, .inl ⟨_, k, un_rd hr, rfl, rfl⟩, ?_⟩
      have e : (valV _ k).isSome = (valD xs k).isSome := DVk.some hk
      rw [e]
      exact kk _ H1 e1 p1 (.bl _) fun _ => New.sc (by intro a h; cases h)
/-- d.get(k), d.get(k, x) -/
theorem re_dget1 {apos : Pos} {xs : List (Key × D)} {k : Key} (hu : X.A.units + 1 < cLine) (ha : RE X W p ρ c a (.val (.dct xs) n1 c1)) (hb : RE X W p ρ c1 b (.val (kD k) n2 c2)) (m : M1 X a "get" apos b pos) : RE X W p ρ c (.Call (.Attribute a "get" apos) [b] [] pos) (.val ((valD xs k).getD .non) false c2) :=
  pe_imp (pe_dget1 hu ha hb m) fun σ H Q ⟨s, kk⟩ => ⟨s, fun v H1 e1 p1 dv _ => by
    cases dv with
    | dct hr hk =>
      refine ⟨_, rfl, .inl ⟨_, un_rd hr⟩, ⟨s.mono e1 p1, fun u H2 e2 p2 du _ => ?_⟩⟩
      have eu := dv_key du
      subst eu
      refine ⟨_, .inl ⟨_, k, un_rd (e2.rd hr), rfl, rfl⟩, ?_⟩
      obtain ⟨q1, q2⟩ := DVk.val (k := k) (hk.mono e2)
      cases e : valD xs k with
      | none =>
        rw [q2 e]
        exact kk _ H2 (e1.trans e2) p2 (by rw [e]; exact .non) fun q => nomatch q
      | some d =>
        obtain ⟨w, hw, dw⟩ := q1 d e
        rw [hw]
        exact kk _ H2 (e1.trans e2) p2 (by rw [e]; exact dw) fun q => nomatch q⟩
end
end LA

/-! dicts that change -/
namespace LA
open PySem PySem.Spec PyProof.Rows L2
def putD2 (ds : List (Key × D)) (k : Key) (d : D) : List (Key × D) := if (ds.any fun x => decide (x.1 = k)) = true then ds.map (fun x => if x.1 = k then (x.1, d) else x) else ds ++ [(k, d)]
section
variable {K : PySem.W.Frag} {p : HD} {H : Hp}
theorem DVk.length : ∀ {vs : List (Key × V)} {ds : List (Key × D)}, DVk K p H vs ds → vs.length = ds.length
  | _, _, .nil => rfl
  | _, _, .cons _ r => by rw [List.length_cons, List.length_cons, DVk.length r]
theorem DVk.app : ∀ {vs ws : List (Key × V)} {ds es : List (Key × D)}, DVk K p H vs ds → DVk K p H ws es → DVk K p H (vs ++ ws) (ds ++ es)
  | _, _, _, _, .nil, r => r
  | _, _, _, _, .cons h t, r => .cons h (DVk.app t r)
theorem DVk.anyk : ∀ {vs : List (Key × V)} {ds : List (Key × D)} (k : Key), DVk K p H vs ds → (vs.any fun x => decide (x.1 = k)) = (ds.any fun x => decide (x.1 = k))
  | _, _, _, .nil => rfl
  | _, _, k, .cons _ r => by rw [List.any_cons, List.any_cons, DVk.anyk k r]
theorem DVk.swap {v : V} {d : D} (h : DV K p H v d) (k : Key) : ∀ {vs : List (Key × V)} {ds : List (Key × D)}, DVk K p H vs ds → DVk K p H (vs.map fun x => if x.1 = k then (x.1, v) else x) (ds.map fun x => if x.1 = k then (x.1, d) else x)
  | _, _, .nil => .nil
  | _, _, .cons (k := k') h' r => by
    rw [List.map_cons, List.map_cons]
    by_cases e : k' = k
    · rw [if_pos e, if_pos e]
      exact .cons h (DVk.swap h k r)
    · rw [if_neg e, if_neg e]
      exact .cons h' (DVk.swap h k r)
theorem DVk.put {v : V} {d : D} (h : DV K p H v d) (k : Key) {vs : List (Key × V)} {ds : List (Key × D)} (r : DVk K p H vs ds) : DVk K p H (putK vs k v) (putD2 ds k d) := by
  unfold putK putD2
  rw [DVk.anyk k r]
  split
  · exact DVk.swap h k r
  · exact r.app (.cons h .nil)
theorem DVk.unflat {vs : List (Key × V)} {ds : List (Key × D)} (h : DVk K p.flat H vs ds) : DVk K p H vs ds := h.sub (fun b o y => by rw [hide_flat] at y; exact y) fun i b z => by simp [HD.flat] at z
theorem DVk.flat {vs : List (Key × V)} {ds : List (Key × D)} (h : DVk K p H vs ds) (l : lowDk 0 ds = true) : DVk K p.flat H vs ds := h.low (fun b o y => by rw [hide_flat]; exact y) (fun i b li _ => absurd li (Nat.not_lt_zero _)) l
theorem mut_dct {c : PC} {k : Nat} {ds : List (Key × D)} {v : V} (h : DV K p H v (.mut k)) (hp : PoolAt K p H c) (hc : c[k]? = some (.dct ds)) : ∃ a kvs, v = .ref a ∧ p.m[k]? = some a ∧ H a = some (.dK kvs) ∧ DVk K p.flat H kvs ds := by
  cases h with
  | «mut» ha =>
    obtain ⟨kvs, h1, h2⟩ := hp.1.2.2 k _ _ ha hc
    exact ⟨_, kvs, rfl, ha, h1, h2⟩
theorem SR.inD {a : Addr} {σ : L2.St} {H H1 : Hp} {i : Nat} {ρ : Rho} {c c1 : PC} {ds : List (Key × D)} (s : SR K p H σ ρ c) (na : H a = none) (nm : a ∉ p.m) (e1 : Ext p H H1) (pa : PoolAt K (p.also a) H1 c1) {vs : List (Key × V)} (hv : H1 a = some (.dK vs)) (dvs : DVk K (p.also a) H1 vs ds) (hds : lowDk 0 ds = true) :
    SR K (p.mut a) H1 (σ.set i (some (.ref a))) (ρ.set i (some (.mut c1.length))) (c1 ++ [.dct ds]) := by
  have hl : p.m.length = c1.length := pa.1.2.1
  have p1 : PoolAt K (p.mut a) H1 (c1 ++ [.dct ds]) := pa.in' nm ⟨vs, hv, dvs.low (n := 0) (fun b o y => by rw [hide_flat]; exact also_mut b o y) (fun i b li _ => absurd li (Nat.not_lt_zero _)) hds⟩
  refine SR.set ⟨s.len, fun j d q => ?_, p1⟩ i (.mut ?_)
  · obtain ⟨x, q1, q2⟩ := s.at' j d q
    exact ⟨x, q1, q2.sub (sub_new na e1) fun i b hi => mut_at hi⟩
  · show (p.m ++ [a])[c1.length]? = some a
    rw [← hl, List.getElem?_append_right (Nat.le_refl _)]
    simp
end
/-- a name becomes a new dict -/
def tND (K : PySem.W.Frag) (p : HD) (ρ : Rho) (c : PC) (i : Nat) (ds : List (Key × D)) (c1 : PC) : TS := fun De σ H => SR K p H σ ρ c ∧ ∀ a H' kvs, Ext p H H' → (H a = none ∧ a ∉ p.m) → PoolAt K (p.also a) H' c1 → H' a = some (.dK kvs) → DVk K (p.also a) H' kvs ds → De.nx (σ.set i (some (.ref a))) H'
section
variable {X : Cx} {W : WX} {p : HD} {ρ : Rho} {c c1 c2 : PC} {a b e ei : Expr} {pos pos' sp xp : Pos} {n1 n2 nw : Bool} {st : Stmt} {rest : List Stmt} {so : SO} {as : List Addr} {ds : List (Key × D)} {d : D} {x : Str} {k : Nat}
theorem rd_new (i : Nat) (hN : X.N.Nodup) (hi : X.N[i]? = some x := by rfl) (hx : Loc X.env.scope x := by first | exact Or.inl rfl | exact Or.inr rfl) (hs : swapsWith (.Dict [] [] sp) (some (.Name x pos')) pos.line X.env = pure false := by rfl)
    (hf : X.fn x = true ∨ X.env.scope.names.lookup x = some .local := by first | exact .inl rfl | exact .inr rfl) : PS X (.Assign [.Name x pos'] (.Dict [] [] sp) pos) (tND X.K p ρ c i [] c) :=
  ps_imp (ps_set hN hi hx pe_dnewK hs hf) fun De σ H ⟨s, kk⟩ => fun L nL => kk L _ [] (Ext.new nL) ⟨nL, fun z => s.pl.not nL (.inl z)⟩ (s.pl.also nL) upd_same .nil
theorem rso_newD (i : Nat) (h : PS X st (tND X.K (p.muts as) ρ c i ds c1)) (hds : lowDk 0 ds = true) (hr : ∀ a, RSo X W p (a :: as) (ρ.set i (some (.mut c1.length))) (c1 ++ [.dct ds]) rest so) : RSo X W p as ρ c (st :: rest) so := by
  have PU : PSs X rest (fun De σ H => ∃ a, tSo X.K W p (a :: as) (ρ.set i (some (.mut c1.length))) (c1 ++ [.dct ds]) so De σ H) := ⟨fun pins s σ H De I ⟨a, h2⟩ => (hr a).run pins s σ H De I h2⟩
  refine pss_imp (pss_cons h PU) fun De σ H ⟨H0, σ0, ρ0, c0, na, e1, q, hl, s⟩ => ⟨s, fun a H' kvs e2 ⟨nA, nm⟩ pa hv dvs => ?_⟩
  have n0 : H0 a = none ∧ a ∉ p.m := by
    have nmp : a ∉ p.m := fun z => nm (by
      have key : ∀ (as : List Addr), a ∈ (p.muts as).m := fun as => by
        induction as with
        | nil => exact z
        | cons b r ih => exact List.mem_append.mpr (.inl ih)
      exact key as)
    refine ⟨?_, nmp⟩
    cases q0 : H0 a with
    | none => rfl
    | some o =>
      rw [e1 a o nmp q0] at nA
      cases nA
  exact ⟨a, H0, σ0, ρ0, c0, fun b m => (List.mem_cons.mp m).elim (fun z => by rw [z]; exact n0) (na b), ext_muts na e1 e2, q, by rw [List.length_set]; exact hl, s.inD nA nm e2 pa hv dvs hds⟩
/-- x[k] of a dict that changes -/
theorem re_dgetM (j k : Nat) {ky : Key} (hu : X.A.units + 1 < cLine) (hb : RE X W p ρ c b (.val (kD ky) n2 c1)) (hc0 : ∃ ds0, c[k]? = some (.dct ds0)) (hc : c1[k]? = some (.dct ds)) (hv : valD ds ky = some d) (hρ : ρ[j]? = some (some (.mut k)) := by rfl) (hN : X.N[j]? = some x := by rfl) (hvis : Vis X.env.scope x := by first | exact Or.inl rfl | exact Or.inr (Or.inl rfl) | exact Or.inr (Or.inr rfl))
    (hd : (x == ("__debug__" : Str)) = false := by decide) (hcd : (x == ("__classdict__" : Str)) = false := by decide) (hs : NoSl b := by exact fun _ _ => rfl) : RE X W p ρ c (.Subscript (.Name x xp) b pos) (.val d false c1) :=
  pe_imp (pe_dget hu (pe_var hN hvis hd hcd) hb hs) fun σ H Q ⟨s, kk⟩ => by
    obtain ⟨o, q1, q2⟩ := s.at' j _ hρ
    refine ⟨o, q1, s, fun u H1 e1 p1 du _ => ?_⟩
    have eu := dv_key du
    subst eu
    obtain ⟨a, kvs, rfl, ha, hv1, dvs⟩ := mut_dct (q2.mono e1) p1 hc
    obtain ⟨w, hw, dw⟩ := (DVk.val (k := ky) dvs).1 d hv
    exact ⟨a, w, rfl, .inl ⟨kvs, ky, .inl hv1, rfl, hw.symm⟩, kk w H1 e1 p1 dw.unflat fun q => nomatch q⟩
/-- x[k] = e -/
theorem rs_dputM (j k : Nat) {ky : Key} (hu : X.A.units + 1 < cLine) (he : RE X W p ρ c e (.val d nw c1)) (hi : RE X W p ρ c1 ei (.val (kD ky) n2 c2)) (hc : c2[k]? = some (.dct ds)) (hz : ds.length < 100000) (hl : lowD 0 d = true) (hρ : ρ[j]? = some (some (.mut k)) := by rfl) (hN : X.N[j]? = some x := by rfl) (hvis : Vis X.env.scope x := by first | exact Or.inl rfl | exact Or.inr (Or.inl rfl) | exact Or.inr (Or.inr rfl))
    (hd : (x == ("__debug__" : Str)) = false := by decide) (hcd : (x == ("__classdict__" : Str)) = false := by decide) (hs : swapsWith e (some (.Subscript (.Name x xp) ei sp)) pos.line X.env = pure false := by rfl) :
    RS X W p ρ c (.Assign [.Subscript (.Name x xp) ei sp] e pos) (.nx ρ (c2.set k (.dct (putD2 ds ky d)))) :=
  ps_imp (ps_dput hu (pe_var hN hvis hd hcd) hi he hs) fun De σ H h => ⟨h.1, fun v H1 e1 p1 dv _ => by
    have s1 := h.1.mono e1 p1
    obtain ⟨o, q1, q2⟩ := s1.at' j _ hρ
    refine ⟨o, q1, s1, fun w H2 e2 p2 dw _ => ?_⟩
    have ew := dv_key dw
    subst ew
    obtain ⟨a, kvs, rfl, ha, hv', dvs⟩ := mut_dct (q2.mono e2) p2 hc
    have m : a ∈ p.m := List.mem_of_getElem? ha
    refine ⟨a, _, rfl, DPut.k hv' (by rw [dvs.length]; exact sz_lt hz), ?_⟩
    refine h.2 σ _ ((e1.trans e2).trans (ext_upd m)) ((s1.mono e2 p2).mono (ext_upd m) (p2.put ha ⟨_, upd_same, ?_⟩))
    have sb : Sub (hide p.flat H2) (hide p.flat (upd H2 a (.dK (putK kvs ky v)))) := by
      rw [hide_flat, hide_flat]
      exact upd_msub m
    exact (DVk.put ((dv.mono e2).flat hl) ky dvs).sub sb fun _ _ z => z⟩
/-- it is seen as it is, from then on -/
theorem rso_frzD (i : Nat) {a : Addr} (h : RSo X W p as (ρ.set i (some (.dct ds))) c rest so) (hi : ρ[i]? = some (some (.mut c.length))) (hlow : LowR c.length (ρ.set i none)) : RSo X W p (a :: as) ρ (c ++ [.dct ds]) rest so := by
  refine pss_imp h fun De σ H ⟨H0, σ0, ρ0, c0, na, e1, q, hl, s⟩ => ⟨H0, σ0, ρ0, c0, fun b m => na b (List.mem_cons_of_mem _ m), e1, q, by rw [List.length_set]; exact hl, ?_⟩
  have hn : (p.muts as).m.length = c.length := by
    have := s.pl.1.2.1
    rw [List.length_append] at this
    have e : ((p.muts as).m ++ [a]).length = c.length + 1 := this
    rw [List.length_append] at e
    exact Nat.succ.inj e
  have po : PoolAt X.K (p.muts as) H c := by
    have z := PoolAt.out (p := p.muts as) s.pl
    rw [hn, List.take_left'] at z
    · exact z
    · rfl
  have ha : ((p.muts as).m ++ [a])[c.length]? = some a := by
    rw [← hn, List.getElem?_append_right (Nat.le_refl _)]
    simp
  have nda : a ∉ (p.muts as).m := fun z => by
    have nd : ((p.muts as).m ++ [a]).Nodup := s.pl.1.1
    exact (List.nodup_append.mp nd).2.2 a z a (List.mem_singleton.mpr rfl) rfl
  obtain ⟨vs, hv, dvs⟩ : CellAt X.K ((p.muts as).mut a) H a (.dct ds) := s.pl.1.2.2 c.length a (.dct ds) ha (by simp)
  have vis : hide (p.muts as) H a = some (.dK vs) := by
    rw [hide_ne]
    · exact hv
    · rintro (z | z)
      · exact nda z
      · have zz : ∀ (as : List Addr), (p.muts as).z = p.z := fun as => by
          induction as with
          | nil => rfl
          | cons b r ih => exact ih
        rw [zz as] at z
        obtain ⟨o, ho⟩ := (st_sr q).pl.2 a z
        rw [(na a List.mem_cons_self).1] at ho
        cases ho
  refine ⟨?_, fun j d q => ?_, po⟩
  · rw [List.length_set]
    exact s.len
  · by_cases e : i = j
    · subst e
      have lt : i < ρ.length := (List.getElem?_eq_some_iff.mp hi).1
      rw [List.getElem?_set_self lt] at q
      cases q
      obtain ⟨v, h1, h2⟩ := s.at' i _ hi
      refine ⟨v, h1, ?_⟩
      generalize hm : D.mut c.length = dm at h2
      cases h2 <;> cases hm
      rename_i b hb
      have eb : b = a := by
        have hb' : ((p.muts as).m ++ [a])[c.length]? = some b := hb
        rw [ha] at hb'
        exact (Option.some.inj hb').symm
      subst eb
      exact .dct (.inl vis) (dvs.sub (fun b o y => by rw [hide_flat] at y; exact sub_mut b o y) fun i b z => by simp [HD.flat] at z)
    · have q' := q
      rw [List.getElem?_set_ne e] at q
      obtain ⟨v, h1, h2⟩ := s.at' j d q
      exact ⟨v, h1, h2.low (n := c.length) sub_mut (fun i b li hi => at_mut (by rw [hn]; exact li) hi) (hlow.get j d (by rw [List.getElem?_set_ne e]; exact q))⟩
end
end LA

/-! reversed(list) -/
namespace LA
open PySem PySem.Spec PyProof.Rows L2
section
variable {X : Cx} {W : WX} {p : HD} {ρ : Rho} {c c1 : PC} {e : Expr} {pos : Pos} {tg : Expr} {nw : Bool}
theorem ri_rev {ps : Pos} {g : G} {xs : List D} (hm : X.mg "reversed" = none) (h : RE X W p ρ c e (.val (.lst g xs) nw c1)) (hg : Gl X "reversed" := by rfl) (hs : starEach [e] X.env = (false, eval e X.env) :: starEach [] X.env := by rfl) :
    RI X W p ρ c tg (.Call (.Name "reversed" ps) [e] [] pos) xs.reverse c1 :=
  pi_imp (RT.pi_revA hg hm h hs) fun σ H R ⟨s, k⟩ => ⟨s, fun v H1 e1 p1 dv _ => by
    cases dv with
    | @lst a vs _ _ hb hq r =>
      refine ⟨a, vs, rfl, .inl ⟨un_sqL hq, k _ H1 e1 p1 fun q c' H2 qe qs p2 => ?_⟩⟩
      have hq2 : SqL X.K H2 a vs := un_sqL (qs.sqL hq)
      have hl := r.length
      refine ⟨?_, fun i d hd => ?_⟩
      · show vs.length ≤ xs.reverse.length
        rw [List.length_reverse]
        omega
      · have li : i < xs.length := by
          have := (List.getElem?_eq_some_iff.mp hd).1
          rwa [List.length_reverse] at this
        rw [List.getElem?_reverse li] at hd
        obtain ⟨v, h1, h2⟩ := r.get hd
        rw [← hl] at h1
        refine ⟨⟨by omega, vs, v, hq2, h1⟩, fun x H3 y => ?_⟩
        obtain ⟨rfl, h3⟩ := y
        have e' : x = v := Option.some.inj ((h3 vs hq2).symm.trans h1)
        subst e'
        exact ⟨Ext.refl _ _, p2, h2.sub qs (fun i a z => by rw [qe]; exact z)⟩⟩
end
end LA

namespace K41
open PySem PySem.Spec PyProof.Rows L2 LA
/-! ### the first sign of a kind -/
def fi (n : Nat) : List Nat → Nat
  | [] => 0
  | a :: r => if a = n then 0 else fi n r + 1
theorem fi_at {n : Nat} : ∀ {l : List Nat}, n ∈ l → l[fi n l]? = some n
  | a :: r, h => by
    unfold fi
    by_cases e : a = n
    · rw [if_pos e, e]
      rfl
    · rw [if_neg e]
      have h : n ∈ r := by
        rcases List.mem_cons.mp h with z | z
        · exact absurd z.symm e
        · exact z
      exact fi_at h
theorem fi_lt {n : Nat} {l : List Nat} (h : n ∈ l) : fi n l < l.length := (List.getElem?_eq_some_iff.mp (fi_at h)).1
theorem fi_before {n : Nat} : ∀ {l : List Nat} {k : Nat}, k < fi n l → l[k]? ≠ some n
  | [], k, h => by cases h
  | a :: r, k, h => by
    unfold fi at h
    by_cases e : a = n
    · rw [if_pos e] at h
      cases h
    · rw [if_neg e] at h
      cases k with
      | zero => exact fun z => e (Option.some.inj z)
      | succ k => exact fi_before (l := r) (by omega)
theorem find_is {n : Nat} {l : List Nat} (h : n ∈ l) : Txt.find (tx l) (chr1 n) = ((fi n l : Nat) : Int) := by
  have at_ : ∀ i, StrLaws.At (tx l) (chr1 n) (tx l).length i ↔ l[i]? = some n := fun i => by
    have q := StrLaws.subAt_one (tx l) n i
    rw [tx_list] at q
    exact q
  rcases find_whole (tx l) (chr1 n) with ⟨_, no⟩ | ⟨i, e, yes, no⟩
  · exact absurd ((at_ _).mpr (fi_at h)) (no _)
  · rw [e]
    congr 1
    have y := (at_ i).mp yes
    rcases Nat.lt_trichotomy i (fi n l) with z | z | z
    · exact absurd y (fi_before z)
    · exact z
    · exact absurd ((at_ _).mpr (fi_at h)) (no _ z)
theorem count_set {l : List Nat} {c : Nat} (hc : c ≠ 45) : ∀ {l : List Nat}, 45 ∈ l → (l.set (fi 45 l) c).count 45 + 1 = l.count 45
  | a :: r, h => by
    unfold fi
    by_cases e : a = 45
    · rw [if_pos e, List.set_cons_zero, List.count_cons, List.count_cons, e]
      simp [hc]
    · rw [if_neg e, List.set_cons_succ, List.count_cons, List.count_cons]
      have h : 45 ∈ r := by
        rcases List.mem_cons.mp h with z | z
        · exact absurd z.symm e
        · exact z
      have ih := count_set (l := l) hc h
      simp [e]
      exact ih
/-! ### what a pattern settles -/
def stl (l : List Nat) : Nat → List Nat → Option Int
  | 0, p => some (ansV l p)
  | k + 1, p => if 45 ∈ p then (if stl l k (p.set (fi 45 p) 48) = stl l k (p.set (fi 45 p) 49) then stl l k (p.set (fi 45 p) 48) else none) else some (ansV l p)
def sett (l p : List Nat) : Option Int := stl l (p.count 45) p
theorem sett_no {l p : List Nat} (h : 45 ∉ p) : sett l p = some (ansV l p) := by
  unfold sett
  rw [List.count_eq_zero.mpr h]
  rfl
theorem sett_yes {l p : List Nat} (h : 45 ∈ p) : sett l p = if sett l (p.set (fi 45 p) 48) = sett l (p.set (fi 45 p) 49) then sett l (p.set (fi 45 p) 48) else none := by
  have a := count_set (l := []) (c := 48) (by decide) h
  have b := count_set (l := []) (c := 49) (by decide) h
  unfold sett
  rw [← a, show List.count 45 (p.set (fi 45 p) 49) = List.count 45 (p.set (fi 45 p) 48) by omega]
  show (if 45 ∈ p then _ else _) = _
  rw [if_pos h]
def oD : Option Int → D
  | some a => .int a
  | none => .non
def oV : Option Int → V
  | some a => .int a
  | none => .non
theorem oD_sc (a : Option Int) : scD (oD a) = some (oV a) := by cases a <;> rfl
theorem oV_eq (a b : Option Int) : decide (oV a = oV b) = decide (a = b) := by
  cases a <;> cases b <;> simp [oV]
/-! ### all patterns, by their places -/
def patT (n : Nat) : List (List Nat) := strsV pats n
theorem patT_len : ∀ n : Nat, (patT n).length = 3 ^ n
  | 0 => rfl
  | n + 1 => by
    have e : pats.length = 3 := by decide
    show (strsV pats (n + 1)).length = _
    rw [strs_next, step_len, e, Nat.pow_succ]
    have := patT_len n
    unfold patT at this
    rw [this]
theorem patT_at {n : Nat} {p : List Nat} (h : p ∈ patT n) : p.length = n := by
  have := words_all (List.replicate n pats) (ws := [[]]) (n := 0) (fun w hw => by rcases List.mem_cons.mp hw with rfl | hw; rfl; cases hw) p h
  rw [List.length_replicate] at this
  omega
theorem patT_mem : ∀ {n : Nat} {p : List Nat}, p ∈ patT n ↔ p.length = n ∧ ∀ c ∈ p, c ∈ pats
  | 0, p => by
    show p ∈ [[]] ↔ _
    rw [List.mem_singleton]
    constructor
    · rintro rfl
      exact ⟨rfl, fun c h => nomatch h⟩
    · rintro ⟨h, _⟩
      exact List.length_eq_zero_iff.mp h
  | n + 1, p => by
    have e : patT (n + 1) = step (patT n) pats := strs_next pats n
    rw [e]
    unfold step
    rw [List.mem_flatMap]
    constructor
    · rintro ⟨w, hw, hp⟩
      obtain ⟨c, hc, rfl⟩ := List.mem_map.mp hp
      obtain ⟨h1, h2⟩ := patT_mem.mp hw
      refine ⟨by rw [List.length_append, h1]; rfl, fun a ha => ?_⟩
      rcases List.mem_append.mp ha with z | z
      · exact h2 a z
      · rw [List.mem_singleton.mp z]
        exact hc
    · rintro ⟨h1, h2⟩
      have ne : p ≠ [] := fun z => by rw [z] at h1; cases h1
      refine ⟨p.dropLast, patT_mem.mpr ⟨by rw [List.length_dropLast]; omega, fun c hc => h2 c (List.dropLast_subset p hc)⟩, List.mem_map.mpr ⟨p.getLast ne, h2 _ (List.getLast_mem ne), List.dropLast_concat_getLast ne⟩⟩
def dg (c : Nat) : Nat := if c = 45 then 0 else c - 47
def nv (acc : Nat) (p : List Nat) : Nat := p.foldl (fun a c => 3 * a + dg c) acc
theorem nv_lt : ∀ (p : List Nat) {a b : Nat}, a < b → nv a p < nv b p
  | [], _, _, h => h
  | c :: r, a, b, h => nv_lt r (show 3 * a + dg c < 3 * b + dg c by omega)
theorem nv_set : ∀ (p : List Nat) (a i : Nat) {c : Nat}, p[i]? = some 45 → 0 < dg c → nv a p < nv a (p.set i c)
  | [], _, _, _, h, _ => by simp at h
  | x :: r, a, 0, c, h, hc => by
    have e : x = 45 := Option.some.inj h
    subst e
    exact nv_lt r (show 3 * a + 0 < 3 * a + dg c by omega)
  | x :: r, a, i + 1, c, h, hc => nv_set r (3 * a + dg x) i h hc
theorem step3 : ∀ (ws : List (List Nat)) (k : Nat), k < 3 * ws.length → (step ws pats).getD k [] = ws.getD (k / 3) [] ++ [pats.getD (k % 3) 0]
  | [], k, h => by simp at h
  | w :: r, 0, h => rfl
  | w :: r, 1, h => rfl
  | w :: r, 2, h => rfl
  | w :: r, k + 3, h => by
    have ih := step3 r k (by rw [List.length_cons] at h; omega)
    have e : step (w :: r) pats = (w ++ [45]) :: (w ++ [48]) :: (w ++ [49]) :: step r pats := by
      unfold step
      rw [pats_is, List.flatMap_cons]
      rfl
    rw [e, show (k + 3) / 3 = k / 3 + 1 by omega, show (k + 3) % 3 = k % 3 by omega]
    exact ih
theorem place3 : ∀ (n k : Nat), k < 3 ^ n → nv 0 ((patT n).getD k []) = k
  | 0, k, h => by
    have : k = 0 := by
      rw [Nat.pow_zero] at h
      omega
    subst this
    rfl
  | n + 1, k, h => by
    have e : patT (n + 1) = step (patT n) pats := strs_next pats n
    rw [Nat.pow_succ] at h
    have d : dg (pats.getD (k % 3) 0) = k % 3 := by
      have l : k % 3 < 3 := Nat.mod_lt _ (by decide)
      generalize k % 3 = j at l
      match j, l with
      | 0, _ => rfl
      | 1, _ => rfl
      | 2, _ => rfl
    have ih := place3 n (k / 3) (by omega)
    unfold nv at ih
    rw [e, step3 _ _ (by rw [patT_len]; omega)]
    unfold nv
    rw [List.foldl_append, ih]
    show 3 * (k / 3) + dg (pats.getD (k % 3) 0) = k
    rw [d]
    omega
/-- in their order, from the last on -/
abbrev revP (n : Nat) : List (List Nat) := (patT n).reverse
theorem revP_at {n j : Nat} (h : j < 3 ^ n) : (revP n)[j]? = some ((patT n).getD (3 ^ n - 1 - j) []) := by
  have l := patT_len n
  rw [List.getElem?_reverse (by omega), l, List.getD_eq_getElem?_getD, List.getElem?_eq_getElem (by omega)]
  rfl
theorem revP_nv {n j : Nat} {p : List Nat} (h : (revP n)[j]? = some p) : j < 3 ^ n ∧ nv 0 p = 3 ^ n - 1 - j := by
  have l : j < (revP n).length := (List.getElem?_eq_some_iff.mp h).1
  rw [List.length_reverse, patT_len] at l
  rw [revP_at l] at h
  refine ⟨l, ?_⟩
  rw [← Option.some.inj h, place3 _ _ (by omega)]
/-- what has a greater place comes before -/
theorem rev_before {n j : Nat} {p q : List Nat} (h : (revP n)[j]? = some p) (hq : q ∈ patT n) (hlt : nv 0 p < nv 0 q) : q ∈ (revP n).take j := by
  obtain ⟨h1, h2⟩ := revP_nv h
  obtain ⟨i, hi⟩ := List.getElem?_of_mem (List.mem_reverse.mpr hq)
  obtain ⟨h3, h4⟩ := revP_nv hi
  refine List.mem_of_getElem? (i := i) ?_
  rw [List.getElem?_take, if_pos (by omega)]
  exact hi
theorem rev_new {n j : Nat} {p : List Nat} (h : (revP n)[j]? = some p) : p ∉ (revP n).take j := fun z => by
  obtain ⟨h1, h2⟩ := revP_nv h
  obtain ⟨i, hi⟩ := List.getElem?_of_mem z
  rw [List.getElem?_take] at hi
  split at hi
  · obtain ⟨h3, h4⟩ := revP_nv hi
    omega
  · cases hi
/-! ### a dict of patterns -/
def setK (l : List Nat) (ps : List (List Nat)) : List (Key × D) := ps.map fun p => (.inr (tx p), oD (sett l p))
theorem setK_at {l p : List Nat} : ∀ {ps : List (List Nat)}, p ∈ ps → valD (setK l ps) (.inr (tx p)) = some (oD (sett l p))
  | a :: r, h => by
    by_cases e : a = p
    · rw [e]
      exact valD_pos rfl
    · have h : p ∈ r := by
        rcases List.mem_cons.mp h with z | z
        · exact absurd z.symm e
        · exact z
      refine (valD_neg fun z => e ?_).trans (setK_at h)
      exact tx_inj (Sum.inr.inj z)
theorem setK_put {l p : List Nat} {ps : List (List Nat)} (h : p ∉ ps) : putD2 (setK l ps) (.inr (tx p)) (oD (sett l p)) = setK l (ps ++ [p]) := by
  unfold putD2
  rw [if_neg]
  · unfold setK
    rw [List.map_append]
    rfl
  · intro z
    rw [List.any_eq_true] at z
    obtain ⟨x, hx, e⟩ := z
    obtain ⟨q, hq, rfl⟩ := List.mem_map.mp hx
    have e := tx_inj (Sum.inr.inj (of_decide_eq_true e))
    rw [e] at hq
    exact h hq
end K41

namespace K41
open PySem PySem.Spec PyProof.Rows L2 LA
section
variable {P : Program} {w : World} {K : PySem.W.Frag} {mg : Str → Option Value} {base : Heap} {Cn C BI BT : Addr}
theorem ok_pats {f : Addr} {fd : FuncData} (TC : CntD P w K mg base Cn) (TW : WordsD P w K mg base) (F : Fun K "patterns" "patterns" (top 17) f fd) : FnOk P w K mg base (L2.CX P w) 4 f fd ["many"] (spF K (allR Cn pats)) := by
  refine fn_exc F (N := ["many"]) ⟨rfl, rfl, rfl, by decide +kernel, rfl, by decide +kernel, by decide +kernel⟩ (fun ds c o h => ?_) (fun cdv A outer s H E hr p ds c o h tk => ?_)
  · obtain ⟨d, rfl, _⟩ := h
    rfl
  · obtain ⟨d, rfl, fd', rfl⟩ := h
    cases h : posD d 7 with
    | false =>
      rw [if_neg Bool.false_ne_true]
      exact rss_ex (rs_exprX (re_c1D (es' := [.int 6]) tk TC hr (ra_cons (re_var 0) ra_nil) (fun q H => sixes) ⟨d, rfl, fd', by rw [h, if_neg Bool.false_ne_true]⟩))
    | true =>
      rw [if_pos rfl]
      refine .inl (rss_cons (rs_expr (re_c1D (es' := [.int 6]) (o := .val .non true c) tk TC hr (ra_cons (re_var 0) ra_nil) (fun q H => sixes) ⟨d, rfl, fd', by rw [h, if_pos rfl]⟩)) ?_)
      cases d with
      | int i =>
        obtain ⟨i0, i1⟩ := Bool.and_eq_true_iff.mp (show (decide (0 ≤ i) && decide (i < 7)) = true from h)
        have i0 := of_decide_eq_true i0
        have i1 := of_decide_eq_true i1
        refine rss_ret (rs_ret (re_c0 (ds := [.lst ⟨false, true⟩ (List.replicate i.toNat [D.str (tx pats)]).flatten]) TW (hr.mono (by decide)) (ra_cons (re_bin op_rep (re_lst (ra_cons re_str ra_nil) (by show 1 ≤ 100000; decide)) (re_var 0) (ov_rep rfl (by omega) (by omega) (by show 1 * _ ≤ _; omega))) ra_nil) ⟨⟨false, true⟩, List.replicate i.toNat pats, by rw [rep_wD], by rw [List.length_replicate]; omega, fun l hl => by rw [List.eq_of_mem_replicate hl]; decide, ?_⟩))
        rw [List.length_replicate]
        rfl
      | _ => cases h
/-! ### the answers that patterns settle -/
theorem re_find {X : Cx} {W : WX} {p : HD} {ρ : Rho} {c c1 c2 : PC} {e o : Expr} {pos apos : Pos} {nw n2 : Bool} {l : List Nat} {n : Nat} (hl : n ∈ l) (ho : RE X W p ρ c o (.val (.str (tx l)) nw c1)) (he : RE X W p ρ c1 e (.val (.str (chr1 n)) n2 c2)) (hs : starEach [e] X.env = [(false, eval e X.env)] := by rfl) (hbase : attributeBase o "find" X.env (eval o X.env) = eval o X.env := by rfl) (hline : (apos.endLine == pos.line) = true := by rfl) :
    RE X W p ρ c (.Call (.Attribute o "find" apos) [e] [] pos) (.val (.int ((fi n l : Nat) : Int)) true c2) :=
  pe_imp (pe_m1 PySem.F.slot_str_find (by first | rfl | (show builtinType _ = _; rw [builtinType_eq_fast]; kernel_rfl)) mt_find ho he hs hbase hline) fun σ H Q ⟨s, k⟩ => ⟨s, fun v H1 e1 p1 dv _ => by
    cases dv
    refine ⟨⟨tx l, rfl⟩, s.mono e1 p1, fun u H2 e2 p2 du _ => ?_⟩
    cases du
    refine ⟨_, _, rfl, rfl, ?_⟩
    rw [find_is hl]
    exact k _ H2 (e1.trans e2) p2 (.int _) fun _ => New.sc (by intro a h; cases h)⟩
def saR (C : Addr) : FSpec := fun ds c o => ∃ l, ds = [qD C l] ∧ Tab l ∧ o = .val (.dct (setK l (revP (manyOf l)))) false c
abbrev nSa : List Str := ["question", "found", "pattern", "low", "high"]
theorem scSa : FnScope nSa ["question"] (defScope (top 28)) := ⟨rfl, rfl, rfl, by decide +kernel, rfl, by decide +kernel, by decide +kernel⟩
abbrev fTg (st : Stmt) : Expr := match st with | .For t _ _ _ _ => t | _ => .Constant .none 0 ⟨0, 0, 0, 0⟩
abbrev fIt (st : Stmt) : Expr := match st with | .For _ t _ _ _ => t | _ => .Constant .none 0 ⟨0, 0, 0, 0⟩
abbrev fBd (st : Stmt) : List Stmt := match st with | .For _ _ b _ _ => b | _ => []
abbrev fPs (st : Stmt) : Pos := match st with | .For _ _ _ _ q => q | _ => ⟨0, 0, 0, 0⟩
abbrev saF : Stmt := (defBody (top 28)).getD 1 (.Pass ⟨0, 0, 0, 0⟩)
abbrev saI : Stmt := (fBd saF).getD 0 (.Pass ⟨0, 0, 0, 0⟩)
theorem pos_int {n : Nat} (h : n ≤ 6) : posD (.int ((n : Nat) : Int)) 7 = true := by
  show (decide ((0 : Int) ≤ ((n : Nat) : Int)) && decide (((n : Nat) : Int) < 7)) = true
  rw [decide_eq_true (by omega), decide_eq_true (by omega)]
  rfl
theorem coll_low {b : Nat → Bool} {y : Nat → Str} (m : Nat) : ∀ n : Nat, lowDs m (coll b (fun i => .str (y i)) n) = true
  | 0 => rfl
  | n + 1 => by
    unfold coll
    refine low_app (coll_low m n) ?_
    split <;> rfl
theorem low_q (C : Addr) (l : List Nat) (m : Nat) : lowD m (qD C l) = true := by
  show (true && (true && (lowDs m (yesL l) && true))) = true
  have e : lowDs m (yesL l) = true := coll_low m _
  rw [e]
  rfl
theorem isW_of {q : List Nat} (hl : q.length ≤ 6) (hb : ∀ c ∈ q, c ∈ bins) : isW bins (.str (tx q)) = true := by
  unfold isW
  rw [cds_tx, decide_eq_true hl, List.all_eq_true.mpr fun c hc => decide_eq_true (hb c hc)]
  rfl
theorem oV_scal (a b : Option Int) : scal (oV a) (oV b) = true := by cases a <;> cases b <;> rfl
theorem cell_last {c : PC} {y : Cell} : (c ++ [y])[c.length]? = some y := by simp
theorem ok_sa {f : Addr} {fd : FuncData} (gR : mg "reversed" = none) (Q : QC K C) (PM : QProp P w K mg base C "many" (manyR C)) (QCl : QCall P w K mg base C BI) (TP : AllD P w K mg base Cn "patterns" pats) (TB : BrD P w K mg base) (F : Fun K "settled_answers" "settled_answers" (top 28) f fd) : FnOk P w K mg base CX0 6 f fd ["question"] (spF K (saR C)) := by
  obtain ⟨g1, fd1, h1, h2, h3⟩ := QCl.ex
  refine fn_val F scSa (fun ds c o h => ?_) (fun ds c o h => ?_) (fun cdv A outer s H E hr p ds c o h => ?_)
  · obtain ⟨l, rfl, _⟩ := h
    rfl
  · obtain ⟨l, _, _, rfl⟩ := h
    exact ⟨_, _, _, rfl⟩
  · obtain ⟨l, rfl, tb, rfl⟩ := h
    obtain ⟨ll, n6⟩ := tab_pow tb.1
    generalize hn : manyOf l = n at *
    have em : (manyOf l : Int) = ((n : Nat) : Int) := by rw [hn]
    have hu : (cxOf CX0 P w K mg base nSa "settled_answers" (defScope (top 28)) f cdv A outer s H E).nox.A.units + 1 < cLine := Nat.lt_of_le_of_lt (Nat.add_le_add_left (show 1 ≤ 64 by decide) _) hr.units
    have p3 : 3 ^ n ≤ 729 := by
      have : 3 ^ n ≤ 3 ^ 6 := Nat.pow_le_pow_right (by decide) n6
      have e : (3 : Nat) ^ 6 = 729 := by decide
      omega
    refine .inl (rso_of (rso_newD (ds := []) (c1 := c) 1 (rd_new 1 scSa.nd) rfl fun a => ?_))
    have lr : (revP n).length = 3 ^ n := by rw [List.length_reverse, patT_len]
    have lw : (wD (patT n)).reverse.length = 3 ^ n := by rw [List.length_reverse, wD_len, patT_len]
    have at_ : ∀ {j : Nat} {d : D}, (wD (patT n)).reverse[j]? = some d → ∃ q, (revP n)[j]? = some q ∧ d = .str (tx q) := fun {j d} h => by
      unfold wD at h
      rw [← List.map_reverse, List.getElem?_map] at h
      cases e : (revP n)[j]? with
      | none =>
        rw [e] at h
        cases h
      | some q =>
        rw [e] at h
        exact ⟨q, rfl, (Option.some.inj h).symm⟩
    have loop := rs_for_all (X := (cxOf CX0 P w K mg base nSa "settled_answers" (defScope (top 28)) f cdv A outer s H E).nox) (W := Wf) (p := HD.muts p [a]) (c := c ++ [.dct (setK l ((revP n).take 0))]) (ρ := [some (qD C l), some (.mut c.length), none, none, none]) (xs := (wD (patT n)).reverse) (vs := [2]) (g := gName 2) (body := fBd saF) (tg := fTg saF) (it := fIt saF) (pos := fPs saF)
      (fun _ => [some (qD C l), some (.mut c.length), none, none, none]) (fun j => [some (qD C l), some (.mut c.length), some (.str (tx ((revP n).getD j []))), none, none]) (fun j => c ++ [.dct (setK l ((revP n).take j))]) PassesOwn.never rfl rfl
      (ri_rev gR (re_c1 (o := .val (allV pats n) false _) takes0 TP (hr.mono (by decide)) (ra_cons (re_qprop PM Q (hr.mono (by decide)) (re_var 0) ⟨l, rfl, rfl⟩) ra_nil) ⟨_, rfl, ⟨_, rfl⟩, by rw [em, pos_int n6, if_pos rfl]; rfl⟩)) (pg_name (i := 2) scSa.nd rfl (Or.inl rfl)) (fun j d h => ?_) (fun j d h => ?_)
    · refine rso_cons loop ?_
      rw [lw, ← lr, List.take_length]
      refine rso_frzD 1 (rso_in ?_) rfl (.one ?_ (.non (.non (.non (.non .nil)))))
      · exact rss_ret (rs_ret (re_var 1))
      · exact low_q C l _
    · obtain ⟨q, hq, rfl⟩ := at_ h
      have e : (revP n).getD j [] = q := by rw [List.getD_eq_getElem?_getD, hq]; rfl
      rw [e]
      exact tg_name (by decide)
    · obtain ⟨q, hq, rfl⟩ := at_ h
      have e : (revP n).getD j [] = q := by rw [List.getD_eq_getElem?_getD, hq]; rfl
      rw [e]
      have qm : q ∈ patT n := List.mem_reverse.mp (List.mem_of_getElem? hq)
      obtain ⟨ql, qc⟩ := patT_mem.mp qm
      obtain ⟨j3, _⟩ := revP_nv hq
      have nx : setK l ((revP n).take (j + 1)) = putD2 (setK l ((revP n).take j)) (.inr (tx q)) (oD (sett l q)) := by
        rw [setK_put (rev_new hq), List.take_add_one, hq]
        rfl
      have lz : (setK l ((revP n).take j)).length < 100000 := by
        unfold setK
        rw [List.length_map, List.length_take]
        omega
      have cl : ∀ y, (c ++ [Cell.dct (setK l ((revP n).take j))]).set c.length y = c ++ [y] := fun y => set_last c _ y
      have lowv : ∀ v : Option Int, lowD 0 (oD v) = true := fun v => by cases v <;> rfl
      refine rss_less (ρ1 := [some (qD C l), some (.mut c.length), some (.str (tx q)), if 45 ∈ q then some (.str (tx (q.set (fi 45 q) 48))) else none, if 45 ∈ q then some (.str (tx (q.set (fi 45 q) 49))) else none]) ?_ (by repeat (first | exact Less.nil | apply Less.same | apply Less.skip))
      have test : ∀ k, decide (45 ∈ q) = k → RT (cxOf CX0 P w K mg base nSa "settled_answers" (defScope (top 28)) f cdv A outer s H E).nox Wf (HD.muts p [a]) [some (qD C l), some (.mut c.length), some (.str (tx q)), none, none] (c ++ [.dct (setK l ((revP n).take j))]) (match saI with | .If e _ _ _ => e | _ => .Name "" ⟨0, 0, 0, 0⟩) (.val k (c ++ [.dct (setK l ((revP n).take j))])) := fun k hk => by
        refine rt_to (rt_cmp op_in_sign re_str (re_var 2) (ov_inC (ch := 45) (z := tx q))) ?_
        rw [tx_list]
        exact hk
      rw [nx]
      by_cases hd : 45 ∈ q
      · rw [if_pos hd, if_pos hd]
        have lf := fi_lt hd
        have hlo : q.set (fi 45 q) 48 ∈ (revP n).take j := rev_before hq (patT_mem.mpr ⟨by rw [List.length_set]; exact ql, fun x hx => by
          rcases List.mem_or_eq_of_mem_set hx with z | z
          · exact qc x z
          · rw [z]; decide⟩) (nv_set q 0 _ (fi_at hd) (by decide))
        have hhi : q.set (fi 45 q) 49 ∈ (revP n).take j := rev_before hq (patT_mem.mpr ⟨by rw [List.length_set]; exact ql, fun x hx => by
          rcases List.mem_or_eq_of_mem_set hx with z | z
          · exact qc x z
          · rw [z]; decide⟩) (nv_set q 0 _ (fi_at hd) (by decide))
        refine rss_cons (rs_if (kb := true) (test true (decide_eq_true hd)) (fun _ => ?_) fun z => nomatch z) rss_nil
        refine rss_cons (c1 := c ++ [.dct (setK l ((revP n).take j))]) (ρ1 := [some (qD C l), some (.mut c.length), some (.str (tx q)), some (.str (tx (q.set (fi 45 q) 48))), some (.str (tx (q.set (fi 45 q) 49)))]) (rs_tg (d := .tup [.str (tx (nw q ((fi 45 q : Nat) : Int) 48)), .str (tx (nw q ((fi 45 q : Nat) : Int) 49))]) (nw := true) (re_c0 TB (hr.mono (by decide)) (ra_cons (re_var 2) (ra_cons (re_find hd (re_var 2) re_str) ra_nil)) ⟨q, ((fi 45 q : Nat) : Int), rfl, by omega, by rw [Int.toNat_natCast]; exact lf, by omega, rfl⟩) (pg_tup rfl (pgs_cons (pg_name (i := 3) scSa.nd rfl (Or.inl rfl)) (pgs_cons (pg_name (i := 4) scSa.nd rfl (Or.inl rfl)) pgs_nil))) (tg_two (vs := [3, 4]) (by decide) (by decide))) ?_
        refine rss_cons (c1 := c ++ [.dct (putD2 (setK l ((revP n).take j)) (.inr (tx q)) (oD (sett l q)))]) ?_ rss_nil
        rw [← cl (.dct (putD2 (setK l ((revP n).take j)) (.inr (tx q)) (oD (sett l q))))]
        refine rs_dputM (ky := .inr (tx q)) 1 c.length hu (nw := false) ?_ (re_var 2) cell_last lz (lowv _)
        rw [sett_yes hd]
        have tq : RT (cxOf CX0 P w K mg base nSa "settled_answers" (defScope (top 28)) f cdv A outer s H E).nox Wf (HD.muts p [a]) [some (qD C l), some (.mut c.length), some (.str (tx q)), some (.str (tx (q.set (fi 45 q) 48))), some (.str (tx (q.set (fi 45 q) 49)))] (c ++ [.dct (setK l ((revP n).take j))]) (match saI with | .If _ (_ :: .Assign _ (.IfExp e _ _ _) _ :: _) _ _ => e | _ => .Name "" ⟨0, 0, 0, 0⟩) (.val (decide (sett l (q.set (fi 45 q) 48) = sett l (q.set (fi 45 q) 49))) (c ++ [.dct (setK l ((revP n).take j))])) :=
          rt_to (rt_cmp op_eq (re_dgetM (ky := .inr (tx (q.set (fi 45 q) 48))) 1 c.length hu (re_var 3) ⟨_, cell_last⟩ cell_last (setK_at hlo)) (re_dgetM (ky := .inr (tx (q.set (fi 45 q) 49))) 1 c.length hu (re_var 4) ⟨_, cell_last⟩ cell_last (setK_at hhi)) (ov_eqS (oD_sc _) (oD_sc _) (oV_scal _ _))) (oV_eq _ _)
        refine re_if tq (fun hk => ?_) fun hk => ?_
        · rw [if_pos (of_decide_eq_true hk)]
          exact re_dgetM (ky := .inr (tx (q.set (fi 45 q) 48))) 1 c.length hu (re_var 3) ⟨_, cell_last⟩ cell_last (setK_at hlo)
        · rw [if_neg (of_decide_eq_false hk)]
          exact re_old re_non
      · rw [if_neg hd, if_neg hd]
        refine rss_cons (rs_if (kb := false) (test false (decide_eq_false hd)) (fun z => nomatch z) fun _ => ?_) rss_nil
        refine rss_cons (c1 := c ++ [.dct (putD2 (setK l ((revP n).take j)) (.inr (tx q)) (oD (sett l q)))]) ?_ rss_nil
        rw [← cl (.dct (putD2 (setK l ((revP n).take j)) (.inr (tx q)) (oD (sett l q)))), sett_no hd]
        have qb : ∀ x ∈ q, x ∈ bins := fun x hx => by
          have m := qc x hx
          rw [pats_is] at m
          have e : bins = [48, 49] := by decide
          rw [e]
          simp only [List.mem_cons, List.not_mem_nil, or_false] at m ⊢
          rcases m with rfl | m
          · exact absurd hx hd
          · exact m
        exact rs_dputM (ky := .inr (tx q)) 1 c.length hu (nw := true) (re_callO (fs := flds l) (o := .val (.int (ansV l q)) true _) takes0 h2 (hr.mono (by decide)) h3 h1 (re_var 0) (ra_cons (re_var 2) ra_nil) ⟨l, .str (tx q), rfl, tb, str_fit (by omega), by rw [isW_of (by omega) qb, cds_tx, hn, ql, decide_eq_true rfl]; rfl⟩) (re_var 2) cell_last lz rfl
end
end K41

/-! min of a list of data that are alike -/
namespace LA
open PySem PySem.Spec PyProof.Rows L2
def rMinD (K : PySem.W.Frag) : List V → Hp → VK → Prop := fun xs H Q => ∃ (p : HD) (a : Addr) (vs : List V) (d : D) (ds : List D), xs = [.ref a] ∧ SqL K H a vs ∧ DVs K p H vs (d :: ds) ∧ okDs false (d :: ds) = true ∧ PySem.W.AlikeAll (toPys (d :: ds)) ∧ PyData.depthAll (toPys (d :: ds)) ≤ 60 ∧
  ∀ (i : Nat) v e, vs[i]? = some v → (d :: ds)[i]? = some e → toPy e = PySem.W.minD (toPy d) (toPys ds) → Q v H
theorem toPys_at : ∀ {ds : List D} {i : Nat} {e : D}, ds[i]? = some e → (toPys ds)[i]? = some (toPy e)
  | [], i, e, h => by simp at h
  | a :: r, 0, e, h => by
    cases Option.some.inj h
    unfold toPys
    rfl
  | a :: r, i + 1, e, h => by
    unfold toPys
    exact toPys_at (ds := r) h
section
variable {X : Cx}
theorem call_minD (hc : X.calm = true) (hu : X.A.units + 62 < cLine) : CallR X (.builtin "min") (rMinD X.K) := by
  intro pins s σ H xs us Q I r h
  obtain ⟨p, a, vs, d, ds, rfl, hq, dvs, ok, al, dp, q⟩ := h
  obtain ⟨its, rv, pl, hz⟩ := I.list hq
  rw [Vals.ref1 r]
  obtain ⟨as, hr, _⟩ := readss_of (big := false) I (d :: ds) vs its dvs ok rv
  have tp : toPys (d :: ds) = toPy d :: toPys ds := by rw [toPys]
  rw [tp] at hr al dp
  refine PySem.W.min_list_data (I.ok.hd hc) pl.isList hr al (by omega) fun i v h' tk bs hv rd hk => ?_
  have hv : its[i]? = some v := by simpa using hv
  obtain ⟨u, hu', ru⟩ : ∃ u, vs[i]? = some u ∧ RelV u v := by
    have l : i < its.length := (List.getElem?_eq_some_iff.mp hv).1
    have l2 : i < vs.length := by rw [rv.length]; exact l
    obtain ⟨v', h1, h2⟩ := rv.get (List.getElem?_eq_getElem l2)
    rw [hv] at h1
    cases h1
    exact ⟨_, List.getElem?_eq_getElem l2, h2⟩
  obtain ⟨e, he, de⟩ := dvs.get' hu'
  have oke : okD false e = true := by
    have : ∀ {l : List D}, okDs false l = true → e ∈ l → okD false e = true := fun {l} => by
      induction l with
      | nil => exact fun _ m => nomatch m
      | cons b r ih =>
        intro h m
        obtain ⟨h1, h2⟩ := Bool.and_eq_true_iff.mp (show (okD false b && okDs false r) = true from h)
        rcases List.mem_cons.mp m with rfl | m
        · exact h1
        · exact ih h2 m
    exact this ok (List.mem_of_getElem? he)
  obtain ⟨bs', r1, _⟩ := reads_of (big := false) I e u v de oke ru
  have r2 := Reads.keeps hk r1
  exact ⟨u, H, I.kept hk, ru, q i u e hu' he (Reads.unique r2 _ _ rd).1⟩
end
end LA
namespace LA
open PySem PySem.W PySem.Spec PyProof.Rows L2
/-! ### pairs of a number and a text -/
def prP (x : Int × Str) : D := .tup [.int x.1, .str x.2]
def pyP (x : Int × Str) : PyData := .tuple [.int x.1, .str x.2]
theorem toPy_prP (x : Int × Str) : toPy (prP x) = pyP x := by
  unfold prP pyP toPy toPys toPys toPys toPy
  rfl
theorem toPys_prP : ∀ xs : List (Int × Str), toPys (xs.map prP) = xs.map pyP
  | [] => by rw [List.map_nil, List.map_nil, toPys]
  | x :: r => by rw [List.map_cons, List.map_cons, toPys, toPy_prP, toPys_prP r]
theorem pyP_inj {x y : Int × Str} (h : pyP x = pyP y) : x = y := by
  obtain ⟨a, b⟩ := x
  obtain ⟨c, d⟩ := y
  have h1 := PyData.tuple.inj h
  simp only [List.cons.injEq, PyData.int.injEq, PyData.str.injEq, and_true] at h1
  rw [h1.1, h1.2]
theorem toks_pr (x : Int × Str) : keyToks (pyP x) = [.inl 1] ++ (.inl x.1 :: [.inl 1, .inr x.2.cps.toList, .inl 0]) := by
  unfold pyP keyToks keyToksAll keyToksAll keyToksAll keyToks
  rfl
theorem pr_lt {x y : Int × Str} (h : x.1 ≠ y.1) : dataLt (pyP x) (pyP y) = decide (x.1 < y.1) := by
  unfold dataLt
  rw [toks_pr, toks_pr, lex_pre, lex_atom (fun z => h (Sum.inl.inj z))]
  by_cases q : x.1 < y.1
  · have : itemLt (.inl x.1) (.inl y.1) = true := decide_eq_true q
    simp [PyProof.Rows.lexLt, this, q]
  · have : itemLt (.inl x.1) (.inl y.1) = false := decide_eq_false q
    have r : itemLt (.inl y.1) (.inl x.1) = true := decide_eq_true (by omega)
    simp [PyProof.Rows.lexLt, this, r, q]
theorem min_pr : ∀ (xs : List (Int × Str)) (x : Int × Str), ∃ y ∈ x :: xs, PySem.W.minD (pyP x) (xs.map pyP) = pyP y ∧ ∀ z ∈ x :: xs, y.1 ≤ z.1
  | [], x => ⟨x, List.mem_cons_self, rfl, fun z hz => by rw [List.mem_singleton.mp hz]; exact Int.le_refl _⟩
  | a :: r, x => by
    have e : PySem.W.minD (pyP x) ((a :: r).map pyP) = PySem.W.minD (if dataLt (pyP a) (pyP x) then pyP a else pyP x) (r.map pyP) := rfl
    rw [e]
    cases q : dataLt (pyP a) (pyP x) with
    | true =>
      rw [if_pos rfl]
      obtain ⟨y, h1, h2, h3⟩ := min_pr r a
      have l : a.1 ≤ x.1 := by
        by_cases ne : a.1 = x.1
        · omega
        · rw [pr_lt ne] at q
          have := of_decide_eq_true q
          omega
      refine ⟨y, List.mem_cons_of_mem _ h1, h2, fun z hz => ?_⟩
      rcases List.mem_cons.mp hz with rfl | hz
      · exact Int.le_trans (h3 a List.mem_cons_self) l
      · exact h3 z hz
    | false =>
      rw [if_neg Bool.false_ne_true]
      obtain ⟨y, h1, h2, h3⟩ := min_pr r x
      have l : x.1 ≤ a.1 := by
        by_cases ne : a.1 = x.1
        · omega
        · rw [pr_lt ne] at q
          have := of_decide_eq_false q
          omega
      refine ⟨y, ?_, h2, fun z hz => ?_⟩
      · rcases List.mem_cons.mp h1 with rfl | h1
        · exact List.mem_cons_self
        · exact List.mem_cons_of_mem _ (List.mem_cons_of_mem _ h1)
      · rcases List.mem_cons.mp hz with rfl | hz
        · exact h3 z List.mem_cons_self
        · rcases List.mem_cons.mp hz with rfl | hz
          · exact Int.le_trans (h3 x List.mem_cons_self) l
          · exact h3 z (List.mem_cons_of_mem _ hz)
theorem ok_prs : ∀ xs : List (Int × Str), okDs false (xs.map prP) = true
  | [] => rfl
  | x :: r => by
    show (okD false (prP x) && okDs false (r.map prP)) = true
    rw [ok_prs r]
    rfl
theorem dp_prs : ∀ xs : List (Int × Str), PyData.depthAll (xs.map pyP) ≤ 2
  | [] => Nat.zero_le _
  | x :: r => by
    have := dp_prs r
    have e : (pyP x).depth ≤ 2 := by
      unfold pyP PyData.depth PyData.depthAll PyData.depthAll PyData.depthAll PyData.depth
      decide
    rw [List.map_cons, PyData.depthAll]
    omega
theorem al_prs (xs : List (Int × Str)) : PySem.W.AlikeAll (xs.map pyP) := by
  refine ⟨fun x hx y hy => ?_, fun x hx => ?_⟩
  · obtain ⟨a, _, rfl⟩ := List.mem_map.mp hx
    obtain ⟨b, _, rfl⟩ := List.mem_map.mp hy
    unfold pyP alike alikeAll alikeAll alikeAll alike
    rfl
  · obtain ⟨a, _, rfl⟩ := List.mem_map.mp hx
    unfold pyP
    exact fun z => nomatch z
theorem cv_minP {K : PySem.W.Frag} {p : HD} {c : PC} {g : G} (x : Int × Str) (xs : List (Int × Str)) : ∃ y ∈ x :: xs, (∀ z ∈ x :: xs, y.1 ≤ z.1) ∧ CV K p (rMinD K) [.lst g ((x :: xs).map prP)] (prP y) false c := by
  obtain ⟨y, h1, h2, h3⟩ := min_pr xs x
  refine ⟨y, h1, h3, fun vs H Q dvs hp k => ?_⟩
  cases dvs with
  | cons h r =>
    cases r
    cases h with
    | lst hb hq ha =>
      have tp : toPys (prP x :: xs.map prP) = (x :: xs).map pyP := toPys_prP (x :: xs)
      refine ⟨p, _, _, prP x, xs.map prP, rfl, un_sqL hq, ha, ok_prs (x :: xs), by rw [tp]; exact al_prs _, by rw [tp]; exact Nat.le_trans (dp_prs _) (by decide), fun i v e hv he q => ?_⟩
      rw [toPy_prP, toPys_prP, h2] at q
      have he' : ((x :: xs).map prP)[i]? = some e := he
      rw [List.getElem?_map] at he'
      cases w : (x :: xs)[i]? with
      | none =>
        rw [w] at he'
        cases he'
      | some z =>
        rw [w] at he'
        have ee := (Option.some.inj he').symm
        subst ee
        rw [toPy_prP] at q
        have ez := pyP_inj q
        subst ez
        obtain ⟨v', hv', dv'⟩ := ha.get he
        rw [hv] at hv'
        cases hv'
        exact k v H (Ext.refl p H) hp dv' fun z => nomatch z
end LA
namespace LA
open PySem PySem.W PySem.Spec PyProof.Rows L2
/-- the least pair -/
def mnP (x : Int × Str) (xs : List (Int × Str)) : Int × Str := xs.foldl (fun a y => if dataLt (pyP y) (pyP a) then y else a) x
theorem mnP_is : ∀ (xs : List (Int × Str)) (x : Int × Str), PySem.W.minD (pyP x) (xs.map pyP) = pyP (mnP x xs)
  | [], x => rfl
  | a :: r, x => by
    have e : PySem.W.minD (pyP x) ((a :: r).map pyP) = PySem.W.minD (if dataLt (pyP a) (pyP x) then pyP a else pyP x) (r.map pyP) := rfl
    have e2 : mnP x (a :: r) = mnP (if dataLt (pyP a) (pyP x) then a else x) r := rfl
    rw [e, e2, ← mnP_is r]
    congr 1
    split <;> rfl
theorem mnP_ok (x : Int × Str) (xs : List (Int × Str)) : mnP x xs ∈ x :: xs ∧ ∀ z ∈ x :: xs, (mnP x xs).1 ≤ z.1 := by
  obtain ⟨y, h1, h2, h3⟩ := min_pr xs x
  rw [mnP_is] at h2
  have e := pyP_inj h2
  rw [e]
  exact ⟨h1, h3⟩
theorem cv_mnP {K : PySem.W.Frag} {p : HD} {c : PC} {g : G} (x : Int × Str) (xs : List (Int × Str)) : CV K p (rMinD K) [.lst g ((x :: xs).map prP)] (prP (mnP x xs)) false c := fun vs H Q dvs hp k => by
  cases dvs with
  | cons h r =>
    cases r
    cases h with
    | lst hb hq ha =>
      have tp : toPys (prP x :: xs.map prP) = (x :: xs).map pyP := toPys_prP (x :: xs)
      refine ⟨p, _, _, prP x, xs.map prP, rfl, un_sqL hq, ha, ok_prs (x :: xs), by rw [tp]; exact al_prs _, by rw [tp]; exact Nat.le_trans (dp_prs _) (by decide), fun i v e hv he q => ?_⟩
      rw [toPy_prP, toPys_prP, mnP_is] at q
      have he' : ((x :: xs).map prP)[i]? = some e := he
      rw [List.getElem?_map] at he'
      cases w : (x :: xs)[i]? with
      | none =>
        rw [w] at he'
        cases he'
      | some z =>
        rw [w] at he'
        have ee := (Option.some.inj he').symm
        subst ee
        rw [toPy_prP] at q
        have ez := pyP_inj q
        subst ez
        obtain ⟨v', hv', dv'⟩ := ha.get he
        rw [hv] at hv'
        cases hv'
        exact k v H (Ext.refl p H) hp dv' fun z => nomatch z
end LA

/-! max of a list of ints with a default -/
namespace LA
open PySem PySem.Spec PyProof.Rows L2
def mxD (k : Int) : List Int → Int
  | [] => k
  | n :: r => r.foldl max n
def rMaxDf (K : PySem.W.Frag) : List V → List V → Hp → VK → Prop := fun xs zs H Q => ∃ (a : Addr) (ns : List Int) (k : Int), xs = [.ref a] ∧ SqL K H a (ns.map V.int) ∧ zs = [.int k] ∧ Q (.int (mxD k ns)) H
theorem reads_ints {h : Heap} : ∀ {vs : List V} {us : List Value} {ns : List Int}, vs = ns.map V.int → Vals vs us → ReadsAll h us (ns.map PyData.int) []
  | _, _, [], rfl, .nil => .nil
  | _, _, n :: r, rfl, .cons h t => by
    obtain ⟨k, rfl⟩ := h
    exact .cons (.int n k) (reads_ints rfl t)
section
variable {X : Cx}
theorem call_maxDf (hc : X.calm = true) (hu : X.A.units + 62 < cLine) : CallRK X (.builtin "max") [Str.ofString "default"] (rMaxDf X.K) := by
  intro pins s σ H xs zs us ws Q I r rz h
  obtain ⟨a, ns, k, rfl, hs, rfl, q⟩ := h
  obtain ⟨its, rv, pl, hz⟩ := I.list hs
  rw [Vals.ref1 r]
  obtain ⟨w, rfl, rw'⟩ := vals1 rz
  obtain ⟨t, rfl⟩ := rw'
  have hr := reads_ints (h := s.heap) rfl rv
  have al : PySem.W.AlikeAll (ns.map PyData.int) := by
    refine ⟨fun x hx y hy => ?_, fun x hx => ?_⟩
    · obtain ⟨i, _, rfl⟩ := List.mem_map.mp hx
      obtain ⟨j, _, rfl⟩ := List.mem_map.mp hy
      unfold PySem.W.alike
      rfl
    · obtain ⟨i, _, rfl⟩ := List.mem_map.mp hx
      exact fun z => nomatch z
  have dp : ∀ ns : List Int, PyData.depthAll (ns.map PyData.int) = 0 := fun ns => by
    induction ns with
    | nil => unfold List.map PyData.depthAll; rfl
    | cons n r ih =>
      rw [List.map_cons, PyData.depthAll, ih]
      unfold PyData.depth
      rfl
  refine PySem.W.max_list_default (I.ok.hd hc) pl.isList hr al (by rw [dp]; omega) (fun e h' tk hk => ?_) fun y ys i v h' tk bs e hv rd hk => ?_
  · have e := List.map_eq_nil_iff.mp e
    subst e
    exact ⟨.int k, H, I.kept hk, ⟨t, rfl⟩, q⟩
  · cases ns with
    | nil => cases e
    | cons n r =>
      rw [List.map_cons] at e
      obtain ⟨rfl, rfl⟩ := List.cons.inj e
      rw [PySem.W.maxD_ints] at rd
      cases rd with
      | int _ t' => exact ⟨.int (mxD k (n :: r)), H, I.kept hk, ⟨t', rfl⟩, q⟩
end
end LA
namespace LA
open PySem PySem.Spec PyProof.Rows L2
section
variable {X : Cx} {W : WX} {p : HD} {ρ : Rho} {c c1 c2 : PC} {e d : Expr} {pos ps kpos : Pos} {nw n2 : Bool} {g : G} {ns : List Int} {k : Int}
theorem re_maxDf (hm : X.mg "max" = none) (hc : X.calm = true) (hu : X.A.units + 62 < cLine) (ha : RE X W p ρ c e (.val (.lst g (ns.map D.int)) nw c1)) (hd : RE X W p ρ c1 d (.val (.int k) n2 c2)) (hg : Gl X "max" := by rfl)
    (he : backTo pos (starEach [e] X.env) = (false, eval e X.env) :: backTo pos (starEach [] X.env) := by rfl) (hpl : (backTo pos (starEach [e] X.env)).any (·.1) = false := by rfl) (hes : starEach [e] X.env = (false, eval e X.env) :: starEach [] X.env := by rfl)
    (hall : (backToKw pos (keywordEach [⟨some "default", d, kpos⟩] X.env)).all (·.1.isSome) = true := by rfl) (hnone : (backToKw pos (keywordEach [⟨some "default", d, kpos⟩] X.env)).any (·.1.isNone) = false := by rfl) (hks : (backToKw pos (keywordEach [⟨some "default", d, kpos⟩] X.env)).filterMap (·.1) = [Str.ofString "default"] := by rfl) :
    RE X W p ρ c (.Call (.Name "max" ps) [e] [⟨some "default", d, kpos⟩] pos) (.val (.int (mxD k ns)) true c2) := by
  have A := ra_cons (W := W) ha (ra_nil (W := W)) hes
  have K := rk_cons (nm := some "default") (kpos := kpos) (W := W) hd (rk_nil (W := W))
  refine pe_imp (pe_callBK (call_maxDf hc hu) hg hm PyProof.Rows.boot_max A K (by decide) (by decide) he hpl hall hnone hks) fun σ H Q ⟨s, kk⟩ => ⟨s, fun vs H1 e1 p1 dvs => ?_⟩
  refine ⟨s.mono e1 p1, fun zs H2 e2 p2 dz => ?_⟩
  cases dvs with
  | cons h r =>
    cases r
    cases h with
    | lst hb hq ha' =>
      rw [of_ints ha'] at hq
      cases dz with
      | cons hz rz =>
        cases rz
        cases hz
        exact ⟨_, ns, k, rfl, un_sqL (e2.sqL hq), rfl, kk _ H2 (e1.trans e2) p2 (.int _) fun _ => New.sc (by intro a h; cases h)⟩
end
end LA

/-! a dict that is walked: it is locked while the expression runs -/
namespace LA
open PySem PySem.Spec PyProof.Rows L2
/-- as before, but that dicts may be locked or not -/
def SubD (G G' : Hp) : Prop := ∀ b o, G b = some o → G' b = some o ∨ ∃ od kv, (o = .dK kv ∧ G' b = some (.frz od (.dK kv))) ∨ (o = .frz od (.dK kv) ∧ G' b = some (.dK kv))
section
variable {K : PySem.W.Frag} {p : HD} {H H' : Hp}
theorem SubD.rdL {G G' : Hp} (e : SubD G G') {a : Addr} {xs : List V} (h : Rd G a (.lst xs)) : Rd G' a (.lst xs) := by
  rcases h with h | ⟨o, h⟩
  · rcases e _ _ h with q | ⟨od, kv, ⟨q, _⟩ | ⟨q, _⟩⟩
    · exact .inl q
    · cases q
    · cases q
  · rcases e _ _ h with q | ⟨od, kv, ⟨q, _⟩ | ⟨q, _⟩⟩
    · exact .inr ⟨o, q⟩
    · cases q
    · cases q
theorem SubD.rdT {G G' : Hp} (e : SubD G G') {a : Addr} {xs : List V} (h : Rd G a (.tup xs)) : Rd G' a (.tup xs) := by
  rcases h with h | ⟨o, h⟩
  · rcases e _ _ h with q | ⟨od, kv, ⟨q, _⟩ | ⟨q, _⟩⟩
    · exact .inl q
    · cases q
    · cases q
  · rcases e _ _ h with q | ⟨od, kv, ⟨q, _⟩ | ⟨q, _⟩⟩
    · exact .inr ⟨o, q⟩
    · cases q
    · cases q
theorem SubD.rdK {G G' : Hp} (e : SubD G G') {a : Addr} {xs : List (Key × V)} (h : Rd G a (.dK xs)) : Rd G' a (.dK xs) := by
  rcases h with h | ⟨o, h⟩
  · rcases e _ _ h with q | ⟨od, kv, ⟨q, r⟩ | ⟨q, _⟩⟩
    · exact .inl q
    · cases q
      exact .inr ⟨od, r⟩
    · cases q
  · rcases e _ _ h with q | ⟨od, kv, ⟨q, _⟩ | ⟨q, r⟩⟩
    · exact .inr ⟨o, q⟩
    · cases q
    · cases q
      exact .inl r
theorem SubD.same {G G' : Hp} (e : SubD G G') {a : Addr} {o : HO} (h : G a = some o) (h1 : ∀ kv, o ≠ .dK kv) (h2 : ∀ od kv, o ≠ .frz od (.dK kv)) : G' a = some o := by
  rcases e _ _ h with q | ⟨od, kv, ⟨q, _⟩ | ⟨q, _⟩⟩
  · exact q
  · exact absurd q (h1 kv)
  · exact absurd q (h2 od kv)
mutual
theorem DV.subD {q : HD} (e : SubD (hide p H) (hide q H')) (pe : ∀ (i : Nat) (a : Addr), p.m[i]? = some a → q.m[i]? = some a) : ∀ {v : V} {d : D}, DV K p H v d → DV K q H' v d
  | _, _, .non => .non
  | _, _, .bl b => .bl b
  | _, _, .int i => .int i
  | _, _, .str x => .str x
  | _, _, .lst b h r => .lst ⟨b.1, fun z => e.same (b.2 z) (fun _ y => nomatch y) fun _ _ y => nomatch y⟩ (h.elim (fun z => .inl (e.rdL z)) .inr) (DVs.subD e pe r)
  | _, _, .tup h r => .tup (h.elim (fun z => .inl (e.rdT z)) .inr) (DVs.subD e pe r)
  | _, _, .dct h r => .dct (e.rdK h) (DVk.subD e pe r)
  | _, _, .mut h => .mut (pe _ _ h)
  | _, _, .ty n => .ty n
  | _, _, .cls a => .cls a
  | _, _, .exn h r => .exn (e.same h (fun _ y => nomatch y) fun _ _ y => nomatch y) (DVf.subD e pe r)
  | _, _, .obj h r => .obj (e.same h (fun _ y => nomatch y) fun _ _ y => nomatch y) (DVf.subD e pe r)
theorem DVs.subD {q : HD} (e : SubD (hide p H) (hide q H')) (pe : ∀ (i : Nat) (a : Addr), p.m[i]? = some a → q.m[i]? = some a) : ∀ {v : List V} {d : List D}, DVs K p H v d → DVs K q H' v d
  | _, _, .nil => .nil
  | _, _, .cons h r => .cons (DV.subD e pe h) (DVs.subD e pe r)
theorem DVk.subD {q : HD} (e : SubD (hide p H) (hide q H')) (pe : ∀ (i : Nat) (a : Addr), p.m[i]? = some a → q.m[i]? = some a) : ∀ {v : List (Key × V)} {d : List (Key × D)}, DVk K p H v d → DVk K q H' v d
  | _, _, .nil => .nil
  | _, _, .cons h r => .cons (DV.subD e pe h) (DVk.subD e pe r)
theorem DVf.subD {q : HD} (e : SubD (hide p H) (hide q H')) (pe : ∀ (i : Nat) (a : Addr), p.m[i]? = some a → q.m[i]? = some a) : ∀ {v : List (Str × V)} {d : List (Str × D)}, DVf K p H v d → DVf K q H' v d
  | _, _, .nil => .nil
  | _, _, .cons h r => .cons (DV.subD e pe h) (DVf.subD e pe r)
end
theorem CellAt.subD {a : Addr} {x : Cell} (e : SubD (hide p H) (hide p H')) (ea : H' a = H a) (h : CellAt K p H a x) : CellAt K p H' a x := by
  have e' : SubD (hide p.flat H) (hide p.flat H') := by
    rw [hide_flat, hide_flat]
    exact e
  have pe : ∀ (i : Nat) (b : Addr), p.flat.m[i]? = some b → p.flat.m[i]? = some b := fun i b z => z
  cases x with
  | lst ds => obtain ⟨vs, h, r⟩ := h; exact ⟨vs, ea.trans h, r.subD e' pe⟩
  | ins C fs => obtain ⟨dx, fv, h, r⟩ := h; exact ⟨dx, fv, ea.trans h, r.subD e' pe⟩
  | dct kvs => obtain ⟨kv, h, r⟩ := h; exact ⟨kv, ea.trans h, r.subD e' pe⟩
  | gone => obtain ⟨o, h⟩ := h; exact ⟨o, ea.trans h⟩
theorem PoolAt.subD {c : PC} (h : PoolAt K p H c) (e : SubD (hide p H) (hide p H')) (m : ∀ a, p.hid a → H' a = H a) : PoolAt K p H' c :=
  ⟨⟨h.1.1, h.1.2.1, fun i a x h1 h2 => (h.1.2.2 i a x h1 h2).subD e (m a (.inl (List.mem_of_getElem? h1)))⟩, fun a ha => by
    obtain ⟨o, ho⟩ := h.2 a ha
    exact ⟨o, (m a (.inr ha)).trans ho⟩⟩
/-- locked, and unlocked -/
theorem sub_lock {a : Addr} {od : Obj} {kv : List (Key × V)} (h : H a = some (.dK kv)) : SubD (hide p H) (hide p (upd H a (.frz od (.dK kv)))) := fun b o y => by
  obtain ⟨y1, y2⟩ := hide_some y
  rw [hide_ne y2]
  by_cases e : b = a
  · subst e
    rw [h] at y1
    cases y1
    exact .inr ⟨od, kv, .inl ⟨rfl, upd_same⟩⟩
  · exact .inl (by rw [upd_ne e]; exact y1)
theorem sub_unlock {a : Addr} {od : Obj} {kv : List (Key × V)} (h : H a = some (.frz od (.dK kv))) : SubD (hide p H) (hide p (upd H a (.dK kv))) := fun b o y => by
  obtain ⟨y1, y2⟩ := hide_some y
  rw [hide_ne y2]
  by_cases e : b = a
  · subst e
    rw [h] at y1
    cases y1
    exact .inr ⟨od, kv, .inr ⟨rfl, upd_same⟩⟩
  · exact .inl (by rw [upd_ne e]; exact y1)
theorem hid_upd {a : Addr} {u : HO} (na : ¬ p.hid a) : ∀ b, p.hid b → upd H a u b = H b := fun b hb => upd_ne fun e => na (by rw [← e]; exact hb)
/-- the dict that stands at the j-th name is locked -/
def Fz (p : HD) (j : Nat) (σ : L2.St) (H : Hp) : Prop := ∃ a od kv, σ[j]? = some (some (.ref a)) ∧ hide p H a = some (.frz od (.dK kv))
theorem id_m : ∀ (i : Nat) (a : Addr), p.m[i]? = some a → p.m[i]? = some a := fun i a h => h
end
section
variable {X : Cx} {W : WX} {p : HD} {ρ : Rho} {c c1 : PC} {e tg : Expr} {pos : Pos} {d : D} {nw : Bool} {ds : List (Key × D)} {x : Str}
theorem re_unlock (j : Nat) (h : PE X e (fun σ H Q => Fz p j σ H ∧ tE X.K W p ρ c (.val d nw c1) σ H Q)) (hρ : ρ[j]? = some (some (.dct ds))) : RE X W p ρ c e (.val d nw c1) := by
  refine ⟨fun pins s σ H Q I ⟨sr, k⟩ => ?_⟩
  obtain ⟨v, h1, h2⟩ := sr.at' j _ hρ
  cases h2 with
  | @dct a kv _ hr hk =>
    rcases hr with hr | ⟨od, hr⟩
    · obtain ⟨ha, na⟩ := hide_some hr
      have am : a ∉ p.m := fun z => na (.inl z)
      refine (pe_lock h).run pins s σ H Q I ⟨a, .dK kv, ha, trivial, fun od => ?_⟩
      have sb := sub_lock (p := p) (od := od) ha
      have srF : SR X.K p (upd H a (.frz od (.dK kv))) σ ρ c := ⟨sr.len, fun i d' q => by
        obtain ⟨v', q1, q2⟩ := sr.at' i d' q
        exact ⟨v', q1, q2.subD sb id_m⟩, sr.pl.subD sb (hid_upd na)⟩
      refine ⟨⟨a, od, kv, h1, by rw [hide_ne na]; exact upd_same⟩, srF, fun w H2 e2 p2 dw hn => ?_⟩
      have h2a : H2 a = some (.frz od (.dK kv)) := e2 a _ am upd_same
      have sb2 := sub_unlock (p := p) h2a
      refine ⟨h2a, k w _ (fun b o nb hb => ?_) (p2.subD sb2 (hid_upd na)) (dw.subD sb2 id_m) fun q => fun b ew => ?_⟩
      · by_cases eb : b = a
        · subst eb
          rw [ha] at hb
          cases hb
          exact upd_same
        · rw [upd_ne eb]
          exact e2 b o nb (by rw [upd_ne eb]; exact hb)
      · obtain ⟨⟨n1, n2⟩, n3, n4⟩ := hn q b ew
        have ba : b ≠ a := fun z => by
          rw [z, upd_same] at n1
          cases n1
        have nab : ¬ (p.also b).hid a := fun z => z.elim (fun y => am y) fun y => (List.mem_cons.mp y).elim (fun y => ba y.symm) fun y => na (.inr y)
        have sb3 := sub_unlock (p := p.also b) h2a
        rw [upd_ne ba] at n1
        refine ⟨⟨n1, n2⟩, n3.subD sb3 (hid_upd nab), fun g es ed => ?_⟩
        obtain ⟨vs, m1, m2⟩ := n4 g es ed
        exact ⟨vs, by rw [upd_ne ba]; exact m1, m2.subD sb3 id_m⟩
    · exact h.run pins s σ H Q I ⟨⟨a, od, kv, h1, hr⟩, sr, k⟩
end
end LA

/-! dict comprehensions; the keys of a dict walked -/
namespace LA
open PySem PySem.Spec PyProof.Rows L2
section
variable {K : PySem.W.Frag} {p : HD} {H H' : Hp}
theorem DVk.keys : ∀ {vs : List (Key × V)} {ds : List (Key × D)}, DVk K p H vs ds → vs.map (·.1) = ds.map (·.1)
  | _, _, .nil => rfl
  | _, _, .cons _ r => by rw [List.map_cons, List.map_cons, DVk.keys r]
theorem dv_kD (k : Key) : DV K p H (kV k) (kD k) := by
  cases k with
  | inl i => exact .int i
  | inr x => exact .str x
end
def keysD (ds : List (Key × D)) : List D := ds.map fun y => kD y.1
section
variable {X : Cx} {W : WX} {p : HD} {ρ : Rho} {c c1 : PC} {e tg : Expr} {pos : Pos} {d : D} {nw : Bool} {ds : List (Key × D)} {x : Str}
theorem ri_keysZ (j : Nat) (hρ : ρ[j]? = some (some (.dct ds)) := by rfl) (hN : X.N[j]? = some x := by rfl) (hv : Vis X.env.scope x := by first | exact Or.inl rfl | exact Or.inr (Or.inl rfl) | exact Or.inr (Or.inr rfl))
    (hd : (x == ("__debug__" : Str)) = false := by decide) (hcd : (x == ("__classdict__" : Str)) = false := by decide) : PI X tg (.Name x pos) (fun σ H R => Fz p j σ H ∧ tI X.K W p ρ c (keysD ds) c σ H R) :=
  pi_imp (pi_keys (pe_var hN hv hd hcd)) fun σ H R ⟨⟨a, od, kv, h1, h2⟩, s, k⟩ => by
    obtain ⟨v, q1, q2⟩ := s.at' j _ hρ
    rw [h1] at q1
    cases q1
    cases q2 with
    | @dct _ kvs _ hr hk =>
      have ek : kvs = kv := by
        rcases hr with hr | ⟨o, hr⟩
        · rw [h2] at hr
          cases hr
        · rw [h2] at hr
          cases hr
          rfl
      subst ek
      have kk := hk.keys
      have kl := hk.length
      refine ⟨_, h1, a, od, rfl, .inl ⟨kvs, (hide_some h2).1, k _ H (Ext.refl p H) s.pl fun q c' H2 qe qs p2 => ?_⟩⟩
      have h3 : H2 a = some (.frz od (.dK kvs)) := (hide_some (qs _ _ h2)).1
      refine ⟨⟨h3, by unfold keysD; rw [List.length_map]; omega⟩, fun i d hd => ?_⟩
      have li : i < ds.length := by
        have := (List.getElem?_eq_some_iff.mp hd).1
        unfold keysD at this
        rwa [List.length_map] at this
      refine ⟨⟨h3, by omega⟩, fun y H3 hy => ?_⟩
      obtain ⟨rfl, ky, vy, e1, rfl⟩ := hy
      have e2 : (kvs.map (·.1))[i]? = some ky := by rw [List.getElem?_map, e1]; rfl
      rw [kk, List.getElem?_map] at e2
      unfold keysD at hd
      rw [List.getElem?_map] at hd
      cases w : ds[i]? with
      | none =>
        rw [w] at hd
        cases hd
      | some z =>
        rw [w] at hd e2
        have e3 : z.1 = ky := Option.some.inj e2
        have e4 : kD z.1 = d := Option.some.inj hd
        rw [← e4, e3]
        exact ⟨Ext.refl _ _, p2, dv_kD ky⟩
/-- what a dict comprehension makes -/
def dcl (b : Nat → Bool) (ky : Nat → Key) (y : Nat → D) : Nat → List (Key × D)
  | 0 => []
  | i + 1 => if b i = true then putD2 (dcl b ky y i) (ky i) (y i) else dcl b ky y i
theorem put_len (ds : List (Key × D)) (k : Key) (d : D) : (putD2 ds k d).length ≤ ds.length + 1 := by
  unfold putD2
  split
  · rw [List.length_map]
    omega
  · rw [List.length_append]
    exact Nat.le_refl _
theorem dcl_len (b : Nat → Bool) (ky : Nat → Key) (y : Nat → D) : ∀ n, (dcl b ky y n).length ≤ n
  | 0 => Nat.le_refl _
  | n + 1 => by
    have h := dcl_len b ky y n
    unfold dcl
    split
    · have := put_len (dcl b ky y n) (ky n) (y n)
      omega
    · omega
def tkU (K : PySem.W.Frag) (xs : List D) (b : Nat → Bool) (ky : Nat → Key) (cm : Nat → PC) (ρt : Nat → Rho) (nk : Nat → Bool) : TE := fun σ H Q => ∃ (q : HD) (i : Nat) (d : D), xs[i]? = some d ∧ b i = true ∧ tE K Wf q (ρt i) (cm i) (.val (kD (ky i)) (nk i) (cm i)) σ H Q
theorem dc_read {xs : List D} {g : TG} {vs : List Nat} {b : Nat → Bool} {ky : Nat → Key} {y : Nat → D} {cs cm : Nat → PC} {ρt : Nat → Rho} {nk nws : Nat → Bool} {K : PySem.W.Frag}
    (htg : ∀ i d, xs[i]? = some d → TgOk K g vs d (wipeR ρ vs) (ρt i))
    (hno : ∀ i d, xs[i]? = some d → b i = false → cs (i + 1) = cm i) (hz : xs.length ≤ 100000) : ∀ σ H Q, tE K W p ρ c (.val (.dct (dcl b ky y xs.length)) true (cs xs.length)) σ H Q → tDc (tI K W p ρ c xs (cs 0)) g (ttU K xs b cs cm ρt) (tkU K xs b ky cm ρt nk) (teU K xs b y cs cm ρt nws) vs σ H Q := by
  refine fun σ H Q ⟨s, k⟩ => ⟨s, fun J H1 e1 p1 yl L nL => ?_⟩
  have yl' := yl (p.also L)
  have hsub : Sub (hide p H1) (hide (p.also L) H1) := also_sub nL
  have s1 : SR K p H1 σ ρ (cs 0) := s.mono e1 p1
  refine ⟨fun i m H2 => m = xs.length - i ∧ i ≤ xs.length ∧ Ext p H1 H2 ∧ (∃ vs, H2 L = some (.dK vs) ∧ DVk K (p.also L) H2 vs (dcl b ky y i)) ∧ PoolAt K (p.also L) H2 (cs i), ⟨xs.length, by simp, Nat.zero_le _, Ext.new nL, ⟨[], upd_same, .nil⟩, p1.also nL⟩, ?_⟩
  rintro i m H2 ⟨rfl, hi', e2, ⟨vs, hL, dvs⟩, pq⟩
  have p2 := pq.less
  have nLp : L ∉ p.m := fun z => p1.not nL (.inl z)
  obtain ⟨hstop, hgo⟩ := yl' (cs i) H2 rfl (fun b o y => (ext_also e2).hide b o (hsub b o y)) pq
  by_cases hlt : i < xs.length
  · have hd : xs[i]? = some xs[i] := List.getElem?_eq_getElem hlt
    obtain ⟨g1, g2⟩ := hgo i _ hd
    refine .inr ⟨g1, fun H' => ∃ vs, H' L = some (.dK vs) ∧ DVk K (p.also L) H' vs (dcl b ky y (i + 1)) ∧ Ext p H1 H' ∧ PoolAt K (p.also L) H' (cs (i + 1)), fun H' ⟨vs', a1, a2, a3, a4⟩ => ⟨xs.length - (i + 1), by omega, rfl, hlt, a3, ⟨vs', a1, a2⟩, a4⟩, fun x H3 hy => ?_⟩
    obtain ⟨e3, p3, dx⟩ := g2 x H3 hy
    have sH : SR K (p.also L) H3 σ ρ (cs i) := ⟨s.len, fun j d hj => by
      obtain ⟨v, h1, h2⟩ := s1.at' j d hj
      exact ⟨v, h1, ((h2.also nL).mono (ext_also e2)).mono e3⟩, p3⟩
    refine (htg i _ hd).run (p.also L) (cs i) x _ H3 _ dx (sH.wipe _) p3 fun σ2 s2 hw => ⟨hw.trans wipe_wipe, p.also L, i, _, hd, s2, fun H4 e4 p4 => ?_⟩
    have hL4 : H4 L = some (.dK vs) := e4 L _ nLp (e3 L _ nLp hL)
    have e24 : Ext p H2 H4 := fun a o n h => e4 a o n (e3 a o n h)
    cases hb : b i with
    | false =>
      refine iteF ⟨vs, hL4, ?_, e2.trans e24, ?_⟩
      · unfold dcl
        rw [hb, if_neg Bool.false_ne_true]
        exact dvs.mono (ext_also e24)
      · rw [hno i _ hd hb]
        exact p4
    | true =>
      refine iteT ⟨p.also L, i, _, hd, hb, s2.mono e4 p4, fun v H5 e5 p5 dv _ => ⟨p.also L, i, _, hd, hb, (s2.mono e4 p4).mono e5 p5, fun v2 H6 e6 p6 dv2 _ => ?_⟩⟩
      have hL6 : H6 L = some (.dK vs) := e6 L _ nLp (e5 L _ nLp hL4)
      have e26 : Ext p H2 H6 := fun a o n h => e6 a o n (e5 a o n (e24 a o n h))
      have up : ∀ a o, a ≠ L → H6 a = some o → upd H6 L (.dK (putK vs (ky i) v2)) a = some o := fun a o n h => by
        rw [upd_ne n]
        exact h
      have sb : Sub (hide (p.also L) H6) (hide (p.also L) (upd H6 L (.dK (putK vs (ky i) v2)))) := fun a o h => by
        obtain ⟨h1, h2⟩ := hide_some h
        have hn : a ≠ L := fun z => h2 (.inr (by rw [z]; exact List.mem_cons_self))
        rw [hide_ne h2]
        exact up a o hn h1
      refine ⟨vs, ky i, dv_key dv, hL6, ?_, putK vs (ky i) v2, upd_same, ?_, ?_, ?_⟩
      · have := dcl_len b ky y i
        rw [dvs.length]
        exact sz_lt (by omega)
      · unfold dcl
        rw [hb, if_pos rfl]
        exact (DVk.put dv2 (ky i) (dvs.mono (ext_also e26))).sub sb fun _ _ z => z
      · refine fun a o n h => ?_
        have hn : a ≠ L := ne_of_none h nL
        exact up a o hn (e26 a o n (e2 a o n h))
      · exact p6.other List.mem_cons_self nLp
  · have e : i = xs.length := by omega
    subst e
    have hh : hide p H2 L = some (.dK vs) := by
      rw [hide_ne (p1.not nL)]
      exact hL
    exact .inl ⟨hstop, k (.ref L) H2 (e1.trans e2) p2 (.dct (.inl hh) (dvs.sub sub_also fun _ _ z => z)) fun _ => New.back e1 fun b z => by
      cases z
      exact ⟨⟨nL, nLp⟩, pq, fun g ds z => nomatch z⟩⟩
/-- {k: v for x in d if ..} -/
theorem re_dcK {kx vx : Expr} {ifs : List Expr} {scope : Scope} {own : List (Str × Nat)} {g : TG} {xp : Pos} (j : Nat) (b : Nat → Bool) (ky : Nat → Key) (y : Nat → D) (cs cm : Nat → PC) (ρt : Nat → Rho) (nk nws : Nat → Bool) (hc : X.calm = true) (hN : X.N.Nodup) (h0 : cs 0 = c) (ok : BlkOk X.N X.env.scope scope own)
    (hg : ∀ (s : Shared) (H : Hp) (C : Addr) (cl : List (Str × Addr)) (fp : List Addr), PG (X.blk s H scope (compEnvC scope cl C X.env) fp) tg g)
    (htg : ∀ i d, (keysD ds)[i]? = some d → TgOk X.K g (own.map (·.2)) d (wipeR ρ (own.map (·.2))) (ρt i))
    (ht : ∀ i d, (keysD ds)[i]? = some d → ∀ (q : HD) (s : Shared) (H : Hp) (C : Addr) (cl : List (Str × Addr)) (fp : List Addr), PTs (X.blk s H scope (compEnvC scope cl C X.env) fp) ifs (tT X.K Wf q (ρt i) (cs i) (.val (b i) (cm i))))
    (hk : ∀ i d, (keysD ds)[i]? = some d → b i = true → ∀ (q : HD) (s : Shared) (H : Hp) (C : Addr) (cl : List (Str × Addr)) (fp : List Addr), RE (X.blk s H scope (compEnvC scope cl C X.env) fp) Wf q (ρt i) (cm i) kx (.val (kD (ky i)) (nk i) (cm i)))
    (he : ∀ i d, (keysD ds)[i]? = some d → b i = true → ∀ (q : HD) (s : Shared) (H : Hp) (C : Addr) (cl : List (Str × Addr)) (fp : List Addr), RE (X.blk s H scope (compEnvC scope cl C X.env) fp) Wf q (ρt i) (cm i) vx (.val (y i) (nws i) (cs (i + 1))))
    (hno : ∀ i d, (keysD ds)[i]? = some d → b i = false → cs (i + 1) = cm i) (hz : (keysD ds).length ≤ 100000) (hρ : ρ[j]? = some (some (.dct ds)) := by rfl) (hNj : X.N[j]? = some x := by rfl) (hvis : Vis X.env.scope x := by first | exact Or.inl rfl | exact Or.inr (Or.inl rfl) | exact Or.inr (Or.inr rfl))
    (hd : (x == ("__debug__" : Str)) = false := by decide) (hcd : (x == ("__classdict__" : Str)) = false := by decide)
    (hs : ∀ y, foldedSetIterable (.Name x xp) X.env y = pure y := by intro _; rfl) : RE X W p ρ c (.DictComp kx vx [⟨tg, .Name x xp, ifs, 0⟩] scope pos) (.val (.dct (dcl b ky y (keysD ds).length)) true (cs (keysD ds).length)) := by
  subst h0
  refine re_unlock j (pe_imp (pe_dc (tt := ttU X.K (keysD ds) b cs cm ρt) (tk := tkU X.K (keysD ds) b ky cm ρt nk) (tv := teU X.K (keysD ds) b y cs cm ρt nws) hc hN (ri_keysZ (W := W) (p := p) (c := cs 0) (ρ := ρ) j hρ hNj hvis hd hcd) ok hg (fun s H C cl fp => ⟨fun pins s' σ H' Q I ⟨q, i, d, hd, h⟩ => (ht i d hd q s H C cl fp).run pins s' σ H' Q I h⟩)
    (fun s H C cl fp => ⟨fun pins s' σ H' Q I ⟨q, i, d, hd, hb, h⟩ => (hk i d hd hb q s H C cl fp).run pins s' σ H' Q I h⟩)
    (fun s H C cl fp => ⟨fun pins s' σ H' Q I ⟨q, i, d, hd, hb, h⟩ => (he i d hd hb q s H C cl fp).run pins s' σ H' Q I h⟩) hs) fun σ H Q ⟨fz, h⟩ => ?_) hρ
  have r := dc_read (K := X.K) (vs := own.map (·.2)) (nk := nk) (nws := nws) htg hno hz σ H Q h
  exact ⟨fz, r⟩
end
end LA

/-! dicts walked by a list comprehension, by a for; dict(d) -/
namespace LA
open PySem PySem.Spec PyProof.Rows L2
section
variable {X : Cx} {W : WX} {p : HD} {ρ : Rho} {c c1 : PC} {e tg : Expr} {pos : Pos} {d : D} {nw : Bool} {ds : List (Key × D)} {x : Str}
/-- [e for x in d if ..] -/
theorem re_lcK {elt : Expr} {ifs : List Expr} {scope : Scope} {own : List (Str × Nat)} {g : TG} {xp : Pos} (j : Nat) (b : Nat → Bool) (y : Nat → D) (cs cm : Nat → PC) (ρt : Nat → Rho) (nws : Nat → Bool) (hc : X.calm = true) (hN : X.N.Nodup) (h0 : cs 0 = c) (ok : BlkOk X.N X.env.scope scope own)
    (hg : ∀ (s : Shared) (H : Hp) (C : Addr) (cl : List (Str × Addr)) (fp : List Addr), PG (X.blk s H scope (compEnvC scope cl C X.env) fp) tg g)
    (htg : ∀ i d, (keysD ds)[i]? = some d → TgOk X.K g (own.map (·.2)) d (wipeR ρ (own.map (·.2))) (ρt i))
    (ht : ∀ i d, (keysD ds)[i]? = some d → ∀ (q : HD) (s : Shared) (H : Hp) (C : Addr) (cl : List (Str × Addr)) (fp : List Addr), PTs (X.blk s H scope (compEnvC scope cl C X.env) fp) ifs (tT X.K Wf q (ρt i) (cs i) (.val (b i) (cm i))))
    (he : ∀ i d, (keysD ds)[i]? = some d → b i = true → ∀ (q : HD) (s : Shared) (H : Hp) (C : Addr) (cl : List (Str × Addr)) (fp : List Addr), RE (X.blk s H scope (compEnvC scope cl C X.env) fp) Wf q (ρt i) (cm i) elt (.val (y i) (nws i) (cs (i + 1))))
    (hno : ∀ i d, (keysD ds)[i]? = some d → b i = false → cs (i + 1) = cm i) (hz : (keysD ds).length ≤ 100000) (hρ : ρ[j]? = some (some (.dct ds)) := by rfl) (hNj : X.N[j]? = some x := by rfl) (hvis : Vis X.env.scope x := by first | exact Or.inl rfl | exact Or.inr (Or.inl rfl) | exact Or.inr (Or.inr rfl))
    (hd : (x == ("__debug__" : Str)) = false := by decide) (hcd : (x == ("__classdict__" : Str)) = false := by decide)
    (hs : ∀ y, foldedSetIterable (.Name x xp) X.env y = pure y := by intro _; rfl) : RE X W p ρ c (.ListComp elt [⟨tg, .Name x xp, ifs, 0⟩] scope pos) (.val (.lst ⟨false, true⟩ (coll b y (keysD ds).length)) true (cs (keysD ds).length)) := by
  subst h0
  refine re_unlock j (pe_imp (pe_lc (tt := ttU X.K (keysD ds) b cs cm ρt) (te := teU X.K (keysD ds) b y cs cm ρt nws) hc hN (ri_keysZ (W := W) (p := p) (c := cs 0) (ρ := ρ) j hρ hNj hvis hd hcd) ok hg (fun s H C cl fp => ⟨fun pins s' σ H' Q I ⟨q, i, d, hd, h⟩ => (ht i d hd q s H C cl fp).run pins s' σ H' Q I h⟩)
    (fun s H C cl fp => ⟨fun pins s' σ H' Q I ⟨q, i, d, hd, hb, h⟩ => (he i d hd hb q s H C cl fp).run pins s' σ H' Q I h⟩) hs) fun σ H Q ⟨fz, h⟩ => ?_) hρ
  have r := lc_read (K := X.K) (vs := own.map (·.2)) (nws := nws) htg hno hz σ H Q h
  exact ⟨fz, r⟩
/-- a statement behind which the dict is as before -/
theorem rs_unlock (j : Nat) {st : Stmt} {ρ1 : Rho} (h : PS X st (fun De σ H => Fz p j σ H ∧ tSt X.K W p ρ c (.nx ρ1 c1) De σ H)) (hρ : ρ[j]? = some (some (.dct ds))) : RS X W p ρ c st (.nx ρ1 c1) := by
  refine ⟨fun pins s σ H De I ⟨sr, k⟩ => ?_⟩
  obtain ⟨v, h1, h2⟩ := sr.at' j _ hρ
  cases h2 with
  | @dct a kv _ hr hk =>
    rcases hr with hr | ⟨od, hr⟩
    · obtain ⟨ha, na⟩ := hide_some hr
      have am : a ∉ p.m := fun z => na (.inl z)
      refine (ps_lock h).run pins s σ H De I ⟨a, .dK kv, ha, trivial, fun od => ?_⟩
      have sb := sub_lock (p := p) (od := od) ha
      have srF : SR X.K p (upd H a (.frz od (.dK kv))) σ ρ c := ⟨sr.len, fun i d' q => by
        obtain ⟨v', q1, q2⟩ := sr.at' i d' q
        exact ⟨v', q1, q2.subD sb id_m⟩, sr.pl.subD sb (hid_upd na)⟩
      refine ⟨⟨a, od, kv, h1, by rw [hide_ne na]; exact upd_same⟩, srF, fun σ2 H2 e2 s2 => ?_⟩
      have h2a : H2 a = some (.frz od (.dK kv)) := e2 a _ am upd_same
      have sb2 := sub_unlock (p := p) h2a
      refine ⟨h2a, k σ2 _ (fun b o nb hb => ?_) ⟨s2.len, fun i d' q => by
        obtain ⟨v', q1, q2⟩ := s2.at' i d' q
        exact ⟨v', q1, q2.subD sb2 id_m⟩, s2.pl.subD sb2 (hid_upd na)⟩⟩
      by_cases eb : b = a
      · subst eb
        rw [ha] at hb
        cases hb
        exact upd_same
      · rw [upd_ne eb]
        exact e2 b o nb (by rw [upd_ne eb]; exact hb)
    · exact h.run pins s σ H De I ⟨⟨a, od, kv, h1, hr⟩, sr, k⟩
/-- for x in d -/
theorem rs_forK {body : List Stmt} {g : TG} {vs : List Nat} {xp : Pos} (j : Nat) (ρs ρt : Nat → Rho) (cs : Nat → PC) (hp : PassesOwn (model X.prog X.w) X.A X.env X.xe) (hc : X.calm = true) (h0 : ρs 0 = ρ) (hc0 : cs 0 = c) (hg : PG X tg g)
    (htg : ∀ i d, (keysD ds)[i]? = some d → TgOk X.K g vs d (ρs i) (ρt i))
    (hb : ∀ i d, (keysD ds)[i]? = some d → RSs X W p (ρt i) (cs i) body (.nx (ρs (i + 1)) (cs (i + 1)))) (hρ : ρ[j]? = some (some (.dct ds)) := by rfl) (hNj : X.N[j]? = some x := by rfl) (hvis : Vis X.env.scope x := by first | exact Or.inl rfl | exact Or.inr (Or.inl rfl) | exact Or.inr (Or.inr rfl))
    (hd : (x == ("__debug__" : Str)) = false := by decide) (hcd : (x == ("__classdict__" : Str)) = false := by decide)
    (hs : ∀ y, foldedSetIterable (.Name x xp) X.env y = pure y := by intro _; rfl) : RS X W p ρ c (.For tg (.Name x xp) body [] pos) (.nx (ρs (keysD ds).length) (cs (keysD ds).length)) := by
  subst h0 hc0
  have PU : PSs X body (fun De σ H => ∃ (i : Nat) (so : SO), RSs X W p (ρt i) (cs i) body so ∧ tSt X.K W p (ρt i) (cs i) so De σ H) := ⟨fun pins s σ H De I ⟨i, so, h1, h2⟩ => h1.run pins s σ H De I h2⟩
  refine rs_unlock j (ps_imp (ps_for hp hc (ri_keysZ (W := W) (p := p) (c := cs 0) (ρ := ρs 0) j hρ hNj hvis hd hcd) hg PU hs) fun De σ H ⟨fz, h⟩ => ?_) hρ
  refine ⟨fz, st_sr h, fun J H1 e1 p1 yl => ?_⟩
  refine ⟨fun i m σ2 H2 => m = (keysD ds).length - i ∧ i ≤ (keysD ds).length ∧ Ext p H1 H2 ∧ SR X.K p H2 σ2 (ρs i) (cs i), ⟨(keysD ds).length, by simp, Nat.zero_le _, Ext.refl _ _, (st_sr h).mono e1 p1⟩, ?_⟩
  rintro i m σ2 H2 ⟨rfl, hi', e2, s2⟩
  obtain ⟨hstop, hgo⟩ := yl p (cs i) H2 rfl e2.hide s2.pl
  by_cases hlt : i < (keysD ds).length
  · have hd : (keysD ds)[i]? = some ((keysD ds)[i]) := List.getElem?_eq_getElem _
    obtain ⟨g1, g2⟩ := hgo i _ hd
    refine .inr ⟨g1, fun σ' H' => Ext p H1 H' ∧ SR X.K p H' σ' (ρs (i + 1)) (cs (i + 1)), fun σ' H' ⟨a1, a2⟩ => ⟨(keysD ds).length - (i + 1), by omega, rfl, hlt, a1, a2⟩, fun x H3 hy => ?_⟩
    obtain ⟨e3, p3, dx⟩ := g2 x H3 hy
    refine (htg i _ hd).run p (cs i) x _ H3 _ dx (s2.mono e3 p3) p3 fun σ3 s3 _ => ⟨i, _, hb i _ hd, s3, fun σ4 H4 e4 s4 => ⟨(e2.trans e3).trans e4, s4⟩⟩
  · have e : i = (keysD ds).length := by omega
    subst e
    exact .inl ⟨hstop, h.2 σ2 H2 (e1.trans e2) s2⟩
/-- x = dict(d) -/
theorem rd_copy {ps pos' : Pos} (i : Nat) (hm : X.mg "dict" = none) (he : RE X W p ρ c e (.val (.dct ds) nw c1)) (hN : X.N.Nodup) (hi : X.N[i]? = some x := by rfl) (hx : Loc X.env.scope x := by first | exact Or.inl rfl | exact Or.inr rfl) (hg : Gl X "dict" := by rfl)
    {cp : Pos} (hst : starEach [e] X.env = (false, eval e X.env) :: starEach [] X.env := by rfl) (hpl : (backTo cp (starEach [] X.env)).any (·.1) = false := by rfl) (hs : swapsWith (.Call (.Name "dict" ps) [e] [] cp) (some (.Name x pos')) pos.line X.env = pure false := by rfl)
    (hf : X.fn x = true ∨ X.env.scope.names.lookup x = some .local := by first | exact .inl rfl | exact .inr rfl) : PS X (.Assign [.Name x pos'] (.Call (.Name "dict" ps) [e] [] cp) pos) (tND X.K p ρ c i ds c1) :=
  ps_imp (ps_set hN hi hx (pe_callTy call_dictD hg hm PyProof.Rows.boot_dict (ra_cons (W := W) he (ra_nil (W := W)) hst) (by decide) (by decide) hst hpl) hs hf) fun De σ H ⟨s, kk⟩ => ⟨s, fun vs H1 e1 p1 dvs => by
    cases dvs with
    | cons h r =>
      cases r
      cases h with
      | @dct a kvs _ hr hk =>
        refine ⟨a, kvs, rfl, un_rd hr, fun L nL => kk L _ kvs (e1.trans (Ext.new nL)) ⟨?_, fun z => p1.not nL (.inl z)⟩ (p1.also nL) upd_same ((hk.sub (also_sub nL) fun _ _ z => z).mono (ext_also (Ext.new nL)))⟩
        cases q : H L with
        | none => rfl
        | some o =>
          have := e1 L o (fun z => p1.not nL (.inl z)) q
          rw [nL] at this
          cases this⟩
end
end LA

/-! d.get(k) of a dict that changes -/
namespace LA
open PySem PySem.Spec PyProof.Rows L2
section
variable {X : Cx} {W : WX} {p : HD} {ρ : Rho} {c c1 : PC} {b : Expr} {pos apos xp : Pos} {n2 : Bool} {ds : List (Key × D)} {x : Str}
theorem re_dget1M (j k : Nat) {ky : Key} (hu : X.A.units + 1 < cLine) (hb : RE X W p ρ c b (.val (kD ky) n2 c1)) (hc0 : c[k]? = some (.dct ds)) (hc : c1[k]? = some (.dct ds)) (m : M1 X (.Name x xp) "get" apos b pos) (hρ : ρ[j]? = some (some (.mut k)) := by rfl) (hN : X.N[j]? = some x := by rfl) (hvis : Vis X.env.scope x := by first | exact Or.inl rfl | exact Or.inr (Or.inl rfl) | exact Or.inr (Or.inr rfl))
    (hd : (x == ("__debug__" : Str)) = false := by decide) (hcd : (x == ("__classdict__" : Str)) = false := by decide) : RE X W p ρ c (.Call (.Attribute (.Name x xp) "get" apos) [b] [] pos) (.val ((valD ds ky).getD .non) false c1) :=
  pe_imp (pe_dget1 hu (pe_var hN hvis hd hcd) hb m) fun σ H Q ⟨s, kk⟩ => by
    obtain ⟨o, q1, q2⟩ := s.at' j _ hρ
    obtain ⟨a, kvs0, rfl, _, h0, _⟩ := mut_dct q2 s.pl hc0
    refine ⟨_, q1, a, rfl, .inl ⟨kvs0, .inl h0⟩, s, fun u H1 e1 p1 du _ => ?_⟩
    have eu := dv_key du
    subst eu
    obtain ⟨a', kvs, ea, _, hv1, dvs⟩ := mut_dct (q2.mono e1) p1 hc
    cases ea
    refine ⟨_, .inl ⟨kvs, ky, .inl hv1, rfl, rfl⟩, ?_⟩
    obtain ⟨z1, z2⟩ := DVk.val (k := ky) dvs
    cases e : valD ds ky with
    | none =>
      rw [z2 e]
      exact kk _ H1 e1 p1 (by rw [e]; exact .non) fun q => nomatch q
    | some d =>
      obtain ⟨w, hw, dw⟩ := z1 d e
      rw [hw]
      exact kk _ H1 e1 p1 (by rw [e]; exact dw.unflat) fun q => nomatch q
end
end LA

/-! sorted of texts -/
namespace LA
open PySem PySem.Spec PyProof.Rows L2
def leS (a b : Str) : Prop := ltCps b.cps.toList a.cps.toList = false
theorem leS_is {a b : Str} : leS a b ↔ a.cps.toList ≤ b.cps.toList := by
  unfold leS
  rw [ltCps_eq, decide_eq_false_iff_not]
  exact List.not_lt
theorem leS_trans {a b c : Str} (h1 : leS a b) (h2 : leS b c) : leS a c := leS_is.mpr (List.le_trans (leS_is.mp h1) (leS_is.mp h2))
theorem leS_anti {a b : Str} (h1 : leS a b) (h2 : leS b a) : a = b := by
  have e := List.le_antisymm (leS_is.mp h1) (leS_is.mp h2)
  have hc : a.cps = b.cps := Array.toList_inj.mp e
  cases a
  cases b
  simp only [Str.mk.injEq]
  exact hc
theorem rising_pw : ∀ (l : List Str) (p : Str), risingS p l = true → (p :: l).Pairwise leS
  | [], p, _ => List.pairwise_singleton ..
  | x :: r, p, h => by
    obtain ⟨h1, h2⟩ := Bool.and_eq_true_iff.mp (show (!ltCps x.cps.toList p.cps.toList && risingS x r) = true from h)
    have ih := rising_pw r x h2
    have px : leS p x := by
      unfold leS
      simpa using h1
    refine List.pairwise_cons.mpr ⟨fun y hy => ?_, ih⟩
    rcases List.mem_cons.mp hy with rfl | hy
    · exact px
    · exact leS_trans px ((List.pairwise_cons.mp ih).1 y hy)
theorem sorted_pw {l : List Str} (h : sortedS l = true) : l.Pairwise leS := by
  cases l with
  | nil => exact List.Pairwise.nil
  | cons x r => exact rising_pw r x h
theorem sorted_uniq {xs ys : List Str} (hp : ys.Perm xs) (hx : xs.Pairwise leS) (hy : sortedS ys = true) : ys = xs :=
  List.Perm.eq_of_pairwise (le := leS) (fun _ _ _ _ a b => leS_anti a b) (sorted_pw hy) hx hp
/-- sorted(xs), the sorted list known -/
theorem cv_sortS {K : PySem.W.Frag} {p : HD} {c : PC} {g : G} {xs ts : List Str} (hp : ts.Perm xs) (ht : ts.Pairwise leS) (hl : xs.length < 64) : CV K p (rSortedS K) [.lst g (xs.map D.str)] (.lst ⟨false, true⟩ (ts.map D.str)) true c := fun vs H Q dvs po k => by
  cases dvs with
  | cons h r =>
    cases r
    cases h with
    | lst hb hq ha =>
      rw [of_strs ha] at hq
      refine ⟨_, xs, rfl, un_sqL hq, hl, fun ys q h1 h2 nq => ?_⟩
      have e : ys = ts := sorted_uniq (h1.trans hp.symm) ht h2
      subst e
      have dv : DVs K p H (ys.map V.str) (ys.map D.str) := dvs_strs
      exact k _ _ (Ext.new nq) (po.upd nq) (.lst ⟨(fun z => nomatch z), fun _ => hide_upd po nq⟩ (.inl (.inl (hide_upd po nq))) (dv.mono (Ext.new nq))) fun _ => New.lst po nq dv
end LA

/-! a test asked while the last list that changes is seen as one that does not; a dict may stand before it -/
namespace LA
open PySem PySem.Spec PyProof.Rows L2
def SdCell (y : Cell) : Prop := ScCell y ∨ ∃ ds, y = .dct ds ∧ (ds.all fun x => isSc x.2) = true
section
variable {K : PySem.W.Frag} {p q : HD} {H H' : Hp}
theorem dvk_move : ∀ {vs : List (Key × V)} {ds : List (Key × D)}, DVk K p H vs ds → (ds.all fun x => isSc x.2) = true → DVk K q H' vs ds
  | _, _, .nil, _ => .nil
  | _, _, .cons h r, e => by
    rw [List.all_cons, Bool.and_eq_true_iff] at e
    exact .cons (dv_move h e.1) (dvk_move r e.2)
end
section
variable {X : Cx} {W : WX} {p : HD} {ρ ρf : Rho} {c c1 : PC} {t : Expr} {ds : List D} {b : Bool}
theorem rt_frzD {a : Addr} (h : RT X W p ρf c t (.val b c1)) (fz : Frz c.length ds ρ ρf) (hz : p.z = []) (hs : ∀ y ∈ c1, SdCell y) : RT X W (p.mut a) ρ (c ++ [.lst ds]) t (.val b (c1 ++ [.lst ds])) := by
  refine pt_imp h fun σ H Q ⟨s, k⟩ => ?_
  have hn : p.m.length = c.length := by
    have := s.pl.1.2.1
    rw [List.length_append] at this
    have e : (p.m ++ [a]).length = c.length + 1 := this
    rw [List.length_append] at e
    exact Nat.succ.inj e
  have po : PoolAt X.K p H c := by
    have z := PoolAt.out (p := p) s.pl
    rw [hn, List.take_left'] at z
    · exact z
    · rfl
  have ha : (p.m ++ [a])[c.length]? = some a := by
    rw [← hn, List.getElem?_append_right (Nat.le_refl _)]
    simp
  have nda : a ∉ p.m := fun z => by
    have nd : (p.m ++ [a]).Nodup := s.pl.1.1
    exact (List.nodup_append.mp nd).2.2 a z a (List.mem_singleton.mpr rfl) rfl
  obtain ⟨vs, hv, dvs⟩ : CellAt X.K (p.mut a) H a (.lst ds) := s.pl.1.2.2 c.length a (.lst ds) ha (by simp)
  have vis : hide p H a = some (.lst vs) := by
    rw [hide_ne]
    · exact hv
    · rintro (z | z)
      · exact nda z
      · rw [hz] at z
        cases z
  refine ⟨⟨by rw [← fz.len]; exact s.len, fun i d q => ?_, po⟩, fun H1 e1 p1 => k H1 (fun x o n y => e1 x o (fun z => n (List.mem_append.mpr (.inl z))) y) ?_⟩
  · rcases fz.get i d q with ⟨q1, l⟩ | ⟨rfl, q1⟩
    · obtain ⟨v, h1, h2⟩ := s.at' i d q1
      exact ⟨v, h1, h2.low (n := c.length) sub_mut (fun i b li hi => at_mut (by rw [hn]; exact li) hi) l⟩
    · obtain ⟨v, h1, h2⟩ := s.at' i _ q1
      refine ⟨v, h1, ?_⟩
      obtain ⟨b, us, rfl, hb, hv2, r2⟩ := mut_lst h2 s.pl (ds := ds) (by simp)
      have eb : b = a := by
        have hb' : (p.m ++ [a])[c.length]? = some b := hb
        rw [ha] at hb'
        exact (Option.some.inj hb').symm
      subst eb
      exact .lst ⟨(fun z => nomatch z), fun _ => vis⟩ (.inl (.inl vis)) (dvs.sub (fun b o y => by rw [hide_flat] at y; exact sub_mut b o y) fun i b z => by simp [HD.flat] at z)
  · have hv1 : H1 a = some (.lst vs) := e1 a _ nda hv
    have pa : PoolAt X.K (p.also a) H1 c1 := by
      refine ⟨⟨p1.1.1, p1.1.2.1, fun i b y hb hy => ?_⟩, fun b m => ?_⟩
      · rcases hs y (List.mem_of_getElem? hy) with ⟨es, rfl, he⟩ | ⟨es, rfl, he⟩
        · obtain ⟨us, u1, u2⟩ : CellAt X.K p H1 b (.lst es) := p1.1.2.2 i b _ hb hy
          exact ⟨us, u1, dvs_move u2 he⟩
        · obtain ⟨us, u1, u2⟩ : CellAt X.K p H1 b (.dct es) := p1.1.2.2 i b _ hb hy
          exact ⟨us, u1, dvk_move u2 he⟩
      · rcases List.mem_cons.mp m with rfl | m
        · exact ⟨_, hv1⟩
        · exact p1.2 b m
    refine pa.in' nda ⟨vs, hv1, dvs.sub (fun b o y => ?_) fun i b z => by simp [HD.flat] at z⟩
    rw [hide_flat] at y ⊢
    obtain ⟨y1, y2⟩ := hide_some y
    rw [hide_ne y2]
    exact e1 b o (fun z => y2 (.inl (List.mem_append.mpr (.inl z)))) y1
end
end LA

/-! two tuples of flat items that are alike -/
namespace LA
open PySem PySem.Spec PyProof.Rows L2
section
variable {K : PySem.W.Frag} {p : HD} {c : PC}
theorem flatT_self {ds : List D} (e : ds.all flatOk = true) : PyData.eqv (.tuple (toPys ds)) (.tuple (toPys ds)) = true := by
  refine PySem.SeqAt.eqv_refl _ ?_
  unfold PyData.canLay0
  exact (flat_lay e).1
theorem shaped_flatT {ds : List D} (e : ds.all flatOk = true) : SeqAt.shaped (.tuple (toPys ds)) = true := by
  obtain ⟨h1, h2⟩ := flat_lay e
  unfold SeqAt.shaped PyData.canLay0 PyData.depth
  rw [h1, h2]
  rfl
theorem tup_dp {v : V} {H : Hp} {ds : List D} (dv : DV K p H v (.tup ds)) (e : ds.all flatOk = true) : Dp K H v (.tuple (toPys ds)) := by
  cases dv with
  | tup hq r => exact .tup (un_sqT hq) (dps_of r e)
theorem ov_neSelfT {ds : List D} (e : ds.all flatOk = true) : OV K p (rNeD K) (.tup ds) (.tup ds) (.bl false) true c := fun v u H Q dv du hp k => by
  refine ⟨_, _, tup_dp dv e, tup_dp du e, shaped_flatT e, shaped_flatT e, ?_⟩
  rw [flatT_self e]
  exact k _ H (Ext.refl p H) hp (.bl _) fun _ => New.sc (by intro a h; cases h)
theorem ov_eqSelfT {ds : List D} (e : ds.all flatOk = true) : OV K p (rEqD K) (.tup ds) (.tup ds) (.bl true) true c := fun v u H Q dv du hp k => by
  refine ⟨_, _, tup_dp dv e, tup_dp du e, shaped_flatT e, shaped_flatT e, ?_⟩
  rw [flatT_self e]
  exact k _ H (Ext.refl p H) hp (.bl _) fun _ => New.sc (by intro a h; cases h)
end
end LA

/-! comprehensions over lists made of anything -/
namespace LA
open PySem PySem.Spec PyProof.Rows L2
theorem coll_sel {α : Type} (d0 : α) (q : α → Bool) (f : α → D) (ts : List α) : coll (fun i => q (ts.getD i d0)) (fun i => f (ts.getD i d0)) ts.length = (ts.filter q).map f := by
  have key : ∀ k, k ≤ ts.length → coll (fun i => q (ts.getD i d0)) (fun i => f (ts.getD i d0)) k = ((ts.take k).filter q).map f := fun k => by
    induction k with
    | zero => intro _; rfl
    | succ k ih =>
      intro hk
      have hk' : k < ts.length := hk
      have e : ts.take (k + 1) = ts.take k ++ [ts.getD k d0] := by
        rw [List.take_add_one, List.getElem?_eq_getElem hk', List.getD_eq_getElem?_getD, List.getElem?_eq_getElem hk']
        rfl
      unfold coll
      rw [ih (by omega), e, List.filter_append, List.map_append]
      congr 1
      by_cases h : q (ts.getD k d0) = true
      · rw [if_pos h, List.filter_cons_of_pos (by simpa using h)]
        rfl
      · rw [if_neg h, List.filter_cons_of_neg (by simpa using h)]
        rfl
  rw [key _ (Nat.le_refl _), List.take_length]
theorem rng_all {α : Type} (d0 : α) (f : α → D) (ts : List α) : (List.range ts.length).map (fun i => f (ts.getD i d0)) = ts.map f := by
  refine List.ext_getElem (by simp) fun i h1 h2 => ?_
  have hi : i < ts.length := by simpa using h2
  simp [hi]
theorem map_at {α : Type} (d0 : α) {f : α → D} {ts : List α} {i : Nat} {d : D} (h : (ts.map f)[i]? = some d) : d = f (ts.getD i d0) ∧ i < ts.length ∧ ts.getD i d0 ∈ ts ∧ ts[i]? = some (ts.getD i d0) := by
  have hl := (List.getElem?_eq_some_iff.mp h).1
  rw [List.length_map] at hl
  rw [List.getElem?_map, List.getElem?_eq_getElem hl] at h
  have e : ts.getD i d0 = ts[i] := by rw [List.getD_eq_getElem?_getD, List.getElem?_eq_getElem hl]; rfl
  refine ⟨by rw [e]; exact (Option.some.inj h).symm, hl, by rw [e]; exact List.getElem_mem hl, by rw [e, List.getElem?_eq_getElem hl]⟩
theorem coll_le2 (b : Nat → Bool) (y : Nat → D) : ∀ n, (coll b y n).length ≤ n
  | 0 => Nat.le_refl _
  | n + 1 => by
    show (coll b y n ++ if b n then [y n] else []).length ≤ n + 1
    rw [List.length_append]
    have := coll_le2 b y n
    split
    · show _ + 1 ≤ _
      omega
    · show _ + 0 ≤ _
      omega
end LA

/-! lists of tuples of places: sorted, sorted by their lengths -/
namespace LA
open PySem PySem.Spec PyProof.Rows L2
def nsD (b : List Nat) : List D := b.map fun i => .int ((i : Nat) : Int)
def tpD (b : List Nat) : D := .tup (nsD b)
def pyI (b : List Nat) : List Int := b.map fun i => ((i : Nat) : Int)
theorem toPys_ns : ∀ b : List Nat, toPys (nsD b) = (pyI b).map PyData.int
  | [] => by unfold nsD pyI toPys; rfl
  | a :: r => by
    have ih := toPys_ns r
    show toPys (.int _ :: nsD r) = _
    rw [toPys, ih]
    unfold toPy
    rfl
theorem toPy_tp (b : List Nat) : toPy (tpD b) = .tuple ((pyI b).map PyData.int) := by
  unfold tpD toPy
  rw [toPys_ns]
theorem okDs_ns : ∀ (big : Bool) (b : List Nat), okDs big (nsD b) = true
  | _, [] => rfl
  | big, a :: r => okDs_ns big r
theorem ok_tp (big : Bool) (b : List Nat) : okD big (tpD b) = true := okDs_ns big b
theorem pyI_lt : ∀ {a b : List Nat}, pyI a < pyI b ↔ a < b
  | [], [] => by simp [pyI]
  | [], _ :: _ => by simp [pyI]
  | _ :: _, [] => by simp [pyI]
  | x :: a, y :: b => by
    have ih := pyI_lt (a := a) (b := b)
    show ((x : Nat) : Int) :: pyI a < ((y : Nat) : Int) :: pyI b ↔ _
    rw [List.cons_lt_cons_iff, List.cons_lt_cons_iff, ih]
    constructor
    · rintro (h | ⟨h1, h2⟩)
      · exact .inl (by omega)
      · exact .inr ⟨by omega, h2⟩
    · rintro (h | ⟨h1, h2⟩)
      · exact .inl (by omega)
      · exact .inr ⟨by omega, h2⟩
theorem tp_le (a b : List Nat) : (!PySem.W.dataLt (toPy (tpD b)) (toPy (tpD a))) = decide (a ≤ b) := by
  rw [toPy_tp, toPy_tp, PySem.W.dataLt_tuple]
  have e := PySem.W.dataLt_ints (pyI b) (pyI a)
  unfold PySem.W.rowLt at e
  rw [e]
  by_cases h : b < a
  · rw [decide_eq_true (pyI_lt.mpr h), decide_eq_false (List.not_le.mpr h)]
    rfl
  · rw [decide_eq_false (fun z => h (pyI_lt.mp z)), decide_eq_true (List.not_lt.mp h)]
    rfl
section
variable {X : Cx} {pins : List (Addr × Obj)} {σ : L2.St} {H : Hp} {s : Shared} {p : HD}
def RTp (K : PySem.W.Frag) (p : HD) (H : Hp) : Value → V × List Nat → Prop := fun u x => RelV x.1 u ∧ DV K p H x.1 (tpD x.2)
theorem each_tp {K : PySem.W.Frag} : ∀ {vs : List V} {its : List Value} {bs : List (List Nat)}, Vals vs its → DVs K p H vs (bs.map tpD) → ∃ zs : List (V × List Nat), PySem.W.EachIs (RTp K p H) its zs ∧ zs.map (·.1) = vs ∧ zs.map (·.2) = bs
  | [], _, [], .nil, .nil => ⟨[], .nil, rfl, rfl⟩
  | v :: vs, _, b :: bs, .cons r t, .cons d e => by
    obtain ⟨zs, h1, h2, h3⟩ := each_tp t e
    exact ⟨(v, b) :: zs, .cons ⟨r, d⟩ h1, by rw [List.map_cons, h2], by rw [List.map_cons, h3]⟩
theorem tp_each {K : PySem.W.Frag} : ∀ {its : List Value} {zs : List (V × List Nat)}, PySem.W.EachIs (RTp K p H) its zs → Vals (zs.map (·.1)) its ∧ DVs K p H (zs.map (·.1)) ((zs.map (·.2)).map tpD)
  | _, _, .nil => ⟨.nil, .nil⟩
  | _, _, .cons h t => by
    obtain ⟨a, b⟩ := tp_each t
    exact ⟨.cons h.1 a, .cons h.2 b⟩
theorem tp_reads (I : Inv X pins σ H s) {its : List Value} {zs : List (V × List Nat)} (h : PySem.W.EachIs (RTp X.K p H) its zs) : PySem.W.EachIs (fun v (b : V × List Nat) => ∃ as, Reads s.heap v (toPy (tpD b.2)) as) its zs :=
  h.mono fun u x hx => by
    obtain ⟨as, r, _⟩ := reads_of (big := false) I (tpD x.2) x.1 u hx.2 (ok_tp _ _) hx.1
    exact ⟨as, r⟩
end
/-- what comes of sorting -/
def rSortT (K : PySem.W.Frag) : List V → Hp → VK → Prop := fun xs H Q => ∃ (p : HD) (a : Addr) (vs : List V) (bs : List (List Nat)), xs = [.ref a] ∧ SqL K H a vs ∧ DVs K p H vs (bs.map tpD) ∧ (∀ b ∈ bs, b ≠ []) ∧
  ∀ (l : Addr) (ys : List V) (cs : List (List Nat)), cs.Perm bs → cs.Pairwise (· ≤ ·) → DVs K p H ys (cs.map tpD) → H l = none → Q (.ref l) (upd H l (.lst ys))
theorem tp_depth (b : List Nat) : (toPy (tpD b)).depth ≤ 1 := by
  have dp : ∀ ns : List Int, PyData.depthAll (ns.map PyData.int) = 0 := fun ns => by
    induction ns with
    | nil => unfold List.map PyData.depthAll; rfl
    | cons n r ih =>
      rw [List.map_cons, PyData.depthAll, ih]
      unfold PyData.depth
      rfl
  rw [toPy_tp]
  unfold PyData.depth
  rw [dp]
  exact Nat.le_refl _
section
variable {X : Cx}
theorem call_sortT (hu : X.A.units + 62 < cLine) : CallR X (.builtin "sorted") (rSortT X.K) := by
  intro pins s σ H xs us Q I r h
  obtain ⟨p, a, vs, bs, rfl, hq, dvs, ne, q⟩ := h
  obtain ⟨its, rv, pl, hz⟩ := I.list hq
  rw [Vals.ref1 r]
  obtain ⟨zs, e, z1, z2⟩ := each_tp rv dvs
  have zl : zs.length = vs.length := by rw [← z1, List.length_map]
  let enc : V × List Nat → PyData := fun x => toPy (tpD x.2)
  refine PySem.W.sorted_data (enc := enc) pl.isList e (tp_reads I e) (PySem.W.AllAlike.of fun b b' => ?_) (.inl fun d hd => ?_) (by rw [zl]; exact hz) (fun b hb => ?_) fun out ol oe => ?_
  · show PySem.W.alike (toPy (tpD b.2)) (toPy (tpD b'.2)) = true
    rw [toPy_tp, toPy_tp, PySem.W.alike]
    exact PySem.W.alike_ints _ _
  · obtain ⟨x, hx, rfl⟩ := List.mem_map.mp hd
    have hb : x.2 ∈ bs := by rw [← z2]; exact List.mem_map.mpr ⟨x, hx, rfl⟩
    show ∃ y r, toPy (tpD x.2) = .tuple (y :: r)
    rw [toPy_tp]
    cases hx2 : x.2 with
    | nil => exact absurd hx2 (ne _ hb)
    | cons i r => exact ⟨_, _, rfl⟩
  · have := tp_depth b.2
    show X.A.units + 2 + (toPy (tpD b.2)).depth < cLine
    omega
  · obtain ⟨t1, t2⟩ := tp_each oe
    obtain ⟨ep, he'⟩ := PyProof.Rows.sortedAll_at s.heap its (List.toArray out)
    let le : V × List Nat → V × List Nat → Bool := PySem.W.dataLe false enc
    have lee : le = fun x y => decide (x.2 ≤ y.2) := funext fun x => funext fun y => tp_le x.2 y.2
    have hp : ((zs.mergeSort le).map (·.2)).Perm bs := by
      rw [← z2]
      exact (List.mergeSort_perm zs le).map _
    have pw : ((zs.mergeSort le).map (·.2)).Pairwise (· ≤ ·) := by
      rw [List.pairwise_map, lee]
      refine (List.pairwise_mergeSort (le := fun x y : V × List Nat => decide (x.2 ≤ y.2)) (fun a b c h1 h2 => ?_) (fun a b => ?_) zs).imp fun h => of_decide_eq_true h
      · exact decide_eq_true (List.le_trans (of_decide_eq_true h1) (of_decide_eq_true h2))
      · rw [Bool.or_eq_true]
        rcases List.le_total a.2 b.2 with h | h
        · exact .inl (decide_eq_true h)
        · exact .inr (decide_eq_true h)
    have hlen : ((zs.mergeSort le).map (·.1)).length ≤ sizeLine := by
      rw [List.length_map, List.length_mergeSort, zl]
      exact hz
    exact ⟨.ref _, upd H (s.heap.objs.size + 1) (.lst ((zs.mergeSort le).map (·.1))), I.laid (t' := s.toks) (fun _ _ => PyProof.Rows.sortedAll_old) (Nat.le_succ _) ⟨hlen, out, ep, t1, he'⟩, rfl, q _ _ _ hp pw t2 (I.hok.fresh (Nat.le_succ _))⟩
theorem cv_sortT {K : PySem.W.Frag} {p : HD} {c : PC} {g : G} {bs cs : List (List Nat)} (hp : cs.Perm bs) (hc : cs.Pairwise (· ≤ ·)) (ne : ∀ b ∈ bs, b ≠ []) : CV K p (rSortT K) [.lst g (bs.map tpD)] (.lst ⟨false, true⟩ (cs.map tpD)) true c := fun vs H Q dvs po k => by
  cases dvs with
  | cons h r =>
    cases r
    cases h with
    | lst hb hq ha =>
      refine ⟨p, _, _, bs, rfl, un_sqL hq, ha, ne, fun l ys cs' h1 h2 dv nl => ?_⟩
      have e : cs' = cs := List.Perm.eq_of_pairwise (le := (· ≤ ·)) (fun _ _ _ _ a b => List.le_antisymm a b) h2 hc (h1.trans hp.symm)
      subst e
      exact k _ _ (Ext.new nl) (po.upd nl) (.lst ⟨(fun z => nomatch z), fun _ => hide_upd po nl⟩ (.inl (.inl (hide_upd po nl))) (dv.mono (Ext.new nl))) fun _ => New.lst po nl dv
end
end LA

/-! sorted(xs, key=len) of tuples of places -/
namespace LA
open PySem PySem.Spec PyProof.Rows L2
/-- in the order of their lengths -/
def lenSort (bs : List (List Nat)) : List (List Nat) := bs.mergeSort fun x y => decide (((x.length : Nat) : Int) ≤ ((y.length : Nat) : Int))
theorem lenSort_perm (bs : List (List Nat)) : (lenSort bs).Perm bs := List.mergeSort_perm _ _
theorem lenSort_pw (bs : List (List Nat)) : (lenSort bs).Pairwise fun x y => x.length ≤ y.length := by
  refine (List.pairwise_mergeSort (le := fun x y : List Nat => decide (((x.length : Nat) : Int) ≤ ((y.length : Nat) : Int))) (fun a b c h1 h2 => ?_) (fun a b => ?_) bs).imp fun h => ?_
  · have h1 := of_decide_eq_true h1
    have h2 := of_decide_eq_true h2
    exact decide_eq_true (by omega)
  · rw [Bool.or_eq_true, decide_eq_true_eq, decide_eq_true_eq]
    omega
  · have := of_decide_eq_true h
    omega
def rSortLen (K : PySem.W.Frag) : List V → Hp → VK → Prop := fun xs H Q => ∃ (p : HD) (a : Addr) (vs : List V) (bs : List (List Nat)), xs = [.ref a] ∧ SqL K H a vs ∧ DVs K p H vs (bs.map tpD) ∧
  ∀ (l : Addr) (ys : List V), DVs K p H ys ((lenSort bs).map tpD) → H l = none → Q (.ref l) (upd H l (.lst ys))
section
variable {X : Cx}
theorem run_sortLen {pins : List (Addr × Obj)} {s : Shared} {σ : L2.St} {H : Hp} {xs : List V} {us : List Value} {Q : VK} (hu : X.A.units + 62 < cLine) (I : Inv X pins σ H s) (r : Vals xs us) (h : rSortLen X.K xs H Q) :
    wpAny (model X.prog X.w) X.A (call (.builtin "sorted") us [(Str.ofString "key", .builtin "len")]) (EP X pins σ Q) X.xe s := by
  obtain ⟨p, a, vs, bs, rfl, hq, dvs, q⟩ := h
  obtain ⟨its, rv, pl, hz⟩ := I.list hq
  rw [Vals.ref1 r]
  obtain ⟨zs, e, z1, z2⟩ := each_tp rv dvs
  have zl : zs.length = vs.length := by rw [← z1, List.length_map]
  let k : V × List Nat → PyData := fun x => .int ((x.2.length : Nat) : Int)
  refine PySem.W.sorted_key_data (b := false) k pl.isList e (PySem.W.AllAlike.of fun b b' => ?_) (PySem.W.Sortable.others fun b => ⟨(fun z => nomatch z), fun xs z => nomatch z⟩) (by rw [zl]; exact hz) (fun b hb => ?_) (ksk_s1 _ _) (fun _ => ksk_l1 _ _) (fun a => ksk_t4 "len" a) (fun v x hx _ h tk kp => ?_) fun out c h' tk kp fr he ol oe => ?_
  · show PySem.W.alike (.int _) (.int _) = true
    rw [PySem.W.alike]
  · show X.A.units + 2 + (PyData.int _).depth < cLine
    unfold PyData.depth
    omega
  · obtain ⟨x1, b⟩ := x
    obtain ⟨hr, hd⟩ := hx
    generalize hdd : tpD b = d at hd
    unfold tpD at hdd
    subst hdd
    cases hd with
    | tup hq2 h2 =>
      cases hr
      obtain ⟨its2, r2, pt, hz2⟩ := I.tuple (un_sqT hq2)
      have l2 : its2.length = b.length := by
        rw [← r2.length, h2.length]
        unfold nsD
        exact List.length_map ..
      have hs : sizeLine = 16777216 := sizeLine_eq
      have l3 := r2.length
      refine len_tuple (pt.keeps kp) (by simp only [List.size_toArray]; omega) ⟨h, _, rfl, fun _ _ z => z, ?_⟩
      show Reads h (.int (((its2.toArray).size : Nat) : Int) _) (.int ((b.length : Nat) : Int)) []
      rw [List.size_toArray, l2]
      exact .int _ _
  · obtain ⟨t1, t2⟩ := tp_each oe
    let le : V × List Nat → V × List Nat → Bool := PySem.W.dataLe false k
    have lee : le = fun x y => decide (((x.2.length : Nat) : Int) ≤ ((y.2.length : Nat) : Int)) := PySem.W.dataLe_int (fun x : V × List Nat => ((x.2.length : Nat) : Int))
    have hs : (zs.mergeSort le).map (·.2) = lenSort bs := by
      rw [← z2]
      exact PySem.W.sort_maps (r := le) (s := fun x y : List Nat => decide (((x.length : Nat) : Int) ≤ ((y.length : Nat) : Int))) (fun x : V × List Nat => x.2) fun x _ y _ => by rw [lee]
    rw [hs] at t2
    have hlen : ((zs.mergeSort le).map (·.1)).length ≤ sizeLine := by
      rw [List.length_map, List.length_mergeSort, zl]
      exact hz
    exact ⟨.ref _, upd H (s.heap.objs.size + 1) (.lst ((zs.mergeSort le).map (·.1))), I.laid kp (Nat.le_succ _) ⟨hlen, out, c, t1, he⟩, rfl, q _ _ t2 (I.hok.fresh (Nat.le_succ _))⟩
end
section
variable {X : Cx} {W : WX} {p : HD} {ρ : Rho} {c c1 : PC} {e : Expr} {pos ps kpos lp : Pos} {nw : Bool} {g : G} {bs : List (List Nat)} {t : TA}
theorem pe_sortLen (hu : X.A.units + 62 < cLine) (hm : X.mg "sorted" = none) (hl : X.mg "len" = none) (ha : PA X [e] t) (hg : Gl X "sorted" := by rfl) (hgl : Gl X "len" := by rfl)
    (he : backTo pos (starEach [e] X.env) = (false, eval e X.env) :: backTo pos (starEach [] X.env) := by rfl) (hpl : (backTo pos (starEach [e] X.env)).any (·.1) = false := by rfl)
    (hall : (backToKw pos (keywordEach [⟨some "key", .Name "len" lp, kpos⟩] X.env)).all (·.1.isSome) = true := by rfl) (hnone : (backToKw pos (keywordEach [⟨some "key", .Name "len" lp, kpos⟩] X.env)).any (·.1.isNone) = false := by rfl)
    (hks : (backToKw pos (keywordEach [⟨some "key", .Name "len" lp, kpos⟩] X.env)).filterMap (·.1) = [Str.ofString "key"] := by rfl) :
    PE X (.Call (.Name "sorted" ps) [e] [⟨some "key", .Name "len" lp, kpos⟩] pos) (fun σ H Q => t σ H fun vs H1 => rSortLen X.K vs H1 Q) := by
  refine ⟨fun pins s σ H Q I h => ?_⟩
  refine wpAny_Call_Name_kw (ld_blt I hg hm PyProof.Rows.boot_sorted ?_ (by decide) (by decide))
  refine PyProof.Rows.callWith_kw (thn (ha.run pos pins s σ H _ I h) fun us s1 ⟨vs, H1, I1, r1, q1⟩ => ?_) he hpl hall hnone
  rw [hks]
  show wpAny _ _ (evalAll [do let v ← eval (.Name "len" lp) X.env; standAt pos; pure v]) _ _ s1
  refine wpAny_evalAll_cons (wpAny_bind (ld_blt I1 hgl hl PySem.boot_len (wpAny_bind (wpAny_standAt (wpAny_pure (wpAny_evalAll_nil ?_)))) (by decide) (by decide)))
  exact run_sortLen hu I1 r1 q1
/-- sorted(xs, key=len) -/
theorem re_sortLen (hu : X.A.units + 62 < cLine) (hm : X.mg "sorted" = none) (hl : X.mg "len" = none) (ha : RE X W p ρ c e (.val (.lst g (bs.map tpD)) nw c1)) (hg : Gl X "sorted" := by rfl) (hgl : Gl X "len" := by rfl)
    (hes : starEach [e] X.env = (false, eval e X.env) :: starEach [] X.env := by rfl)
    (he : backTo pos (starEach [e] X.env) = (false, eval e X.env) :: backTo pos (starEach [] X.env) := by rfl) (hpl : (backTo pos (starEach [e] X.env)).any (·.1) = false := by rfl)
    (hall : (backToKw pos (keywordEach [⟨some "key", .Name "len" lp, kpos⟩] X.env)).all (·.1.isSome) = true := by rfl) (hnone : (backToKw pos (keywordEach [⟨some "key", .Name "len" lp, kpos⟩] X.env)).any (·.1.isNone) = false := by rfl)
    (hks : (backToKw pos (keywordEach [⟨some "key", .Name "len" lp, kpos⟩] X.env)).filterMap (·.1) = [Str.ofString "key"] := by rfl) :
    RE X W p ρ c (.Call (.Name "sorted" ps) [e] [⟨some "key", .Name "len" lp, kpos⟩] pos) (.val (.lst ⟨false, true⟩ ((lenSort bs).map tpD)) true c1) :=
  pe_imp (pe_sortLen hu hm hl (ra_cons (W := W) ha (ra_nil (W := W)) hes) hg hgl he hpl hall hnone hks) fun σ H Q ⟨s, kk⟩ => ⟨s, fun vs H1 e1 p1 dvs => by
    cases dvs with
    | cons h r =>
      cases r
      cases h with
      | lst hb hq ha =>
        refine ⟨p, _, _, bs, rfl, un_sqL hq, ha, fun l ys dv nl => ?_⟩
        exact kk _ _ (e1.trans (Ext.new nl)) (p1.upd nl) (.lst ⟨(fun z => nomatch z), fun _ => hide_upd p1 nl⟩ (.inl (.inl (hide_upd p1 nl))) (dv.mono (Ext.new nl))) fun _ => (New.lst p1 nl dv).back e1⟩
end
end LA

/-! comprehensions over a list that changes; lists of tuples of places compared -/
namespace LA
open PySem PySem.Spec PyProof.Rows L2
section
variable {K : PySem.W.Frag} {X : Cx} {W : WX} {p : HD} {ρ : Rho} {c c1 : PC} {tg : Expr} {pos : Pos}
theorem lc_readM {xs : List D} {g : TG} {vs : List Nat} {b : Nat → Bool} {y : Nat → D} {cc : PC} {ρt : Nat → Rho} {nws : Nat → Bool}
    (htg : ∀ i d, xs[i]? = some d → TgOk K g vs d (wipeR ρ vs) (ρt i))
    (hz : xs.length ≤ 100000) : ∀ σ H Q, tE K W p ρ c (.val (.lst ⟨false, true⟩ (coll b y xs.length)) true cc) σ H Q → tLc (tIM K W p ρ c xs cc) g (ttU K xs b (fun _ => cc) (fun _ => cc) ρt) (teU K xs b y (fun _ => cc) (fun _ => cc) ρt nws) vs σ H Q := by
  refine fun σ H Q ⟨s, k⟩ => ⟨s, fun J H1 e1 p1 yl L nL => ?_⟩
  -- the invariant
  have hsub : Sub (hide p H1) (hide (p.also L) H1) := also_sub nL
  have s1 : SR K p H1 σ ρ cc := s.mono e1 p1
  have s2 : SR K (p.also L) H1 σ ρ cc → True := fun _ => trivial
  refine ⟨fun i m H2 => m = xs.length - i ∧ i ≤ xs.length ∧ Ext p H1 H2 ∧ (∃ vs, H2 L = some (.lst vs) ∧ DVs K (p.also L) H2 vs (coll b y i)) ∧ PoolAt K (p.also L) H2 cc, ⟨xs.length, by simp, Nat.zero_le _, Ext.new nL, ⟨[], upd_same, .nil⟩, p1.also nL⟩, ?_⟩
  rintro i m H2 ⟨rfl, hi', e2, ⟨vs, hL, dvs⟩, pq⟩
  have p2 := pq.less
  have nLp : L ∉ p.m := fun z => p1.not nL (.inl z)
  obtain ⟨hstop, hgo⟩ := yl (p.also L) H2 rfl (fun b o y => (ext_also e2).hide b o (hsub b o y)) pq
  by_cases hlt : i < xs.length
  · have hd : xs[i]? = some xs[i] := List.getElem?_eq_getElem hlt
    obtain ⟨g1, g2⟩ := hgo i _ hd
    refine .inr ⟨g1, fun H' => ∃ vs, H' L = some (.lst vs) ∧ DVs K (p.also L) H' vs (coll b y (i + 1)) ∧ Ext p H1 H' ∧ PoolAt K (p.also L) H' cc, fun H' ⟨vs', a1, a2, a3, a4⟩ => ⟨xs.length - (i + 1), by omega, rfl, hlt, a3, ⟨vs', a1, a2⟩, a4⟩, fun x H3 hy => ?_⟩
    obtain ⟨e3, p3, dx⟩ := g2 x H3 hy
    have sH : SR K (p.also L) H3 σ ρ cc := ⟨s.len, fun j d hj => by
      obtain ⟨v, h1, h2⟩ := s1.at' j d hj
      exact ⟨v, h1, ((h2.also nL).mono (ext_also e2)).mono e3⟩, p3⟩
    refine (htg i _ hd).run (p.also L) cc x _ H3 _ dx (sH.wipe _) p3 fun σ2 s2 hw => ⟨hw.trans wipe_wipe, p.also L, i, _, hd, s2, fun H4 e4 p4 => ?_⟩
    have hL4 : H4 L = some (.lst vs) := e4 L _ nLp (e3 L _ nLp hL)
    have e24 : Ext p H2 H4 := fun a o n h => e4 a o n (e3 a o n h)
    cases hb : b i with
    | false =>
      refine iteF ⟨vs, hL4, ?_, e2.trans e24, ?_⟩
      · show DVs K (p.also L) H4 vs (coll b y i ++ if b i then [y i] else [])
        rw [hb, if_neg Bool.false_ne_true, List.append_nil]
        exact dvs.mono (ext_also e24)
      · exact p4
    | true =>
      refine iteT ⟨p.also L, i, _, hd, hb, s2.mono e4 p4, fun v H5 e5 p5 dv _ => ?_⟩
      have hL5 : H5 L = some (.lst vs) := e5 L _ nLp hL4
      have e25 : Ext p H2 H5 := fun a o n h => e5 a o n (e24 a o n h)
      have up : ∀ a o, a ≠ L → H5 a = some o → upd H5 L (.lst (vs ++ [v])) a = some o := fun a o n h => by
        rw [upd_ne n]
        exact h
      have sb : Sub (hide (p.also L) H5) (hide (p.also L) (upd H5 L (.lst (vs ++ [v])))) := fun a o h => by
        obtain ⟨h1, h2⟩ := hide_some h
        have hn : a ≠ L := fun z => h2 (.inr (by rw [z]; exact List.mem_cons_self))
        rw [hide_ne h2]
        exact up a o hn h1
      refine ⟨vs, hL5, ?_, vs ++ [v], upd_same, ?_, ?_, ?_⟩
      · have := coll_len b y i
        rw [dvs.length]
        exact sz_lt (by omega)
      · show DVs K (p.also L) _ (vs ++ [v]) (coll b y i ++ if b i then [y i] else [])
        rw [hb, if_pos rfl]
        exact DVs.app ((dvs.mono (ext_also e25)).sub sb fun _ _ z => z) (.cons (dv.sub sb fun _ _ z => z) .nil)
      · refine fun a o n h => ?_
        have hn : a ≠ L := ne_of_none h nL
        exact up a o hn (e25 a o n (e2 a o n h))
      · exact p5.other List.mem_cons_self nLp
  · have e : i = xs.length := by omega
    subst e
    have hh : hide p H2 L = some (.lst vs) := by
      rw [hide_ne (p1.not nL)]
      exact hL
    exact .inl ⟨hstop, k (.ref L) H2 (e1.trans e2) p2 (.lst ⟨(fun z => nomatch z), fun _ => hh⟩ (.inl (.inl hh)) (dvs.sub sub_also fun _ _ z => z)) fun _ => New.back e1 fun b z => by
      cases z
      exact ⟨⟨nL, nLp⟩, pq, fun g ds z => by
        cases z
        exact ⟨vs, hL, dvs⟩⟩⟩
theorem re_lcM {elt iter : Expr} {ifs : List Expr} {scope : Scope} {own : List (Str × Nat)} {xs : List D} {g : TG} {cc : PC} (b : Nat → Bool) (y : Nat → D) (ρt : Nat → Rho) (nws : Nat → Bool) (hc : X.calm = true) (hN : X.N.Nodup) (hi : PI X tg iter (tIM X.K W p ρ c xs cc)) (ok : BlkOk X.N X.env.scope scope own)
    (hg : ∀ (s : Shared) (H : Hp) (C : Addr) (cl : List (Str × Addr)) (fp : List Addr), PG (X.blk s H scope (compEnvC scope cl C X.env) fp) tg g)
    (htg : ∀ i d, xs[i]? = some d → TgOk X.K g (own.map (·.2)) d (wipeR ρ (own.map (·.2))) (ρt i))
    (ht : ∀ i d, xs[i]? = some d → ∀ (q : HD) (s : Shared) (H : Hp) (C : Addr) (cl : List (Str × Addr)) (fp : List Addr), PTs (X.blk s H scope (compEnvC scope cl C X.env) fp) ifs (tT X.K Wf q (ρt i) cc (.val (b i) cc)))
    (he : ∀ i d, xs[i]? = some d → b i = true → ∀ (q : HD) (s : Shared) (H : Hp) (C : Addr) (cl : List (Str × Addr)) (fp : List Addr), RE (X.blk s H scope (compEnvC scope cl C X.env) fp) Wf q (ρt i) cc elt (.val (y i) (nws i) cc))
    (hz : xs.length ≤ 100000)
    (hs : ∀ x, foldedSetIterable iter X.env x = pure x := by intro _; rfl) : RE X W p ρ c (.ListComp elt [⟨tg, iter, ifs, 0⟩] scope pos) (.val (.lst ⟨false, true⟩ (coll b y xs.length)) true cc) :=
  pe_imp (pe_lc (tt := ttU X.K xs b (fun _ => cc) (fun _ => cc) ρt) (te := teU X.K xs b y (fun _ => cc) (fun _ => cc) ρt nws) hc hN hi ok hg (fun s H C cl fp => ⟨fun pins s' σ H' Q I ⟨q, i, d, hd, h⟩ => (ht i d hd q s H C cl fp).run pins s' σ H' Q I h⟩)
    (fun s H C cl fp => ⟨fun pins s' σ H' Q I ⟨q, i, d, hd, hb, h⟩ => (he i d hd hb q s H C cl fp).run pins s' σ H' Q I h⟩) hs) (lc_readM htg hz)
end
section
variable {K : PySem.W.Frag} {p : HD} {c : PC}
theorem flat_ns (b : List Nat) : (nsD b).all flatOk = true := by
  induction b with
  | nil => rfl
  | cons a r ih => exact ih
theorem dps_tp {H : Hp} : ∀ {vs : List V} {bs : List (List Nat)}, DVs K p H vs (bs.map tpD) → DpAll K H vs (toPys (bs.map tpD))
  | _, [], .nil => by
    rw [List.map_nil, toPys]
    exact .nil
  | _, b :: bs, .cons h r => by
    rw [List.map_cons, toPys]
    refine .cons ?_ (dps_tp r)
    have e : toPy (tpD b) = .tuple (toPys (nsD b)) := by unfold tpD toPy; rfl
    rw [e]
    generalize hd : tpD b = d at h
    unfold tpD at hd
    subst hd
    cases h with
    | tup hq r => exact .tup (un_sqT hq) (dps_of r (flat_ns b))
theorem lay_tps : ∀ bs : List (List Nat), PyData.canLayAll0 (toPys (bs.map tpD)) = true ∧ PyData.depthAll (toPys (bs.map tpD)) ≤ 1
  | [] => ⟨by rw [List.map_nil, toPys]; unfold PyData.canLayAll0; rfl, by rw [List.map_nil, toPys]; unfold PyData.depthAll; exact Nat.zero_le _⟩
  | b :: bs => by
    obtain ⟨h1, h2⟩ := lay_tps bs
    obtain ⟨g1, g2⟩ := flat_lay (flat_ns b)
    have e : toPy (tpD b) = .tuple (toPys (nsD b)) := by unfold tpD toPy; rfl
    have dp := tp_depth b
    rw [List.map_cons, toPys]
    refine ⟨?_, ?_⟩
    · unfold PyData.canLayAll0
      rw [h1, e]
      unfold PyData.canLay0
      rw [g1]
      rfl
    · rw [PyData.depthAll]
      omega
theorem shaped_tps (bs : List (List Nat)) : SeqAt.shaped (.list (toPys (bs.map tpD))) = true := by
  obtain ⟨h1, h2⟩ := lay_tps bs
  unfold SeqAt.shaped PyData.canLay0 PyData.depth
  rw [h1, Bool.true_and]
  exact decide_eq_true (by omega)
theorem tps_dp {v : V} {H : Hp} {g : G} {bs : List (List Nat)} (dv : DV K p H v (.lst g (bs.map tpD))) : Dp K H v (.list (toPys (bs.map tpD))) := by
  cases dv with
  | lst _ hq r => exact .lst (un_sqL hq) (dps_tp r)
theorem ov_neSelfTs {g g2 : G} {bs : List (List Nat)} : OV K p (rNeD K) (.lst g (bs.map tpD)) (.lst g2 (bs.map tpD)) (.bl false) true c := fun v u H Q dv du hp k => by
  refine ⟨_, _, tps_dp dv, tps_dp du, shaped_tps bs, shaped_tps bs, ?_⟩
  have e : PyData.eqv (.list (toPys (bs.map tpD))) (.list (toPys (bs.map tpD))) = true := by
    refine PySem.SeqAt.eqv_refl _ ?_
    unfold PyData.canLay0
    exact (lay_tps bs).1
  rw [e]
  exact k _ H (Ext.refl p H) hp (.bl _) fun _ => New.sc (by intro a h; cases h)
theorem ov_eqNilTs {g g2 : G} {bs : List (List Nat)} : OV K p (rEqD K) (.lst g (bs.map tpD)) (.lst g2 []) (.bl bs.isEmpty) true c := fun v u H Q dv du hp k => by
  have du' : DV K p H u (.lst g2 (([] : List (List Nat)).map tpD)) := du
  refine ⟨_, _, tps_dp dv, tps_dp du', shaped_tps bs, shaped_tps [], ?_⟩
  have e : PyData.eqv (.list (toPys (bs.map tpD))) (.list (toPys (([] : List (List Nat)).map tpD))) = bs.isEmpty := by
    rw [List.map_nil, show toPys [] = [] by rw [toPys], eqv_nil]
    cases bs <;> rfl
  rw [e]
  exact k _ H (Ext.refl p H) hp (.bl _) fun _ => New.sc (by intro a h; cases h)
end
end LA

/-! any -/
namespace LA
open PySem PySem.Spec PyProof.Rows L2
theorem cv_any {K : PySem.W.Frag} {p : HD} {c : PC} {g : G} {bs : List Bool} : CV K p (rAny K) [.lst g (bs.map D.bl)] (.bl (bs.any id)) true c := fun vs H Q dvs hp k => by
  cases dvs with
  | cons hv r =>
    cases r
    cases hv with
    | lst _ hq ha =>
      rw [of_bools ha] at hq
      exact ⟨_, bs, rfl, un_sqL hq, k _ H (Ext.refl p H) hp (.bl _) fun _ => New.sc (by intro a h; cases h)⟩
theorem vals_back : ∀ {vs : List V} {us : List Value}, Vals vs us → Vals vs.reverse us.reverse
  | _, _, .nil => .nil
  | _, _, .cons h t => by
    rw [List.reverse_cons, List.reverse_cons]
    exact (vals_back t).append (.cons h .nil)
theorem vals_appR {vs zs : List V} {us ws : List Value} (h1 : Vals vs us) (h2 : Vals zs ws) : Vals (vs ++ zs.reverse) (us ++ ws.reverse) := h1.append (vals_back h2)
theorem dvs_back {K : PySem.W.Frag} {p : HD} {H : Hp} : ∀ {vs : List V} {ds : List D}, DVs K p H vs ds → DVs K p H vs.reverse ds.reverse
  | _, _, .nil => .nil
  | _, _, .cons h t => by
    rw [List.reverse_cons, List.reverse_cons]
    exact DVs.app (dvs_back t) (.cons h .nil)
end LA

/-! what raises within a call of an object, within a comparison -/
namespace LA
open PySem PySem.Spec PyProof.Rows L2
section
variable {X : Cx} {W : WX} {p : HD} {ρ : Rho} {c c1 c2 : PC} {e a b fe : Expr} {es : List Expr} {pos : Pos} {nw : Bool} {k : Nat} {C E g : Addr} {fd : FuncData} {ps : List Str} {R : FSpec} {fs gs : List (Str × D)} {r : R2} {op : CmpOp}
theorem re_callOX (tk : Takes X W) (G : FnOk X.prog X.w X.K X.mg X.base (L2.CX X.prog X.w) k g fd ps (spF X.K R)) (hr : Room k X.A) (hb : Binds X.K fd ps []) (w : StX.CallO X.K C g) (hf : RE X W p ρ c fe (.val (.obj C fs) nw c1)) (ha : RA X W p ρ c1 (e :: es) (.ex E gs c2))
    (ht : eval (.Call fe (e :: es) [] pos) X.env = (do callWith pos (← eval fe X.env) [] (backTo pos (starEach (e :: es) X.env)) (backToKw pos (keywordEach [] X.env))) := by rfl)
    (he : starEach (e :: es) X.env = (false, eval e X.env) :: starEach es X.env := by rfl) (hpl : (backTo pos (starEach es X.env)).any (·.1) = false := by rfl) : RE X W p ρ c (.Call fe (e :: es) [] pos) (.ex E gs c2) :=
  pe_imp (pe_callI hf w G hr hb (fun σ => passAt tk σ) ha ht he hpl) fun σ H Q ⟨s, q⟩ => ⟨s, fun v H1 e1 p1 dv _ => by
    cases dv with
    | @obj y _ dx fv _ hv r =>
      exact ⟨y, rfl, s.mono e1 p1, fun dx fv σ' H' e2 s2 hx hf => q dx fv σ' H' (e1.trans e2) s2 hx hf⟩⟩
theorem re_cmpX (ho : OpR X (compareOp op) r) (ha : RE X W p ρ c a (.ex E gs c1)) (hm : behindInMarks op b = false := by first | rfl | exact nomark _) : RE X W p ρ c (.Compare a [op] [b] pos) (.ex E gs c1) :=
  pe_imp (pe_cmpR (tb := fun _ _ _ => False) ho ha ⟨fun _ _ _ _ _ _ z => z.elim⟩ hm) fun σ H Q h => h
end
end LA

/-! range(a, b) -/
namespace LA
open PySem PySem.Spec PyProof.Rows L2
/-- the numbers from a on, n of them -/
def intsF (a : Int) (n : Nat) : List D := (List.range n).map fun i => D.int (a + ((i : Nat) : Int))
theorem intsF_len (a : Int) (n : Nat) : (intsF a n).length = n := by unfold intsF; rw [List.length_map, List.length_range]
theorem intsF_at {a : Int} {n i : Nat} {d : D} (h : (intsF a n)[i]? = some d) : d = .int (a + ((i : Nat) : Int)) ∧ i < n := by
  unfold intsF at h
  have hl := (List.getElem?_eq_some_iff.mp h).1
  rw [List.length_map, List.length_range] at hl
  rw [List.getElem?_map, List.getElem?_range hl] at h
  exact ⟨(Option.some.inj h).symm, hl⟩
section
variable {X : Cx} {W : WX} {p : HD} {ρ : Rho} {c c1 c2 : PC} {a b tg : Expr} {pos ps : Pos} {n1 n2 : Bool}
theorem ri_range2 {i j : Int} (hm : X.mg "range" = none) (ha : RE X W p ρ c a (.val (.int i) n1 c1)) (hb : RE X W p ρ c1 b (.val (.int j) n2 c2)) (h1 : -(2 ^ 62) ≤ i) (h2 : i < 2 ^ 62) (h3 : -(2 ^ 62) ≤ j) (h4 : j < 2 ^ 62) (hg : Gl X "range" := by rfl)
    (hs : starEach [a, b] X.env = [(false, eval a X.env), (false, eval b X.env)] := by rfl) (hs2 : starEach [b] X.env = [(false, eval b X.env)] := by rfl) : RI X W p ρ c tg (.Call (.Name "range" ps) [a, b] [] pos) (intsF i (j - i).toNat) c2 :=
  pi_imp (pi_range2 hg hm (ra_cons (W := W) ha (ra_cons (W := W) hb (ra_nil (W := W)) (by rw [hs2]; rfl)) (by rw [hs, hs2])) hs hs2) fun σ H R ⟨s, k⟩ => ⟨s, fun vs H1 e1 p1 dvs => by
    cases dvs with
    | cons hv hr =>
      cases hv
      cases hr with
      | cons hv2 hr =>
        cases hr
        cases hv2
        refine ⟨i, j, rfl, ⟨h1, h2, h3, h4⟩, k _ H1 e1 p1 fun q c' H2 qe qs p2 => ⟨?_, fun x d hd => ?_⟩⟩
        · show (j - i).toNat ≤ (intsF i (j - i).toNat).length
          rw [intsF_len]
          exact Nat.le_refl _
        · obtain ⟨rfl, hl⟩ := intsF_at hd
          refine ⟨hl, fun x H3 y => ?_⟩
          obtain ⟨rfl, rfl⟩ := y
          exact ⟨Ext.refl _ _, p2, .int _⟩⟩
end
end LA

/-! displays of dicts: {}, {0: 1} -/
namespace LA
open PySem PySem.Spec PyProof.Rows L2
section
variable {X : Cx} {W : WX} {p : HD} {ρ : Rho} {c c1 : PC} {e : Expr} {pos : Pos} {d : D} {nw : Bool}
theorem re_dctI {x : Int} {j : Nat} {kp : Pos} (hv : ∀ q : HD, RE X W q ρ c e (.val d nw c1)) : RE X W p ρ c (.Dict [some (.Constant (.int x) j kp)] [e] pos) (.val (.dct [(.inl x, d)]) true c1) := by
  have N : ∀ (trs : List (TE × TE)), trs = [(tC (.int x), fun σ H Q => ∃ q : HD, tE X.K W q ρ c (.val d nw c1) σ H Q)] → PPs X pos [some (.Constant (.int x) j kp)] [e] trs := fun trs h => by
    subst h
    exact pps_cons pe_int ⟨fun pins s σ H Q I ⟨q, h⟩ => (hv q).run pins s σ H Q I h⟩ pps_nil
  refine pe_imp (pe_disp (N _ rfl) (by rfl) (by rfl) (fun z => by cases z) (by show 1 ≤ 15; decide)) fun σ H Q ⟨s, k⟩ => ?_
  intro L nL
  have pq : PoolAt X.K (p.also L) (upd H L (.dK [])) c := s.pl.also nL
  have nLp : L ∉ p.m := fun z => s.pl.not nL (.inl z)
  refine ⟨p.also L, ⟨s.len, fun i d hd => ?_, pq⟩, fun v H2 e2 p2 dv _ => ?_⟩
  · obtain ⟨v, h1, h2⟩ := s.at' i d hd
    exact ⟨v, h1, (h2.also nL).mono (Ext.new nL)⟩
  · have hL : H2 L = some (.dK []) := e2 L _ nLp upd_same
    have sb : Sub (hide (p.also L) H2) (hide p (upd H2 L (.dK (mergeK [] [(.inl x, v)])))) := fun a o h => by
      obtain ⟨h1, h2⟩ := hide_some h
      have hn : a ≠ L := fun z => h2 (.inr (by rw [z]; exact List.mem_cons_self))
      rw [hide_ne (show ¬ p.hid a from fun z => h2 (z.elim .inl fun m => .inr (List.mem_cons_of_mem _ m))), upd_ne hn]
      exact h1
    refine ⟨hL, [(.inl x, v)], rfl, by show 1 ≤ 15; decide, ?_⟩
    have e1 : Ext p H (upd H2 L (.dK (mergeK [] [(.inl x, v)]))) := fun a o n h => by
      rw [upd_ne (ne_of_none h nL)]
      exact e2 a o n (by rw [upd_ne (ne_of_none h nL)]; exact h)
    refine k _ _ e1 (p2.other List.mem_cons_self nLp).less (.dct (.inl ?_) (.cons (dv.sub sb fun _ _ z => z) .nil)) fun _ => (fun b z => by
      cases z
      exact ⟨⟨nL, nLp⟩, p2.other List.mem_cons_self nLp, fun g ds z => nomatch z⟩)
    rw [hide_ne (s.pl.not nL), upd_same]
    rfl
end
end LA

/-! a new list put out of sight within a def, and a test asked while it is seen -/
namespace LA
open PySem PySem.Spec PyProof.Rows L2
section
variable {X : Cx} {W : WX} {p : HD} {as : List Addr} {ρ ρf : Rho} {c c1 : PC} {t : Expr} {st : Stmt} {rest : List Stmt} {g : G} {ds : List D} {so : SO} {b : Bool}
theorem rso_newZ (i : Nat) (h : RN X (p.muts as) ρ c st i (.lst g ds) c1) (hds : lowDs 0 ds = true)
    (hr : ∀ a, a ∉ p.z → RSo X W p (a :: as) (ρ.set i (some (.mut c1.length))) (c1 ++ [.lst ds]) rest so) : RSo X W p as ρ c (st :: rest) so := by
  have PU : PSs X rest (fun De σ H => ∃ a, a ∉ p.z ∧ tSo X.K W p (a :: as) (ρ.set i (some (.mut c1.length))) (c1 ++ [.lst ds]) so De σ H) := ⟨fun pins s σ H De I ⟨a, hz, h2⟩ => (hr a hz).run pins s σ H De I h2⟩
  refine pss_imp (pss_cons h PU) fun De σ H ⟨H0, σ0, ρ0, c0, na, e1, q, hl, s⟩ => ⟨s, fun v H1 e2 p1 dv hn => ?_⟩
  cases dv with
  | @lst a vs _ _ hb hq r =>
    obtain ⟨⟨nA, nm⟩, pa, hc⟩ := hn a rfl
    obtain ⟨vs', hv, dvs⟩ := hc _ _ rfl
    have n0 : H0 a = none ∧ a ∉ p.m := by
      have nmp : a ∉ p.m := fun z => nm (by
        have key : ∀ (as : List Addr), a ∈ (p.muts as).m := fun as => by
          induction as with
          | nil => exact z
          | cons b r ih => exact List.mem_append.mpr (.inl ih)
        exact key as)
      refine ⟨?_, nmp⟩
      cases q0 : H0 a with
      | none => rfl
      | some o =>
        rw [e1 a o nmp q0] at nA
        cases nA
    have nz : a ∉ p.z := fun z => by
      obtain ⟨o, ho⟩ := (st_sr q).pl.2 a z
      rw [n0.1] at ho
      cases ho
    exact ⟨a, nz, H0, σ0, ρ0, c0, fun b m => (List.mem_cons.mp m).elim (fun z => by rw [z]; exact n0) (na b), ext_muts na e1 e2, q, by rw [List.length_set]; exact hl, s.in' nA nm e2 pa hv dvs hds⟩
theorem rt_frzZ {a : Addr} (h : RT X W p ρf c t (.val b c1)) (fz : Frz c.length ds ρ ρf) (hz : a ∉ p.z) (hs : ∀ y ∈ c1, SdCell y) : RT X W (p.mut a) ρ (c ++ [.lst ds]) t (.val b (c1 ++ [.lst ds])) := by
  refine pt_imp h fun σ H Q ⟨s, k⟩ => ?_
  have hn : p.m.length = c.length := by
    have := s.pl.1.2.1
    rw [List.length_append] at this
    have e : (p.m ++ [a]).length = c.length + 1 := this
    rw [List.length_append] at e
    exact Nat.succ.inj e
  have po : PoolAt X.K p H c := by
    have z := PoolAt.out (p := p) s.pl
    rw [hn, List.take_left'] at z
    · exact z
    · rfl
  have ha : (p.m ++ [a])[c.length]? = some a := by
    rw [← hn, List.getElem?_append_right (Nat.le_refl _)]
    simp
  have nda : a ∉ p.m := fun z => by
    have nd : (p.m ++ [a]).Nodup := s.pl.1.1
    exact (List.nodup_append.mp nd).2.2 a z a (List.mem_singleton.mpr rfl) rfl
  obtain ⟨vs, hv, dvs⟩ : CellAt X.K (p.mut a) H a (.lst ds) := s.pl.1.2.2 c.length a (.lst ds) ha (by simp)
  have vis : hide p H a = some (.lst vs) := by
    rw [hide_ne]
    · exact hv
    · rintro (z | z)
      · exact nda z
      · exact hz z
  refine ⟨⟨by rw [← fz.len]; exact s.len, fun i d q => ?_, po⟩, fun H1 e1 p1 => k H1 (fun x o n y => e1 x o (fun z => n (List.mem_append.mpr (.inl z))) y) ?_⟩
  · rcases fz.get i d q with ⟨q1, l⟩ | ⟨rfl, q1⟩
    · obtain ⟨v, h1, h2⟩ := s.at' i d q1
      exact ⟨v, h1, h2.low (n := c.length) sub_mut (fun i b li hi => at_mut (by rw [hn]; exact li) hi) l⟩
    · obtain ⟨v, h1, h2⟩ := s.at' i _ q1
      refine ⟨v, h1, ?_⟩
      obtain ⟨b, us, rfl, hb, hv2, r2⟩ := mut_lst h2 s.pl (ds := ds) (by simp)
      have eb : b = a := by
        have hb' : (p.m ++ [a])[c.length]? = some b := hb
        rw [ha] at hb'
        exact (Option.some.inj hb').symm
      subst eb
      exact .lst ⟨(fun z => nomatch z), fun _ => vis⟩ (.inl (.inl vis)) (dvs.sub (fun b o y => by rw [hide_flat] at y; exact sub_mut b o y) fun i b z => by simp [HD.flat] at z)
  · have hv1 : H1 a = some (.lst vs) := e1 a _ nda hv
    have pa : PoolAt X.K (p.also a) H1 c1 := by
      refine ⟨⟨p1.1.1, p1.1.2.1, fun i b y hb hy => ?_⟩, fun b m => ?_⟩
      · rcases hs y (List.mem_of_getElem? hy) with ⟨es, rfl, he⟩ | ⟨es, rfl, he⟩
        · obtain ⟨us, u1, u2⟩ : CellAt X.K p H1 b (.lst es) := p1.1.2.2 i b _ hb hy
          exact ⟨us, u1, dvs_move u2 he⟩
        · obtain ⟨us, u1, u2⟩ : CellAt X.K p H1 b (.dct es) := p1.1.2.2 i b _ hb hy
          exact ⟨us, u1, dvk_move u2 he⟩
      · rcases List.mem_cons.mp m with rfl | m
        · exact ⟨_, hv1⟩
        · exact p1.2 b m
    refine pa.in' nda ⟨vs, hv1, dvs.sub (fun b o y => ?_) fun i b z => by simp [HD.flat] at z⟩
    rw [hide_flat] at y ⊢
    obtain ⟨y1, y2⟩ := hide_some y
    rw [hide_ne y2]
    exact e1 b o (fun z => y2 (.inl (List.mem_append.mpr (.inl z)))) y1
end
end LA

/-! what stands in a dict behind a put -/
namespace LA
open PySem PySem.Spec PyProof.Rows L2
theorem valD_map (k k' : Key) (d : D) : ∀ ds : List (Key × D), (ds.any fun x => decide (x.1 = k)) = true → valD (ds.map fun x => if x.1 = k then (x.1, d) else x) k' = if k = k' then some d else valD ds k'
  | [], h => by cases h
  | a :: r, h => by
    rw [List.map_cons]
    by_cases e : a.1 = k
    · rw [if_pos e]
      by_cases e2 : k = k'
      · rw [if_pos e2]
        exact valD_pos (e.trans e2)
      · rw [if_neg e2, valD_neg (x := (a.1, d)) (fun z => e2 (e.symm.trans z)), valD_neg (x := a) (fun z => e2 (e.symm.trans z))]
        by_cases h2 : (r.any fun x => decide (x.1 = k)) = true
        · rw [valD_map k k' d r h2, if_neg e2]
        · have : ∀ r : List (Key × D), ¬ (r.any fun x => decide (x.1 = k)) = true → (r.map fun x => if x.1 = k then (x.1, d) else x) = r := fun r => by
            induction r with
            | nil => intro _; rfl
            | cons b r ih =>
              intro z
              rw [List.any_cons, Bool.or_eq_true, not_or] at z
              rw [List.map_cons, ih z.2, if_neg (fun y => z.1 (decide_eq_true y))]
          rw [this r h2]
    · rw [if_neg e]
      have h : (r.any fun x => decide (x.1 = k)) = true := by
        rw [List.any_cons, Bool.or_eq_true] at h
        rcases h with h | h
        · exact absurd (of_decide_eq_true h) e
        · exact h
      by_cases e3 : a.1 = k'
      · rw [valD_pos e3, valD_pos e3, if_neg (fun z => e (e3.trans z.symm))]
      · rw [valD_neg e3, valD_neg e3]
        exact valD_map k k' d r h
theorem valD_app (k' : Key) : ∀ (ds es : List (Key × D)), valD (ds ++ es) k' = (valD ds k').or (valD es k')
  | [], es => rfl
  | a :: r, es => by
    rw [List.cons_append]
    by_cases e : a.1 = k'
    · rw [valD_pos e, valD_pos e]
      rfl
    · rw [valD_neg e, valD_neg e]
      exact valD_app k' r es
theorem valD_put (ds : List (Key × D)) (k k' : Key) (d : D) : valD (putD2 ds k d) k' = if k = k' then some d else valD ds k' := by
  unfold putD2
  by_cases h : (ds.any fun x => decide (x.1 = k)) = true
  · rw [if_pos h]
    exact valD_map k k' d ds h
  · rw [if_neg h, valD_app]
    have hn : ∀ ds : List (Key × D), ¬ (ds.any fun x => decide (x.1 = k)) = true → valD ds k = none := fun ds => by
      induction ds with
      | nil => intro _; rfl
      | cons b r ih =>
        intro z
        rw [List.any_cons, Bool.or_eq_true, not_or] at z
        rw [valD_neg (fun y => z.1 (decide_eq_true y))]
        exact ih z.2
    by_cases e : k = k'
    · rw [if_pos e, ← e, hn ds h]
      exact valD_pos rfl
    · rw [if_neg e, valD_neg (show ¬ (k, d).1 = k' from e)]
      cases valD ds k' <;> rfl
end LA

namespace K41
open PySem PySem.Spec PyProof.Rows L2 LA
theorem ov_notN {K : PySem.W.Frag} {p : HD} {c : PC} {d : D} {b : Bool} (h : ∀ H v, DV K p H v d → decide (v = V.non) = b) : OV K p (fun x y H Q => y = .non ∧ Q (.bl (!decide (x = .non))) H) d .non (.bl (!b)) true c := fun v u H Q dv du hp k => by
  cases du
  refine ⟨rfl, ?_⟩
  rw [h H v dv]
  exact k _ H (Ext.refl p H) hp (.bl (!b)) fun _ => New.sc (by intro a h; cases h)
theorem oD_non {K : PySem.W.Frag} {p : HD} (a : Option Int) : ∀ H v, DV K p H v (oD a) → decide (v = V.non) = decide (a = none) := fun H v h => by
  have e := dv_sc h (oD_sc a)
  subst e
  cases a <;> rfl
theorem bins_no {w : List Nat} (h : ∀ m ∈ w, m ∈ bins) : 45 ∉ w := fun z => by
  have := h 45 z
  revert this
  decide
theorem ins_pat {n : Nat} {w : List Nat} (h : w ∈ insT n) : w ∈ patT n := patT_mem.mpr ⟨by
    have := words_all (List.replicate n bins) (ws := [[]]) (n := 0) (fun w hw => by rcases List.mem_cons.mp hw with rfl | hw; rfl; cases hw) w h
    rw [List.length_replicate] at this
    omega, fun c hc => by
    have m := insT_mem h c hc
    have e : bins = [48, 49] := by decide
    rw [e] at m
    rw [pats_is]
    exact List.mem_cons_of_mem _ m⟩
/-! ### the law's own: what is settled -/
abbrev sgnU : List Nat := [49, 48, 45]
def patU (n : Nat) : List (List Nat) := strsV sgnU n
theorem strs_mem (a : List Nat) : ∀ {n : Nat} {p : List Nat}, p ∈ strsV a n ↔ p.length = n ∧ ∀ c ∈ p, c ∈ a
  | 0, p => by
    show p ∈ [[]] ↔ _
    rw [List.mem_singleton]
    constructor
    · rintro rfl
      exact ⟨rfl, fun c h => nomatch h⟩
    · rintro ⟨h, _⟩
      exact List.length_eq_zero_iff.mp h
  | n + 1, p => by
    rw [strs_next a n]
    unfold step
    rw [List.mem_flatMap]
    constructor
    · rintro ⟨w, hw, hp⟩
      obtain ⟨c, hc, rfl⟩ := List.mem_map.mp hp
      obtain ⟨h1, h2⟩ := (strs_mem a).mp hw
      refine ⟨by rw [List.length_append, h1]; rfl, fun x hx => ?_⟩
      rcases List.mem_append.mp hx with z | z
      · exact h2 x z
      · rw [List.mem_singleton.mp z]
        exact hc
    · rintro ⟨h1, h2⟩
      have ne : p ≠ [] := fun z => by rw [z] at h1; cases h1
      refine ⟨p.dropLast, (strs_mem a).mpr ⟨by rw [List.length_dropLast]; omega, fun c hc => h2 c (List.dropLast_subset p hc)⟩, List.mem_map.mpr ⟨p.getLast ne, h2 _ (List.getLast_mem ne), List.dropLast_concat_getLast ne⟩⟩
theorem patU_len : ∀ n : Nat, (patU n).length = 3 ^ n
  | 0 => rfl
  | n + 1 => by
    show (strsV sgnU (n + 1)).length = _
    rw [strs_next, step_len, Nat.pow_succ]
    have := patU_len n
    unfold patU at this
    rw [this]
    rfl
theorem patU_mem {n : Nat} {p : List Nat} : p ∈ patU n ↔ p ∈ patT n := by
  unfold patU patT
  rw [strs_mem, strs_mem, pats_is]
  refine and_congr_right fun _ => forall_congr' fun c => imp_congr_right fun _ => ?_
  simp only [List.mem_cons, List.not_mem_nil, or_false]
  omega
def dgU (c : Nat) : Nat := if c = 45 then 2 else 49 - c
def nvU (acc : Nat) (p : List Nat) : Nat := p.foldl (fun a c => 3 * a + dgU c) acc
theorem nvU_lt : ∀ (p : List Nat) {a b : Nat}, a < b → nvU a p < nvU b p
  | [], _, _, h => h
  | c :: r, a, b, h => nvU_lt r (show 3 * a + dgU c < 3 * b + dgU c by omega)
theorem nvU_set : ∀ (p : List Nat) (a i : Nat) {c : Nat}, p[i]? = some 45 → dgU c < 2 → nvU a (p.set i c) < nvU a p
  | [], _, _, _, h, _ => by simp at h
  | x :: r, a, 0, c, h, hc => by
    have e : x = 45 := Option.some.inj h
    subst e
    exact nvU_lt r (show 3 * a + dgU c < 3 * a + 2 by omega)
  | x :: r, a, i + 1, c, h, hc => nvU_set r (3 * a + dgU x) i h hc
theorem stepU : ∀ (ws : List (List Nat)) (k : Nat), k < 3 * ws.length → (step ws sgnU).getD k [] = ws.getD (k / 3) [] ++ [sgnU.getD (k % 3) 0]
  | [], k, h => by simp at h
  | w :: r, 0, h => rfl
  | w :: r, 1, h => rfl
  | w :: r, 2, h => rfl
  | w :: r, k + 3, h => by
    have ih := stepU r k (by rw [List.length_cons] at h; omega)
    have e : step (w :: r) sgnU = (w ++ [49]) :: (w ++ [48]) :: (w ++ [45]) :: step r sgnU := by
      unfold step
      rw [List.flatMap_cons]
      rfl
    rw [e, show (k + 3) / 3 = k / 3 + 1 by omega, show (k + 3) % 3 = k % 3 by omega]
    exact ih
theorem placeU : ∀ (n k : Nat), k < 3 ^ n → nvU 0 ((patU n).getD k []) = k
  | 0, k, h => by
    have : k = 0 := by
      rw [Nat.pow_zero] at h
      omega
    subst this
    rfl
  | n + 1, k, h => by
    have e : patU (n + 1) = step (patU n) sgnU := strs_next sgnU n
    rw [Nat.pow_succ] at h
    have d : dgU (sgnU.getD (k % 3) 0) = k % 3 := by
      have l : k % 3 < 3 := Nat.mod_lt _ (by decide)
      generalize k % 3 = j at l
      match j, l with
      | 0, _ => rfl
      | 1, _ => rfl
      | 2, _ => rfl
    have ih := placeU n (k / 3) (by omega)
    unfold nvU at ih
    rw [e, stepU _ _ (by rw [patU_len]; omega)]
    unfold nvU
    rw [List.foldl_append, ih]
    show 3 * (k / 3) + dgU (sgnU.getD (k % 3) 0) = k
    rw [d]
    omega
theorem patU_nv {n j : Nat} {p : List Nat} (h : (patU n)[j]? = some p) : j < 3 ^ n ∧ nvU 0 p = j := by
  have l : j < (patU n).length := (List.getElem?_eq_some_iff.mp h).1
  have l' := l
  rw [patU_len] at l'
  refine ⟨l', ?_⟩
  have q := placeU n j l'
  rw [List.getD_eq_getElem?_getD, h] at q
  exact q
theorem u_before {n j : Nat} {p q : List Nat} (h : (patU n)[j]? = some p) (hq : q ∈ patU n) (hlt : nvU 0 q < nvU 0 p) : q ∈ (patU n).take j := by
  obtain ⟨h1, h2⟩ := patU_nv h
  obtain ⟨i, hi⟩ := List.getElem?_of_mem hq
  obtain ⟨h3, h4⟩ := patU_nv hi
  refine List.mem_of_getElem? (i := i) ?_
  rw [List.getElem?_take, if_pos (by omega)]
  exact hi
theorem u_new {n j : Nat} {p : List Nat} (h : (patU n)[j]? = some p) : p ∉ (patU n).take j := fun z => by
  obtain ⟨h1, h2⟩ := patU_nv h
  obtain ⟨i, hi⟩ := List.getElem?_of_mem z
  rw [List.getElem?_take] at hi
  split at hi
  · obtain ⟨h3, h4⟩ := patU_nv hi
    omega
  · cases hi
/-- what has been found by the j-th turn -/
def qU (l q : List Nat) : Bool := decide (45 ∈ q) && !decide (sett l q = none)
def KU (l : List Nat) (n j : Nat) : List (List Nat) := insT n ++ ((patU n).take j).filter (qU l)
theorem setK_no {l p : List Nat} : ∀ {ps : List (List Nat)}, p ∉ ps → valD (setK l ps) (.inr (tx p)) = none
  | [], _ => rfl
  | a :: r, h => by
    refine (valD_neg fun z => h ?_).trans (setK_no fun z => h (List.mem_cons_of_mem _ z))
    rw [tx_inj (Sum.inr.inj z)]
    exact List.mem_cons_self
theorem KU_get {l p : List Nat} {n j : Nat} (hp : p ∈ patT n) (h : 45 ∉ p ∨ p ∈ (patU n).take j) : (valD (setK l (KU l n j)) (.inr (tx p))).getD .non = oD (sett l p) := by
  by_cases hm : p ∈ KU l n j
  · rw [setK_at hm]
    rfl
  · rw [setK_no hm]
    have nins : 45 ∉ p → p ∈ insT n := fun z => by
      obtain ⟨h1, h2⟩ := patT_mem.mp hp
      refine (strs_mem bins).mpr ⟨h1, fun c hc => ?_⟩
      have m := h2 c hc
      rw [pats_is] at m
      have e : bins = [48, 49] := by decide
      rw [e]
      simp only [List.mem_cons, List.not_mem_nil, or_false] at m ⊢
      rcases m with rfl | m
      · exact absurd hc z
      · exact m
    by_cases hd : 45 ∈ p
    · have ht : p ∈ (patU n).take j := h.resolve_left fun z => z hd
      have hs : sett l p = none := by
        cases e : sett l p with
        | none => rfl
        | some a =>
          refine absurd (List.mem_append.mpr (.inr (List.mem_filter.mpr ⟨ht, ?_⟩))) hm
          unfold qU
          rw [decide_eq_true hd, e]
          rfl
      rw [hs]
      rfl
    · exact absurd (List.mem_append.mpr (.inl (nins hd))) hm
theorem KU_next {l q : List Nat} {n j : Nat} (h : (patU n)[j]? = some q) : KU l n (j + 1) = if qU l q = true then KU l n j ++ [q] else KU l n j := by
  unfold KU
  rw [List.take_add_one, h, List.filter_append]
  by_cases hq : qU l q = true
  · rw [if_pos hq, ← List.append_assoc]
    show _ ++ List.filter (qU l) [q] = _
    rw [List.filter_cons_of_pos hq]
    rfl
  · rw [if_neg hq]
    show _ ++ (_ ++ List.filter (qU l) [q]) = _
    rw [List.filter_cons_of_neg hq]
    rw [show List.filter (qU l) [] = [] from rfl, List.append_nil]
theorem KU_new {l q : List Nat} {n j : Nat} (h : (patU n)[j]? = some q) (hd : 45 ∈ q) : q ∉ KU l n j := fun z => by
  rcases List.mem_append.mp z with z | z
  · exact bins_no (insT_mem z) hd
  · exact u_new h (List.mem_filter.mp z).1
theorem KU_len {l : List Nat} {n j : Nat} (hn : n ≤ 6) : (KU l n j).length < 100000 := by
  have a : (insT n).length ≤ 64 := by
    rw [insT_len]
    have : 2 ^ n ≤ 2 ^ 6 := Nat.pow_le_pow_right (by decide) hn
    have e : (2 : Nat) ^ 6 = 64 := by decide
    omega
  have b : (((patU n).take j).filter (qU l)).length ≤ 729 := by
    refine Nat.le_trans (List.length_filter_le _ _) ?_
    rw [List.length_take, patU_len]
    have : 3 ^ n ≤ 3 ^ 6 := Nat.pow_le_pow_right (by decide) hn
    have e : (3 : Nat) ^ 6 = 729 := by decide
    omega
  unfold KU
  rw [List.length_append]
  omega
end K41

namespace K41
open PySem PySem.Spec PyProof.Rows L2 LA
theorem re_index {X : Cx} {W : WX} {p : HD} {ρ : Rho} {c c1 c2 : PC} {e o : Expr} {pos apos : Pos} {nw n2 : Bool} {l : List Nat} {n : Nat} (hl : n ∈ l) (ho : RE X W p ρ c o (.val (.str (tx l)) nw c1)) (he : RE X W p ρ c1 e (.val (.str (chr1 n)) n2 c2)) (hs : starEach [e] X.env = [(false, eval e X.env)] := by rfl) (hbase : attributeBase o "index" X.env (eval o X.env) = eval o X.env := by rfl) (hline : (apos.endLine == pos.line) = true := by rfl) :
    RE X W p ρ c (.Call (.Attribute o "index" apos) [e] [] pos) (.val (.int ((fi n l : Nat) : Int)) true c2) :=
  pe_imp (pe_m1 PySem.F.slot_str_index (by first | rfl | (show builtinType _ = _; rw [builtinType_eq_fast]; kernel_rfl)) mt_sindex ho he hs hbase hline) fun σ H Q ⟨s, k⟩ => ⟨s, fun v H1 e1 p1 dv _ => by
    cases dv
    refine ⟨⟨tx l, rfl⟩, s.mono e1 p1, fun u H2 e2 p2 du _ => ?_⟩
    cases du
    have at_ : ∀ i, StrLaws.At (tx l) (chr1 n) (tx l).length i ↔ l[i]? = some n := fun i => by
      have q := StrLaws.subAt_one (tx l) n i
      rw [tx_list] at q
      exact q
    rcases StrLaws.occ_head (tx l) (chr1 n) 1 (Nat.le_refl 1) with ⟨_, no⟩ | ⟨i, r, h0, yes, no⟩
    · exact absurd ((at_ _).mpr (fi_at hl)) (no _)
    · have ei : i = fi n l := by
        have y := (at_ i).mp yes
        rcases Nat.lt_trichotomy i (fi n l) with z | z | z
        · exact absurd y (fi_before z)
        · exact z
        · exact absurd ((at_ _).mpr (fi_at hl)) (no _ z)
      subst ei
      exact ⟨_, _, _, r, rfl, rfl, h0, k _ H2 (e1.trans e2) p2 (.int _) fun _ => New.sc (by intro a h; cases h)⟩⟩
def lsetR : FSpec := fun ds c o => ∃ (l : List Nat) (n : Nat), ds = [.int ((n : Nat) : Int), .dct (setK l (insT n))] ∧ n ≤ 6 ∧ o = .val (.dct (setK l (KU l n (3 ^ n)))) false c
section
variable {P : Program} {w : World} {K : PySem.W.Frag} {mg : Str → Option Value} {base : Heap} {B BP Bb BI C BT : Addr}
abbrev nLset : List Str := ["_law_many", "_law_answers", "_law_found", "_law_mask", "_law_at", "_law_halves", "_law_bit"]
theorem scLset : FnScope nLset ["_law_many", "_law_answers"] (defScope (top 54)) := ⟨rfl, rfl, rfl, by decide +kernel, rfl, by decide +kernel, by decide +kernel⟩
abbrev lsF : Stmt := (defBody (top 54)).getD 1 (.Pass ⟨0, 0, 0, 0⟩)
abbrev lsI : Stmt := (fBd lsF).getD 0 (.Pass ⟨0, 0, 0, 0⟩)
abbrev lsB : List Stmt := match lsI with | .If _ b _ _ => b | _ => []
theorem low_setK (l : List Nat) (m : Nat) : ∀ ps : List (List Nat), lowDk m (setK l ps) = true
  | [] => rfl
  | a :: r => by
    show (lowD m (oD (sett l a)) && lowDk m (setK l r)) = true
    rw [low_setK l m r]
    cases sett l a <;> rfl
theorem ok_lset {f : Addr} {fd : FuncData} (G : Glb mg) (TS : StrsD P w K mg base) (F : Fun K "_law_settling" "_law_settling" (top 54) f fd) : FnOk P w K mg base CX0 2 f fd ["_law_many", "_law_answers"] (spF K lsetR) := by
  refine fn_val F scLset (fun ds c o h => ?_) (fun ds c o h => ?_) (fun cdv A outer s H E hr p ds c o h => ?_)
  · obtain ⟨l, n, rfl, _⟩ := h
    rfl
  · obtain ⟨l, n, _, _, rfl⟩ := h
    exact ⟨_, _, _, rfl⟩
  · obtain ⟨l, n, rfl, n6, rfl⟩ := h
    let X := (cxOf CX0 P w K mg base nLset "_law_settling" (defScope (top 54)) f cdv A outer s H E).nox
    have hu1 : X.A.units + 1 < cLine := Nat.lt_of_le_of_lt (Nat.add_le_add_left (show 1 ≤ 64 by decide) _) hr.units
    let an : D := .dct (setK l (KU l n 0))
    let fr : Option D → Option D → Option D → PC → Rho := fun q a h c => [some (.int ((n : Nat) : Int)), some an, some (.mut c.length), q, a, h, none]
    have k0 : setK l (insT n) = setK l (KU l n 0) := by
      unfold KU
      rw [List.take_zero]
      show _ = setK l (insT n ++ [])
      rw [List.append_nil]
    refine .inl (rso_of (rso_newD (ds := setK l (insT n)) (c1 := c) 2 (rd_copy (W := Wf) 2 G.dct (re_var 1) scLset.nd) (low_setK l 0 _) fun a => ?_))
    rw [k0]
    have at_ : ∀ {j : Nat} {d : D}, (wD (patU n))[j]? = some d → ∃ q, (patU n)[j]? = some q ∧ d = .str (tx q) := fun {j d} h => by
      unfold wD at h
      rw [List.getElem?_map] at h
      cases e : (patU n)[j]? with
      | none =>
        rw [e] at h
        cases h
      | some q =>
        rw [e] at h
        exact ⟨q, rfl, (Option.some.inj h).symm⟩
    have loop := rs_for_all (X := X) (W := Wf) (p := HD.muts p [a]) (c := c ++ [.dct (setK l (KU l n 0))]) (ρ := fr none none none c) (xs := wD (patU n)) (vs := [3]) (g := gName 3) (body := fBd lsF) (tg := fTg lsF) (it := fIt lsF) (pos := fPs lsF)
      (fun _ => fr none none none c) (fun j => fr (some (.str (tx ((patU n).getD j [])))) none none c) (fun j => c ++ [.dct (setK l (KU l n j))]) PassesOwn.never rfl rfl
      (ri_lst (re_c0 TS hr (ra_cons (re_var 0) (ra_cons re_str ra_nil)) ⟨sgnU, n, rfl, n6, by decide, by decide, rfl⟩)) (pg_name (i := 3) scLset.nd rfl (Or.inr rfl)) (fun j d h => ?_) (fun j d h => ?_)
    · refine rso_cons loop ?_
      rw [wD_len, patU_len]
      refine rso_frzD 2 (rso_in ?_) rfl (.one rfl (.one ?_ (.non (.non (.non (.non (.non .nil)))))))
      · exact rss_ret (rs_ret (re_var 2))
      · exact low_setK l _ _
    · obtain ⟨q, hq, rfl⟩ := at_ h
      have e : (patU n).getD j [] = q := by rw [List.getD_eq_getElem?_getD, hq]; rfl
      rw [e]
      exact tg_name (by decide)
    · obtain ⟨q, hq, rfl⟩ := at_ h
      have e : (patU n).getD j [] = q := by rw [List.getD_eq_getElem?_getD, hq]; rfl
      rw [e]
      have qm : q ∈ patT n := patU_mem.mp (List.mem_of_getElem? hq)
      obtain ⟨ql, qc⟩ := patT_mem.mp qm
      have lz : (setK l (KU l n j)).length < 100000 := by
        unfold setK
        rw [List.length_map]
        exact KU_len n6
      have cl : ∀ y, (c ++ [Cell.dct (setK l (KU l n j))]).set c.length y = c ++ [y] := fun y => set_last c _ y
      have test : ∀ k, decide (45 ∈ q) = k → RT X Wf (HD.muts p [a]) (fr (some (.str (tx q))) none none c) (c ++ [.dct (setK l (KU l n j))]) (match lsI with | .If e _ _ _ => e | _ => .Name "" ⟨0, 0, 0, 0⟩) (.val k (c ++ [.dct (setK l (KU l n j))])) := fun k hk => by
        refine rt_to (rt_cmp op_in_sign re_str (re_var 3) (ov_inC (ch := 45) (z := tx q))) ?_
        rw [tx_list]
        exact hk
      by_cases hd : 45 ∈ q
      · have lf := fi_lt hd
        have zt : (tx q).length ≤ sizeLine := sz_le (by rw [tx_len]; omega)
        have half : ∀ ch, (ch = 48 ∨ ch = 49) → q.set (fi 45 q) ch ∈ patT n ∧ q.set (fi 45 q) ch ∈ (patU n).take j := fun ch hc => by
          have m : q.set (fi 45 q) ch ∈ patT n := patT_mem.mpr ⟨by rw [List.length_set]; exact ql, fun x hx => by
            rcases List.mem_or_eq_of_mem_set hx with z | z
            · exact qc x z
            · rw [z]
              rcases hc with rfl | rfl <;> decide⟩
          exact ⟨m, u_before hq (patU_mem.mpr m) (nvU_set q 0 _ (fi_at hd) (by rcases hc with rfl | rfl <;> decide))⟩
        let hv : Nat → D := fun i => oD (sett l (q.set (fi 45 q) (48 + i)))
        refine rss_less (ρ1 := fr (some (.str (tx q))) (some (.int ((fi 45 q : Nat) : Int))) (some (.lst ⟨false, true⟩ [hv 0, hv 1])) c) ?_ (by repeat (first | exact Less.nil | apply Less.same | apply Less.skip))
        refine rss_cons (rs_if (kb := true) (test true (decide_eq_true hd)) (fun _ => ?_) fun z => nomatch z) rss_nil
        refine rss_cons (c1 := c ++ [.dct (setK l (KU l n j))]) (ρ1 := fr (some (.str (tx q))) (some (.int ((fi 45 q : Nat) : Int))) none c) (rs_set (nw := true) 4 scLset.nd (re_index hd (re_var 3) re_str)) ?_
        refine rss_cons (c1 := c ++ [.dct (setK l (KU l n j))]) (ρ1 := fr (some (.str (tx q))) (some (.int ((fi 45 q : Nat) : Int))) (some (.lst ⟨false, true⟩ [hv 0, hv 1])) c) ?_ ?_
        · refine rs_lc (own := [("_law_bit", 6)]) (g := gName 6) (xs := chars (tx bins)) 5 (fun _ => true) hv (fun _ => c ++ [.dct (setK l (KU l n j))]) (fun _ => c ++ [.dct (setK l (KU l n j))]) (fun i => [some (.int ((n : Nat) : Int)), some an, some (.mut c.length), some (.str (tx q)), some (.int ((fi 45 q : Nat) : Int)), none, some (.str (chr1 (bins.getD i 0)))]) (fun _ => false) rfl scLset.nd (ri_str re_str) (blkOk_by (N := nLset) (sc := defScope (top 54)) (by decide +kernel)) (fun _ _ _ _ _ => pg_name (i := 6) scLset.nd rfl (Or.inl rfl)) (fun i d h => ?_) (fun i d h q' s' H' C' cl' fp => pts_all) (fun i d h _ q' s' H' C' cl' fp => ?_) (fun _ _ _ z => nomatch z) (by rw [signs_len]; decide)
          · obtain ⟨rfl, _⟩ := signs_at h
            exact tg_name (by decide)
          · obtain ⟨_, hi, _⟩ := signs_at h
            have hi2 : i < 2 := hi
            have eb : bins.getD i 0 = 48 + i := by
              match i, hi2 with
              | 0, _ => rfl
              | 1, _ => rfl
            rw [eb]
            obtain ⟨m1, m2⟩ := half (48 + i) (by omega)
            have ek : tx (q.set (fi 45 q) (48 + i)) = tx (q.take (fi 45 q)) ++ chr1 (48 + i) ++ tx (q.drop (fi 45 q + 1)) := by
              rw [show chr1 (48 + i) = tx [48 + i] from rfl, tx_app, tx_app]
              congr 1
              exact (set_cut lf).symm
            refine re_to (re_dget1M (ds := setK l (KU l n j)) (ky := .inr (tx (q.set (fi 45 q) (48 + i)))) (n2 := true) 2 c.length hu1 (re_to (re_bin (n2 := true) op_add_str (re_bin (n1 := true) op_add_str (re_to (re_slS (re_var 3) rp_none (rp_some (W := Wf) (re_var 4)) zt) (congrArg D.str (cut_lo (by omega)))) (re_var 6) (ov_addS ?_)) (re_to (re_slS (re_var 3) (rp_some (W := Wf) (nw := true) (re_to (re_bin op_add (re_var 4) re_int ov_ii) (d' := .int ((fi 45 q + 1 : Nat) : Int)) (congrArg D.int (by omega)))) rp_none zt) (congrArg D.str (cut_hi (by omega)))) (ov_addS ?_)) (congrArg D.str ek.symm)) cell_last cell_last ⟨rfl, rfl, rfl, rfl⟩) (KU_get m1 (.inr m2))
            · rw [tx_len, List.length_take]
              show min _ _ + 1 ≤ _
              exact sz_le (by omega)
            · rw [show chr1 (48 + i) = tx [48 + i] from rfl, tx_app, tx_len, tx_len, List.length_append, List.length_take, List.length_drop]
              show min _ _ + 1 + _ ≤ _
              exact sz_le (by omega)
        · have t2 : RT X Wf (HD.muts p [a]) (fr (some (.str (tx q))) (some (.int ((fi 45 q : Nat) : Int))) (some (.lst ⟨false, true⟩ [hv 0, hv 1])) c) (c ++ [.dct (setK l (KU l n j))]) (match lsB.getD 2 (.Pass ⟨0, 0, 0, 0⟩) with | .If e _ _ _ => e | _ => .Name "" ⟨0, 0, 0, 0⟩) (.val (!decide (sett l (q.set (fi 45 q) 48) = none) && decide (sett l (q.set (fi 45 q) 48) = sett l (q.set (fi 45 q) 49))) (c ++ [.dct (setK l (KU l n j))])) :=
            RW.rt (rw_and (rt_cmp op_notN (re_ix ix_seq (re_var 5) re_int (ov_ixL (j := 0) rfl rfl)) re_non (ov_notN (oD_non _))) fun _ => rw_and1 (rt_to (rt_cmp op_eq (re_ix ix_seq (re_var 5) re_int (ov_ixL (j := 0) rfl rfl)) (re_ix ix_seq (re_var 5) re_int (ov_ixL (j := 1) rfl rfl)) (ov_eqS (oD_sc _) (oD_sc _) (oV_scal _ _))) (oV_eq _ _)))
          have eq2 : qU l q = (!decide (sett l (q.set (fi 45 q) 48) = none) && decide (sett l (q.set (fi 45 q) 48) = sett l (q.set (fi 45 q) 49))) := by
            unfold qU
            rw [decide_eq_true hd, Bool.true_and, sett_yes hd]
            by_cases h1 : sett l (q.set (fi 45 q) 48) = sett l (q.set (fi 45 q) 49)
            · rw [if_pos h1, decide_eq_true h1, Bool.and_true]
            · rw [if_neg h1, decide_eq_false h1, Bool.and_false]
              rfl
          rw [← eq2] at t2
          rw [KU_next hq]
          by_cases hqu : qU l q = true
          · rw [if_pos hqu]
            rw [hqu] at t2 eq2
            obtain ⟨b1, b2⟩ := Bool.and_eq_true_iff.mp eq2.symm
            have es : sett l q = sett l (q.set (fi 45 q) 48) := by rw [sett_yes hd, if_pos (of_decide_eq_true b2)]
            refine rss_cons (c1 := c ++ [.dct (setK l (KU l n j ++ [q]))]) (rs_if (kb := true) t2 (fun _ => ?_) fun z => nomatch z) rss_nil
            refine rss_cons (c1 := c ++ [.dct (setK l (KU l n j ++ [q]))]) ?_ rss_nil
            rw [← setK_put (KU_new hq hd), ← cl (.dct (putD2 (setK l (KU l n j)) (.inr (tx q)) (oD (sett l q)))), es]
            exact rs_dputM (ky := .inr (tx q)) 2 c.length hu1 (nw := false) (re_ix ix_seq (re_var 5) re_int (ov_ixL (j := 0) rfl rfl)) (re_var 3) cell_last lz (by cases sett l (q.set (fi 45 q) 48) <;> rfl)
          · rw [if_neg hqu]
            have hf : qU l q = false := by simpa using hqu
            rw [hf] at t2
            exact rss_cons (rs_if (kb := false) t2 (fun z => nomatch z) fun _ => rss_nil) rss_nil
      · have hf : qU l q = false := by
          unfold qU
          rw [decide_eq_false hd]
          rfl
        rw [KU_next hq, hf, if_neg Bool.false_ne_true]
        exact rss_less (rss_cons (rs_if (kb := false) (test false (decide_eq_false hd)) (fun z => nomatch z) fun _ => rss_nil) rss_nil) (by repeat (first | exact Less.nil | apply Less.same | apply Less.skip))
abbrev LsetD (P : Program) (w : World) (K : PySem.W.Frag) (mg : Str → Option Value) (base : Heap) := Def0 P w K mg base 2 "_law_settling" ["_law_many", "_law_answers"] lsetR
end
end K41

namespace K41
open PySem PySem.Spec PyProof.Rows L2 LA
/-! ### fewest looks: the mathematics -/
/-- the open places -/
def unk (p : List Nat) : List Nat := (List.range p.length).filter fun i => decide (p.getD i 0 = 45)
theorem unk_mem {p : List Nat} {i : Nat} : i ∈ unk p ↔ p[i]? = some 45 := by
  unfold unk
  rw [List.mem_filter, List.mem_range, decide_eq_true_eq]
  constructor
  · rintro ⟨h1, h2⟩
    rw [List.getD_eq_getElem?_getD, List.getElem?_eq_getElem h1] at h2
    rw [List.getElem?_eq_getElem h1]
    exact congrArg some h2
  · intro h
    obtain ⟨h1, h2⟩ := List.getElem?_eq_some_iff.mp h
    refine ⟨h1, ?_⟩
    rw [List.getD_eq_getElem?_getD, h]
    rfl
theorem unk_cons (a : Nat) (p : List Nat) : unk (a :: p) = (if a = 45 then [0] else []) ++ (unk p).map (· + 1) := by
  unfold unk
  rw [List.length_cons, List.range_succ_eq_map, List.filter_cons, List.filter_map]
  have e : ((fun i => decide ((a :: p).getD i 0 = 45)) ∘ Nat.succ) = fun i => decide (p.getD i 0 = 45) := funext fun i => rfl
  rw [e]
  by_cases h : a = 45
  · rw [if_pos h]
    have : decide ((a :: p).getD 0 0 = 45) = true := decide_eq_true h
    rw [this, if_pos rfl]
    rfl
  · rw [if_neg h]
    have : decide ((a :: p).getD 0 0 = 45) = false := decide_eq_false h
    rw [this, if_neg Bool.false_ne_true]
    rfl
theorem unk_len : ∀ p : List Nat, (unk p).length = p.count 45
  | [] => rfl
  | a :: p => by
    rw [unk_cons, List.length_append, List.length_map, unk_len p, List.count_cons]
    by_cases h : a = 45
    · rw [if_pos h, if_pos (beq_iff_eq.mpr h)]
      show 1 + _ = _
      omega
    · rw [if_neg h, if_neg (fun z => h (beq_iff_eq.mp z))]
      show 0 + _ = _
      omega
theorem unk_nil {p : List Nat} : unk p = [] ↔ 45 ∉ p := by
  rw [← List.length_eq_zero_iff, unk_len, List.count_eq_zero]
theorem count_setA {c : Nat} (hc : c ≠ 45) : ∀ {p : List Nat} {i : Nat}, p[i]? = some 45 → (p.set i c).count 45 + 1 = p.count 45
  | [], i, h => by simp at h
  | a :: p, 0, h => by
    have h : a = 45 := Option.some.inj h
    rw [List.set_cons_zero, List.count_cons, List.count_cons, if_neg (fun z => hc (beq_iff_eq.mp z)), if_pos (beq_iff_eq.mpr h)]
  | a :: p, i + 1, h => by
    have ih := count_setA hc (p := p) (i := i) h
    rw [List.set_cons_succ, List.count_cons, List.count_cons]
    omega
theorem fi_unk : ∀ {p : List Nat}, 45 ∈ p → fi 45 p = (unk p).getD 0 0
  | [], h => nomatch h
  | a :: p, h => by
    rw [unk_cons]
    by_cases e : a = 45
    · rw [if_pos e]
      show (if a = 45 then 0 else fi 45 p + 1) = 0
      rw [if_pos e]
    · rw [if_neg e]
      have hp : 45 ∈ p := (List.mem_cons.mp h).resolve_left fun z => e z.symm
      have ih := fi_unk hp
      show (if a = 45 then 0 else fi 45 p + 1) = _
      rw [if_neg e, ih, List.nil_append]
      have hl : 0 < (unk p).length := by rw [unk_len]; exact List.count_pos_iff.mpr hp
      rw [List.getD_eq_getElem?_getD, List.getD_eq_getElem?_getD, List.getElem?_map, List.getElem?_eq_getElem hl]
      rfl
/-- a pattern whose open places are filled in turn -/
def emb : List Nat → List Nat → List Nat
  | [], _ => []
  | a :: m, q => if a = 45 then (match q with | [] => 45 :: emb m [] | b :: u => b :: emb m u) else a :: emb m q
def un (m : List Nat) (j : Nat) : Nat := (unk m).getD j 0
theorem un_hit0 (m : List Nat) : un (45 :: m) 0 = 0 := by
  unfold un
  rw [unk_cons]
  rfl
theorem un_hit (m : List Nat) {j : Nat} (h : j < m.count 45) : un (45 :: m) (j + 1) = un m j + 1 := by
  unfold un
  rw [unk_cons]
  show ((unk m).map (· + 1)).getD j 0 = _
  have hl : j < (unk m).length := by rw [unk_len]; exact h
  rw [List.getD_eq_getElem?_getD, List.getD_eq_getElem?_getD, List.getElem?_map, List.getElem?_eq_getElem hl]
  rfl
theorem un_miss {a : Nat} (ha : a ≠ 45) (m : List Nat) {j : Nat} (h : j < m.count 45) : un (a :: m) j = un m j + 1 := by
  unfold un
  rw [unk_cons, if_neg ha, List.nil_append]
  have hl : j < (unk m).length := by rw [unk_len]; exact h
  rw [List.getD_eq_getElem?_getD, List.getD_eq_getElem?_getD, List.getElem?_map, List.getElem?_eq_getElem hl]
  rfl
theorem emb_hit (m u : List Nat) (b : Nat) : emb (45 :: m) (b :: u) = b :: emb m u := by
  show (if (45 : Nat) = 45 then b :: emb m u else 45 :: emb m (b :: u)) = b :: emb m u
  rw [if_pos rfl]
theorem emb_miss {a : Nat} (ha : a ≠ 45) (m q : List Nat) : emb (a :: m) q = a :: emb m q := by
  show (if a = 45 then _ else a :: emb m q) = _
  rw [if_neg ha]
theorem cnt_hit (m : List Nat) : (45 :: m).count 45 = m.count 45 + 1 := List.count_cons_self ..
theorem cnt_miss {a : Nat} (ha : a ≠ 45) (m : List Nat) : (a :: m).count 45 = m.count 45 := List.count_cons_of_ne (by simpa using ha)
theorem emb_len : ∀ (m q : List Nat), q.length = m.count 45 → (emb m q).length = m.length
  | [], q, _ => rfl
  | a :: m, q, h => by
    by_cases ha : a = 45
    · subst ha
      rw [cnt_hit] at h
      match q, h with
      | b :: u, h =>
        rw [emb_hit, List.length_cons, List.length_cons, emb_len m u (by simpa using h)]
    · rw [cnt_miss ha] at h
      rw [emb_miss ha, List.length_cons, List.length_cons, emb_len m q h]
theorem emb_mem (S : List Nat) : ∀ (m q : List Nat), q.length = m.count 45 → (∀ c ∈ m, c = 45 ∨ c ∈ S) → (∀ c ∈ q, c ∈ S) → ∀ c ∈ emb m q, c ∈ S
  | [], q, _, _, _, c, hc => nomatch hc
  | a :: m, q, h, hm, hq, c, hc => by
    have hm' := fun c hc => hm c (List.mem_cons_of_mem a hc)
    by_cases ha : a = 45
    · subst ha
      rw [cnt_hit] at h
      match q, h with
      | b :: u, h =>
        rw [emb_hit] at hc
        rcases List.mem_cons.mp hc with rfl | hc
        · exact hq _ List.mem_cons_self
        · exact emb_mem S m u (by simpa using h) hm' (fun c hc => hq c (List.mem_cons_of_mem _ hc)) c hc
    · rw [cnt_miss ha] at h
      rw [emb_miss ha] at hc
      rcases List.mem_cons.mp hc with rfl | hc
      · exact (hm _ List.mem_cons_self).resolve_left ha
      · exact emb_mem S m q h hm' hq c hc
theorem emb_set : ∀ (m q : List Nat) (j b : Nat), q.length = m.count 45 → j < m.count 45 → emb m (q.set j b) = (emb m q).set (un m j) b
  | [], q, j, b, _, hj => absurd hj (by simp)
  | a :: m, q, j, b, h, hj => by
    by_cases ha : a = 45
    · subst ha
      rw [cnt_hit] at h hj
      match q, h with
      | c :: u, h =>
        have h : u.length = m.count 45 := by simpa using h
        cases j with
        | zero => rw [List.set_cons_zero, emb_hit, emb_hit, un_hit0, List.set_cons_zero]
        | succ j => rw [List.set_cons_succ, emb_hit, emb_hit, un_hit m (by omega), List.set_cons_succ, emb_set m u j b h (by omega)]
    · rw [cnt_miss ha] at h hj
      rw [emb_miss ha, emb_miss ha, un_miss ha m hj, List.set_cons_succ, emb_set m q j b h hj]
theorem unk_emb : ∀ (m q : List Nat), q.length = m.count 45 → unk (emb m q) = (unk q).map (un m)
  | [], q, h => by
    have : q = [] := List.length_eq_zero_iff.mp h
    rw [this]
    rfl
  | a :: m, q, h => by
    by_cases ha : a = 45
    · subst ha
      rw [cnt_hit] at h
      match q, h with
      | c :: u, h =>
        have h : u.length = m.count 45 := by simpa using h
        rw [emb_hit, unk_cons, unk_cons, unk_emb m u h, List.map_append, List.map_map, List.map_map]
        congr 1
        · by_cases hc : c = 45
          · rw [if_pos hc]
            show [0] = [un (45 :: m) 0]
            rw [un_hit0]
          · rw [if_neg hc]
            rfl
        · refine List.map_congr_left fun j hj => ?_
          have hl : j < u.length := (List.getElem?_eq_some_iff.mp (unk_mem.mp hj)).1
          show un m j + 1 = un (45 :: m) (j + 1)
          rw [un_hit m (by omega)]
    · rw [cnt_miss ha] at h
      rw [emb_miss ha, unk_cons, if_neg ha, List.nil_append, unk_emb m q h, List.map_map]
      refine List.map_congr_left fun j hj => ?_
      have hl : j < q.length := (List.getElem?_eq_some_iff.mp (unk_mem.mp hj)).1
      show un m j + 1 = un (a :: m) j
      rw [un_miss ha m (by omega)]
theorem emb_all : ∀ m : List Nat, emb m (List.replicate (m.count 45) 45) = m
  | [] => rfl
  | a :: m => by
    by_cases ha : a = 45
    · subst ha
      rw [cnt_hit, List.replicate_succ, emb_hit, emb_all m]
    · rw [cnt_miss ha, emb_miss ha, emb_all m]
theorem emb_no {m q : List Nat} (h : q.length = m.count 45) (hq : 45 ∉ q) : 45 ∉ emb m q := by
  rw [← unk_nil, unk_emb m q h, unk_nil.mpr hq]
  rfl
theorem emb_snoc45 : ∀ (m u : List Nat) (b : Nat), u.length = m.count 45 → emb (m ++ [45]) (u ++ [b]) = emb m u ++ [b]
  | [], u, b, h => by
    have : u = [] := List.length_eq_zero_iff.mp h
    subst this
    rfl
  | a :: m, u, b, h => by
    by_cases ha : a = 45
    · subst ha
      rw [cnt_hit] at h
      match u, h with
      | c :: u, h =>
        rw [List.cons_append, List.cons_append, emb_hit, emb_hit, emb_snoc45 m u b (by simpa using h), List.cons_append]
    · rw [cnt_miss ha] at h
      rw [List.cons_append, emb_miss ha, emb_miss ha, emb_snoc45 m u b h, List.cons_append]
theorem emb_snoc {a : Nat} (ha : a ≠ 45) : ∀ (m u : List Nat), u.length = m.count 45 → emb (m ++ [a]) u = emb m u ++ [a]
  | [], u, h => by
    show emb [a] u = emb [] u ++ [a]
    rw [emb_miss ha]
    rfl
  | c :: m, u, h => by
    by_cases hc : c = 45
    · subst hc
      rw [cnt_hit] at h
      match u, h with
      | b :: u, h =>
        rw [List.cons_append, emb_hit, emb_hit, emb_snoc ha m u (by simpa using h), List.cons_append]
    · rw [cnt_miss hc] at h
      rw [List.cons_append, emb_miss hc, emb_miss hc, emb_snoc ha m u h, List.cons_append]
end K41

namespace K41
open PySem PySem.Spec PyProof.Rows L2 LA
/-! ### a question restricted: the same patterns -/
theorem step_app (a b : List (List Nat)) (c : List Nat) : step (a ++ b) c = step a c ++ step b c := by
  unfold step
  rw [List.flatMap_append]
theorem step_pre (u : List Nat) (c : List Nat) : ∀ ws : List (List Nat), step (ws.map (u ++ ·)) c = (step ws c).map (u ++ ·)
  | [] => rfl
  | w :: r => by
    have ih := step_pre u c r
    have e1 : step ((w :: r).map (u ++ ·)) c = c.map (fun a => (u ++ w) ++ [a]) ++ step (r.map (u ++ ·)) c := rfl
    have e2 : step (w :: r) c = c.map (fun a => w ++ [a]) ++ step r c := rfl
    rw [e1, e2, ih, List.map_append, List.map_map]
    congr 1
    refine List.map_congr_left fun a _ => ?_
    show u ++ w ++ [a] = u ++ (w ++ [a])
    rw [List.append_assoc]
theorem words_app2 : ∀ (cs a b : List (List Nat)), wordsV (a ++ b) cs = wordsV a cs ++ wordsV b cs
  | [], a, b => rfl
  | c :: cs, a, b => by
    show wordsV (step (a ++ b) c) cs = wordsV (step a c) cs ++ wordsV (step b c) cs
    rw [step_app, words_app2]
theorem words_pre (u : List Nat) : ∀ (cs ws : List (List Nat)), wordsV (ws.map (u ++ ·)) cs = (wordsV ws cs).map (u ++ ·)
  | [], ws => rfl
  | c :: cs, ws => by
    show wordsV (step (ws.map (u ++ ·)) c) cs = (wordsV (step ws c) cs).map (u ++ ·)
    rw [step_pre, words_pre]
theorem ins_cons (k : Nat) : insT (k + 1) = (insT k).map (48 :: ·) ++ (insT k).map (49 :: ·) := by
  have e : insT (k + 1) = wordsV ([[48]] ++ [[49]]) (List.replicate k bins) := rfl
  rw [e, words_app2]
  have p : ∀ a : Nat, wordsV [[a]] (List.replicate k bins) = (insT k).map (a :: ·) := fun a => words_pre [a] (List.replicate k bins) [[]]
  rw [p, p]
theorem fitW_hit (m : List Nat) : fitW (45 :: m) = (fitW m).map (48 :: ·) ++ (fitW m).map (49 :: ·) := by
  have e : fitW (45 :: m) = wordsV ([[48]] ++ [[49]]) (m.map chc) := rfl
  rw [e, words_app2]
  have p : ∀ a : Nat, wordsV [[a]] (m.map chc) = (fitW m).map (a :: ·) := fun a => words_pre [a] (m.map chc) [[]]
  rw [p, p]
theorem fitW_miss {a : Nat} (ha : a ≠ 45) (m : List Nat) : fitW (a :: m) = (fitW m).map (a :: ·) := by
  have e : fitW (a :: m) = wordsV (step [[]] (chc a)) (m.map chc) := rfl
  have c : chc a = [a] := by unfold chc; rw [if_neg ha]
  rw [e, c]
  exact words_pre [a] (m.map chc) [[]]
theorem fitW_emb : ∀ m : List Nat, fitW m = (insT (m.count 45)).map (emb m)
  | [] => rfl
  | a :: m => by
    by_cases ha : a = 45
    · subst ha
      rw [fitW_hit, cnt_hit, ins_cons, fitW_emb m, List.map_append, List.map_map, List.map_map, List.map_map, List.map_map]
      exact congr (congrArg _ (List.map_congr_left fun u _ => (emb_hit m u 48).symm)) (List.map_congr_left fun u _ => (emb_hit m u 49).symm)
    · rw [fitW_miss ha, cnt_miss ha, fitW_emb m, List.map_map]
      exact List.map_congr_left fun u _ => (emb_miss ha m u).symm
theorem ins_mem {n : Nat} {p : List Nat} : p ∈ insT n ↔ p.length = n ∧ ∀ c ∈ p, c ∈ bins := strs_mem bins
theorem ans_rest {l m u : List Nat} (hu : u ∈ insT (m.count 45)) : ansV (restL l m) u = ansV l (emb m u) := by
  obtain ⟨j, hj, e⟩ := List.getElem_of_mem hu
  have hj2 : j < 2 ^ m.count 45 := by rwa [insT_len] at hj
  have pl := place_at (m.count 45) j hj2
  rw [List.getD_eq_getElem?_getD, List.getElem?_eq_getElem hj] at pl
  have pl : binNum (48 :: u) = j := by rw [← e]; exact pl
  unfold ansV
  have g : (restL l m).getD (binNum (48 :: u)) 0 = l.getD (binNum (48 :: emb m u)) 0 := by
    rw [pl]
    unfold restL takL
    rw [fitW_emb, List.map_map, List.getD_eq_getElem?_getD, List.getElem?_map, List.getElem?_eq_getElem hj, e]
    rfl
  rw [g]
theorem pats_cases {c : Nat} (h : c ∈ pats) : c = 45 ∨ c ∈ bins := pat_of h
theorem sett_rest {l m : List Nat} (hm : ∀ c ∈ m, c ∈ pats) : ∀ (k : Nat) (q : List Nat), q.count 45 = k → q.length = m.count 45 → (∀ c ∈ q, c ∈ pats) → sett (restL l m) q = sett l (emb m q) := by
  intro k
  induction k with
  | zero =>
    intro q hk hl hq
    have h45 : 45 ∉ q := List.count_eq_zero.mp hk
    rw [sett_no h45, sett_no (emb_no hl h45)]
    refine congrArg some (ans_rest (ins_mem.mpr ⟨hl, fun c hc => ?_⟩))
    rcases pats_cases (hq c hc) with rfl | z
    · exact absurd hc h45
    · exact z
  | succ k ih =>
    intro q hk hl hq
    have h45 : 45 ∈ q := List.count_pos_iff.mp (by omega)
    have hu : 0 < (unk q).length := by rw [unk_len]; omega
    have hf : fi 45 (emb m q) = un m (fi 45 q) := by
      have e45 : 45 ∈ emb m q := by
        have : 0 < (unk (emb m q)).length := by rw [unk_emb m q hl, List.length_map]; exact hu
        rw [unk_len] at this
        exact List.count_pos_iff.mp this
      rw [fi_unk e45, fi_unk h45, unk_emb m q hl, List.getD_eq_getElem?_getD, List.getD_eq_getElem?_getD, List.getElem?_map, List.getElem?_eq_getElem hu]
      rfl
    have fl := fi_lt h45
    have one : ∀ b, b = 48 ∨ b = 49 → sett (restL l m) (q.set (fi 45 q) b) = sett l ((emb m q).set (un m (fi 45 q)) b) := fun b hb => by
      rw [← emb_set m q (fi 45 q) b hl (by omega)]
      refine ih _ ?_ (by rw [List.length_set]; exact hl) fun c hc => ?_
      · have := count_setA (c := b) (by omega) (fi_at h45)
        omega
      · rcases List.mem_or_eq_of_mem_set hc with z | z
        · exact hq c z
        · rw [z]
          rcases hb with rfl | rfl <;> decide
    have e45 : 45 ∈ emb m q := by
      have : 0 < (unk (emb m q)).length := by rw [unk_emb m q hl, List.length_map]; exact hu
      rw [unk_len] at this
      exact List.count_pos_iff.mp this
    rw [sett_yes h45, sett_yes e45, hf, one 48 (.inl rfl), one 49 (.inr rfl)]
theorem rest_many {l m : List Nat} (h6 : m.length ≤ 6) : manyOf (restL l m) = m.count 45 := by
  refine many_pow (Nat.le_trans (List.count_le_length ..) h6) ?_
  unfold restL takL
  rw [List.length_map, fit_len]
/-! ### the fewest looks -/
def minL : List Nat → Nat
  | [] => 0
  | a :: r => r.foldl min a
theorem fold_le : ∀ (r : List Nat) (a : Nat), r.foldl min a ≤ a ∧ (∀ y ∈ r, r.foldl min a ≤ y) ∧ (r.foldl min a = a ∨ r.foldl min a ∈ r)
  | [], a => ⟨Nat.le_refl _, (fun _ h => nomatch h), .inl rfl⟩
  | b :: r, a => by
    obtain ⟨h1, h2, h3⟩ := fold_le r (min a b)
    show r.foldl min (min a b) ≤ a ∧ (∀ y ∈ b :: r, r.foldl min (min a b) ≤ y) ∧ (r.foldl min (min a b) = a ∨ r.foldl min (min a b) ∈ b :: r)
    refine ⟨by omega, fun y hy => ?_, ?_⟩
    · rcases List.mem_cons.mp hy with rfl | hy
      · omega
      · exact h2 y hy
    · rcases h3 with h3 | h3
      · rw [h3]
        by_cases h : a ≤ b
        · exact .inl (Nat.min_eq_left h)
        · exact .inr (by rw [Nat.min_eq_right (by omega)]; exact List.mem_cons_self)
      · exact .inr (List.mem_cons_of_mem _ h3)
theorem minL_le {xs : List Nat} {y : Nat} (h : y ∈ xs) : minL xs ≤ y := by
  cases xs with
  | nil => cases h
  | cons a r =>
    obtain ⟨h1, h2, _⟩ := fold_le r a
    rcases List.mem_cons.mp h with rfl | h
    · exact h1
    · exact h2 y h
theorem minL_mem {xs : List Nat} (h : xs ≠ []) : minL xs ∈ xs := by
  cases xs with
  | nil => exact absurd rfl h
  | cons a r =>
    obtain ⟨_, _, h3⟩ := fold_le r a
    rcases h3 with h3 | h3
    · show r.foldl min a ∈ a :: r
      rw [h3]
      exact List.mem_cons_self
    · exact List.mem_cons_of_mem _ h3
def cstF (l : List Nat) : Nat → List Nat → Nat
  | 0, _ => 0
  | k + 1, p => if sett l p = none then minL ((unk p).map fun i => 1 + max (cstF l k (p.set i 48)) (cstF l k (p.set i 49))) else 0
def cst (l p : List Nat) : Nat := cstF l (p.count 45) p
def cs1 (l p : List Nat) (i : Nat) : Nat := 1 + max (cst l (p.set i 48)) (cst l (p.set i 49))
theorem none_45 {l p : List Nat} (h : sett l p = none) : 45 ∈ p := Decidable.byContradiction fun z => by
  rw [sett_no z] at h
  cases h
theorem cst_no {l p : List Nat} (h : sett l p ≠ none) : cst l p = 0 := by
  unfold cst
  cases p.count 45 with
  | zero => rfl
  | succ k =>
    show (if sett l p = none then _ else 0) = 0
    rw [if_neg h]
theorem cst_yes {l p : List Nat} (h : sett l p = none) : cst l p = minL ((unk p).map (cs1 l p)) := by
  have h45 := none_45 h
  have hp : 0 < p.count 45 := List.count_pos_iff.mpr h45
  obtain ⟨k, hk⟩ : ∃ k, p.count 45 = k + 1 := ⟨p.count 45 - 1, by omega⟩
  unfold cst
  rw [hk]
  show (if sett l p = none then _ else 0) = _
  rw [if_pos h]
  refine congrArg minL (List.map_congr_left fun i hi => ?_)
  have hi := unk_mem.mp hi
  have a := count_setA (c := 48) (by decide) hi
  have b := count_setA (c := 49) (by decide) hi
  unfold cs1 cst
  rw [show (p.set i 48).count 45 = k by omega, show (p.set i 49).count 45 = k by omega]
theorem unk_ne {l p : List Nat} (h : sett l p = none) : unk p ≠ [] := fun z => (unk_nil.mp z) (none_45 h)
theorem cst_mem {l p : List Nat} (h : sett l p = none) : ∃ i ∈ unk p, cs1 l p i = cst l p := by
  rw [cst_yes h]
  obtain ⟨i, hi, e⟩ := List.mem_map.mp (minL_mem (xs := (unk p).map (cs1 l p)) (by rw [Ne, List.map_eq_nil_iff]; exact unk_ne h))
  exact ⟨i, hi, e⟩
theorem cst_le {l p : List Nat} (h : sett l p = none) {i : Nat} (hi : i ∈ unk p) : cst l p ≤ cs1 l p i := by
  rw [cst_yes h]
  exact minL_le (List.mem_map.mpr ⟨i, hi, rfl⟩)
theorem cst_pos {l p : List Nat} : 0 < cst l p ↔ sett l p = none := by
  constructor
  · intro h
    exact Decidable.byContradiction fun z => by rw [cst_no z] at h; exact Nat.lt_irrefl 0 h
  · intro h
    obtain ⟨i, _, e⟩ := cst_mem h
    rw [← e]
    unfold cs1
    omega
theorem cst_cnt (l : List Nat) : ∀ (k : Nat) (p : List Nat), p.count 45 = k → cst l p ≤ k := by
  intro k
  induction k with
  | zero =>
    intro p h
    unfold cst
    rw [h]
    exact Nat.le_refl _
  | succ k ih =>
    intro p h
    by_cases hs : sett l p = none
    · obtain ⟨i, hi, e⟩ := cst_mem hs
      rw [← e]
      have hi := unk_mem.mp hi
      have a := count_setA (c := 48) (by decide) hi
      have b := count_setA (c := 49) (by decide) hi
      have h1 := ih (p.set i 48) (by omega)
      have h2 := ih (p.set i 49) (by omega)
      unfold cs1
      omega
    · rw [cst_no hs]
      omega
theorem cst_rest {l m : List Nat} (hm : ∀ c ∈ m, c ∈ pats) : ∀ (k : Nat) (q : List Nat), q.count 45 = k → q.length = m.count 45 → (∀ c ∈ q, c ∈ pats) → cst (restL l m) q = cst l (emb m q) ∧ ∀ j ∈ unk q, cs1 (restL l m) q j = cs1 l (emb m q) (un m j) := by
  intro k
  induction k with
  | zero =>
    intro q hk hl hq
    have h45 : 45 ∉ q := List.count_eq_zero.mp hk
    refine ⟨?_, fun j hj => absurd hj (by rw [unk_nil.mpr h45]; exact fun z => nomatch z)⟩
    rw [cst_no (by rw [sett_no h45]; exact fun z => nomatch z), cst_no (by rw [sett_no (emb_no hl h45)]; exact fun z => nomatch z)]
  | succ k ih =>
    intro q hk hl hq
    have c1 : ∀ j ∈ unk q, cs1 (restL l m) q j = cs1 l (emb m q) (un m j) := fun j hj => by
      have hj' := unk_mem.mp hj
      have jl := (List.getElem?_eq_some_iff.mp hj').1
      have one : ∀ b, b = 48 ∨ b = 49 → cst (restL l m) (q.set j b) = cst l ((emb m q).set (un m j) b) := fun b hb => by
        rw [← emb_set m q j b hl (by omega)]
        refine (ih _ ?_ (by rw [List.length_set]; exact hl) fun c hc => ?_).1
        · have := count_setA (c := b) (by omega) hj'
          omega
        · rcases List.mem_or_eq_of_mem_set hc with z | z
          · exact hq c z
          · rw [z]
            rcases hb with rfl | rfl <;> decide
      unfold cs1
      rw [one 48 (.inl rfl), one 49 (.inr rfl)]
    refine ⟨?_, c1⟩
    have es := sett_rest (l := l) hm (k + 1) q hk hl hq
    by_cases hs : sett (restL l m) q = none
    · rw [cst_yes hs, cst_yes (by rw [← es]; exact hs), unk_emb m q hl, List.map_map]
      exact congrArg minL (List.map_congr_left fun j hj => c1 j hj)
    · rw [cst_no hs, cst_no (by rw [← es]; exact hs)]
end K41

/-! min of pairs of numbers -/
namespace LA
open PySem PySem.W PySem.Spec PyProof.Rows L2
/-! ### pairs of a number and a text -/
def piD (x : Int × Int) : D := .tup [.int x.1, .int x.2]
def pyI2 (x : Int × Int) : PyData := .tuple [.int x.1, .int x.2]
theorem toPy_piD (x : Int × Int) : toPy (piD x) = pyI2 x := by
  unfold piD pyI2 toPy toPys toPys toPys toPy
  rfl
theorem toPys_piD : ∀ xs : List (Int × Int), toPys (xs.map piD) = xs.map pyI2
  | [] => by rw [List.map_nil, List.map_nil, toPys]
  | x :: r => by rw [List.map_cons, List.map_cons, toPys, toPy_piD, toPys_piD r]
theorem pyI2_inj {x y : Int × Int} (h : pyI2 x = pyI2 y) : x = y := by
  obtain ⟨a, b⟩ := x
  obtain ⟨c, d⟩ := y
  have h1 := PyData.tuple.inj h
  simp only [List.cons.injEq, PyData.int.injEq, PyData.int.injEq, and_true] at h1
  rw [h1.1, h1.2]
/-- not above, place by place -/
def lexP (y z : Int × Int) : Prop := y.1 < z.1 ∨ (y.1 = z.1 ∧ y.2 ≤ z.2)
theorem lt_pi (x y : Int × Int) : dataLt (pyI2 x) (pyI2 y) = decide (x.1 < y.1 ∨ (x.1 = y.1 ∧ x.2 < y.2)) := dataLt_ii x.1 x.2 y.1 y.2
theorem min_pi : ∀ (xs : List (Int × Int)) (x : Int × Int), ∃ y ∈ x :: xs, PySem.W.minD (pyI2 x) (xs.map pyI2) = pyI2 y ∧ ∀ z ∈ x :: xs, lexP y z
  | [], x => ⟨x, List.mem_cons_self, rfl, fun z hz => by rw [List.mem_singleton.mp hz]; exact .inr ⟨rfl, Int.le_refl _⟩⟩
  | a :: r, x => by
    have e : PySem.W.minD (pyI2 x) ((a :: r).map pyI2) = PySem.W.minD (if dataLt (pyI2 a) (pyI2 x) then pyI2 a else pyI2 x) (r.map pyI2) := rfl
    have tr : ∀ {u v w : Int × Int}, lexP u v → lexP v w → lexP u w := fun {u v w} h1 h2 => by
      unfold lexP at *
      omega
    rw [e]
    cases q : dataLt (pyI2 a) (pyI2 x) with
    | true =>
      rw [if_pos rfl]
      obtain ⟨y, h1, h2, h3⟩ := min_pi r a
      have l : lexP a x := by
        rw [lt_pi] at q
        have := of_decide_eq_true q
        unfold lexP
        omega
      refine ⟨y, List.mem_cons_of_mem _ h1, h2, fun z hz => ?_⟩
      rcases List.mem_cons.mp hz with rfl | hz
      · exact tr (h3 a List.mem_cons_self) l
      · exact h3 z hz
    | false =>
      rw [if_neg Bool.false_ne_true]
      obtain ⟨y, h1, h2, h3⟩ := min_pi r x
      have l : lexP x a := by
        rw [lt_pi] at q
        have := of_decide_eq_false q
        unfold lexP
        omega
      refine ⟨y, ?_, h2, fun z hz => ?_⟩
      · rcases List.mem_cons.mp h1 with rfl | h1
        · exact List.mem_cons_self
        · exact List.mem_cons_of_mem _ (List.mem_cons_of_mem _ h1)
      · rcases List.mem_cons.mp hz with rfl | hz
        · exact h3 z List.mem_cons_self
        · rcases List.mem_cons.mp hz with rfl | hz
          · exact tr (h3 x List.mem_cons_self) l
          · exact h3 z (List.mem_cons_of_mem _ hz)
theorem ok_pis : ∀ xs : List (Int × Int), okDs false (xs.map piD) = true
  | [] => rfl
  | x :: r => by
    show (okD false (piD x) && okDs false (r.map piD)) = true
    rw [ok_pis r]
    rfl
theorem dp_pis : ∀ xs : List (Int × Int), PyData.depthAll (xs.map pyI2) ≤ 2
  | [] => Nat.zero_le _
  | x :: r => by
    have := dp_pis r
    have e : (pyI2 x).depth ≤ 2 := by
      unfold pyI2 PyData.depth PyData.depthAll PyData.depthAll PyData.depthAll PyData.depth
      decide
    rw [List.map_cons, PyData.depthAll]
    omega
theorem al_pis (xs : List (Int × Int)) : PySem.W.AlikeAll (xs.map pyI2) := by
  refine ⟨fun x hx y hy => ?_, fun x hx => ?_⟩
  · obtain ⟨a, _, rfl⟩ := List.mem_map.mp hx
    obtain ⟨b, _, rfl⟩ := List.mem_map.mp hy
    unfold pyI2 alike alikeAll alikeAll alikeAll alike
    rfl
  · obtain ⟨a, _, rfl⟩ := List.mem_map.mp hx
    unfold pyI2
    exact fun z => nomatch z
theorem cv_minPI {K : PySem.W.Frag} {p : HD} {c : PC} {g : G} (x : Int × Int) (xs : List (Int × Int)) : ∃ y ∈ x :: xs, (∀ z ∈ x :: xs, lexP y z) ∧ CV K p (rMinD K) [.lst g ((x :: xs).map piD)] (piD y) false c := by
  obtain ⟨y, h1, h2, h3⟩ := min_pi xs x
  refine ⟨y, h1, h3, fun vs H Q dvs hp k => ?_⟩
  cases dvs with
  | cons h r =>
    cases r
    cases h with
    | lst hb hq ha =>
      have tp : toPys (piD x :: xs.map piD) = (x :: xs).map pyI2 := toPys_piD (x :: xs)
      refine ⟨p, _, _, piD x, xs.map piD, rfl, un_sqL hq, ha, ok_pis (x :: xs), by rw [tp]; exact al_pis _, by rw [tp]; exact Nat.le_trans (dp_pis _) (by decide), fun i v e hv he q => ?_⟩
      rw [toPy_piD, toPys_piD, h2] at q
      have he' : ((x :: xs).map piD)[i]? = some e := he
      rw [List.getElem?_map] at he'
      cases w : (x :: xs)[i]? with
      | none =>
        rw [w] at he'
        cases he'
      | some z =>
        rw [w] at he'
        have ee := (Option.some.inj he').symm
        subst ee
        rw [toPy_piD] at q
        have ez := pyI2_inj q
        subst ez
        obtain ⟨v', hv', dv'⟩ := ha.get he
        rw [hv] at hv'
        cases hv'
        exact k v H (Ext.refl p H) hp dv' fun z => nomatch z
end LA

namespace K41
open PySem PySem.Spec PyProof.Rows L2 LA
/-! ### the best place, trees, dicts over patterns -/
def fstL (l p : List Nat) (s : Nat) : List Nat := (unk p).filter fun i => decide (cs1 l p i ≤ cst l p + s)
def bst (l p : List Nat) : Nat := (fstL l p 0).getD 0 0
theorem unk_pw (p : List Nat) : (unk p).Pairwise (· < ·) := List.pairwise_lt_range.sublist List.filter_sublist
theorem bst_ok {l p : List Nat} (h : sett l p = none) : bst l p ∈ unk p ∧ cs1 l p (bst l p) = cst l p ∧ ∀ i ∈ unk p, cs1 l p i = cst l p → bst l p ≤ i := by
  have mem : ∀ i, i ∈ fstL l p 0 ↔ i ∈ unk p ∧ cs1 l p i = cst l p := fun i => by
    unfold fstL
    rw [List.mem_filter, decide_eq_true_eq]
    constructor
    · rintro ⟨h1, h2⟩
      have := cst_le h h1
      exact ⟨h1, by omega⟩
    · rintro ⟨h1, h2⟩
      exact ⟨h1, by omega⟩
  have pw : (fstL l p 0).Pairwise (· < ·) := (unk_pw p).sublist List.filter_sublist
  obtain ⟨i0, hi0, e0⟩ := cst_mem h
  have m0 := (mem i0).mpr ⟨hi0, e0⟩
  unfold bst
  cases q : fstL l p 0 with
  | nil =>
    rw [q] at m0
    cases m0
  | cons a r =>
    rw [q] at pw
    have ma : a ∈ fstL l p 0 := by rw [q]; exact List.mem_cons_self
    obtain ⟨a1, a2⟩ := (mem a).mp ma
    refine ⟨a1, a2, fun i hi e => ?_⟩
    have mi := (mem i).mpr ⟨hi, e⟩
    rw [q] at mi
    rcases List.mem_cons.mp mi with rfl | mi
    · exact Nat.le_refl _
    · exact Nat.le_of_lt ((List.pairwise_cons.mp pw).1 i mi)
def prI (l p : List Nat) (i : Nat) : Int × Int := (((cs1 l p i : Nat) : Int), ((i : Nat) : Int))
/-- the least of the pairs -/
theorem least_pr {l p : List Nat} (h : sett l p = none) {y : Int × Int} (hy : y ∈ (unk p).map (prI l p)) (hm : ∀ z ∈ (unk p).map (prI l p), lexP y z) : y = (((cst l p : Nat) : Int), ((bst l p : Nat) : Int)) := by
  obtain ⟨i, hi, rfl⟩ := List.mem_map.mp hy
  obtain ⟨b1, b2, b3⟩ := bst_ok h
  have c := cst_le h hi
  have q := hm _ (List.mem_map.mpr ⟨_, b1, rfl⟩)
  unfold lexP prI at q
  rw [b2] at q
  have q : ((cs1 l p i : Nat) : Int) < ((cst l p : Nat) : Int) ∨ (((cs1 l p i : Nat) : Int) = ((cst l p : Nat) : Int) ∧ ((i : Nat) : Int) ≤ ((bst l p : Nat) : Int)) := q
  have e1 : cs1 l p i = cst l p := by omega
  have b4 := b3 i hi e1
  have e2 : i = bst l p := by omega
  unfold prI
  rw [e1, ← e2]
/-! dicts over patterns -/
def mpK (f : List Nat → D) (ps : List (List Nat)) : List (Key × D) := ps.map fun p => (.inr (tx p), f p)
theorem mpK_at (f : List Nat → D) {p : List Nat} : ∀ {ps : List (List Nat)}, p ∈ ps → valD (mpK f ps) (.inr (tx p)) = some (f p)
  | a :: r, h => by
    by_cases e : a = p
    · rw [e]
      exact valD_pos rfl
    · have h : p ∈ r := (List.mem_cons.mp h).resolve_left fun z => e z.symm
      refine (valD_neg fun z => e ?_).trans (mpK_at f h)
      exact tx_inj (Sum.inr.inj z)
theorem mpK_put (f : List Nat → D) {p : List Nat} {ps : List (List Nat)} (h : p ∉ ps) : putD2 (mpK f ps) (.inr (tx p)) (f p) = mpK f (ps ++ [p]) := by
  unfold putD2
  rw [if_neg]
  · unfold mpK
    rw [List.map_append]
    rfl
  · intro z
    rw [List.any_eq_true] at z
    obtain ⟨x, hx, e⟩ := z
    obtain ⟨q, hq, rfl⟩ := List.mem_map.mp hx
    have e := tx_inj (Sum.inr.inj (of_decide_eq_true e))
    rw [e] at hq
    exact h hq
theorem mpK_len (f : List Nat → D) (ps : List (List Nat)) : (mpK f ps).length = ps.length := List.length_map ..
theorem mpK_low (f : List Nat → D) (n : Nat) (hf : ∀ p, lowD n (f p) = true) : ∀ ps : List (List Nat), lowDk n (mpK f ps) = true
  | [] => rfl
  | a :: r => by
    show (lowD n (f a) && lowDk n (mpK f r)) = true
    rw [hf, mpK_low f n hf r]
    rfl
def bsD (l p : List Nat) : D := if sett l p = none then .int ((bst l p : Nat) : Int) else .non
def stD (l p : List Nat) : D := .tup [.int ((cst l p : Nat) : Int), bsD l p]
def cD (l p : List Nat) : D := .int ((cst l p : Nat) : Int)
theorem low_stD (n : Nat) (l p : List Nat) : lowD n (stD l p) = true := by
  show (true && (lowD n (bsD l p) && true)) = true
  unfold bsD
  split <;> rfl
/-! trees -/
def trF (l : List Nat) : Nat → List Nat → D
  | 0, p => oD (sett l p)
  | k + 1, p => if sett l p = none then .tup [.int ((bst l p : Nat) : Int), trF l k (p.set (bst l p) 48), trF l k (p.set (bst l p) 49)] else oD (sett l p)
def tr (l p : List Nat) : D := trF l (p.count 45) p
theorem tr_no {l p : List Nat} (h : sett l p ≠ none) : tr l p = oD (sett l p) := by
  unfold tr
  cases p.count 45 with
  | zero => rfl
  | succ k =>
    show (if sett l p = none then _ else _) = _
    rw [if_neg h]
theorem tr_yes {l p : List Nat} (h : sett l p = none) : tr l p = .tup [.int ((bst l p : Nat) : Int), tr l (p.set (bst l p) 48), tr l (p.set (bst l p) 49)] := by
  have hp : 0 < p.count 45 := List.count_pos_iff.mpr (none_45 h)
  obtain ⟨k, hk⟩ : ∃ k, p.count 45 = k + 1 := ⟨p.count 45 - 1, by omega⟩
  have b := unk_mem.mp (bst_ok h).1
  have c1 := count_setA (c := 48) (by decide) b
  have c2 := count_setA (c := 49) (by decide) b
  unfold tr
  rw [hk, show (p.set (bst l p) 48).count 45 = k by omega, show (p.set (bst l p) 49).count 45 = k by omega]
  show (if sett l p = none then _ else _) = _
  rw [if_pos h]
theorem sett_01 (l : List Nat) : ∀ (k : Nat) (p : List Nat) (a : Int), p.count 45 = k → sett l p = some a → a = 0 ∨ a = 1 := by
  intro k
  induction k with
  | zero =>
    intro p a hk h
    rw [sett_no (List.count_eq_zero.mp hk)] at h
    have e := Option.some.inj h
    unfold ansV at e
    split at e <;> omega
  | succ k ih =>
    intro p a hk h
    have h45 : 45 ∈ p := List.count_pos_iff.mp (by omega)
    rw [sett_yes h45] at h
    split at h
    · have := count_setA (c := 48) (by decide) (fi_at h45)
      exact ih _ a (by omega) h
    · cases h
def wt : Nat → Nat
  | 0 => 100
  | k + 1 => (wt k + 1) * 3 + 10
theorem wt_up : ∀ k, 100 ≤ wt k
  | 0 => Nat.le_refl _
  | k + 1 => by
    have := wt_up k
    show 100 ≤ (wt k + 1) * 3 + 10
    omega
theorem tiny_i {i : Nat} (h : i < 10) : Tiny 100 0 (.int ((i : Nat) : Int)) := tiny_small (d := .int ((i : Nat) : Int)) (show smallI _ = true by unfold smallI; rw [decide_eq_true (by omega), decide_eq_true (by omega)]; rfl)
theorem tiny_o (l p : List Nat) : Tiny 100 0 (oD (sett l p)) := by
  cases h : sett l p with
  | none => exact tiny_small rfl
  | some a =>
    rcases sett_01 l _ p a rfl h with rfl | rfl
    · exact tiny_small (by decide)
    · exact tiny_small (by decide)
theorem trF_tiny (l : List Nat) : ∀ (k : Nat) (p : List Nat), p.length ≤ 6 → Tiny (wt k) k (trF l k p)
  | 0, p, _ => tiny_o l p
  | k + 1, p, h6 => by
    have up : ∀ {d}, Tiny 100 0 d → Tiny (wt k) k d := fun t => t.up (wt_up k) (Nat.zero_le _)
    by_cases h : sett l p = none
    · show Tiny (wt (k + 1)) (k + 1) (if sett l p = none then _ else _)
      rw [if_pos h]
      have b := (List.getElem?_eq_some_iff.mp (unk_mem.mp (bst_ok h).1)).1
      refine Tiny.tup (n := 3) (fun d hd => ?_) (Nat.le_refl 3)
      simp only [List.mem_cons, List.not_mem_nil, or_false] at hd
      rcases hd with rfl | rfl | rfl
      · exact up (tiny_i (by omega))
      · exact trF_tiny l k _ (by rw [List.length_set]; exact h6)
      · exact trF_tiny l k _ (by rw [List.length_set]; exact h6)
    · show Tiny (wt (k + 1)) (k + 1) (if sett l p = none then _ else _)
      rw [if_neg h]
      exact (tiny_o l p).up (wt_up _) (Nat.zero_le _)
theorem tr_shows {l p : List Nat} (h6 : p.length ≤ 6) : Shows (tr l p) := by
  have t := trF_tiny l (p.count 45) p h6
  have c := Nat.le_trans (List.count_le_length (a := 45) (l := p)) h6
  have w : ∀ k, k ≤ 6 → wt k ≤ 1000000 := by decide
  exact t.shows (w _ c) (by omega)
/-! the answer of a settled pattern -/
def zr (p : List Nat) : List Nat := p.map fun c => if c = 45 then 48 else c
theorem zr_no {p : List Nat} (h : 45 ∉ p) : zr p = p := by
  unfold zr
  refine (List.map_congr_left fun c hc => ?_).trans (List.map_id p)
  rw [if_neg (fun z => h (by rw [← z]; exact hc))]
  rfl
theorem zr_set {p : List Nat} {i : Nat} (h : p[i]? = some 45) : zr (p.set i 48) = zr p := by
  unfold zr
  rw [List.map_set]
  refine List.ext_getElem? fun j => ?_
  by_cases e : i = j
  · subst e
    have hl := (List.getElem?_eq_some_iff.mp h).1
    rw [List.getElem?_set_self (by rw [List.length_map]; exact hl), List.getElem?_map, h]
    rfl
  · rw [List.getElem?_set_ne e]
theorem sett_zr (l : List Nat) : ∀ (k : Nat) (p : List Nat) (a : Int), p.count 45 = k → sett l p = some a → ansV l (zr p) = a := by
  intro k
  induction k with
  | zero =>
    intro p a hk h
    have h45 := List.count_eq_zero.mp hk
    rw [sett_no h45] at h
    rw [zr_no h45]
    exact Option.some.inj h
  | succ k ih =>
    intro p a hk h
    have h45 : 45 ∈ p := List.count_pos_iff.mp (by omega)
    rw [sett_yes h45] at h
    split at h
    · have := count_setA (c := 48) (by decide) (fi_at h45)
      rw [← zr_set (fi_at h45)]
      exact ih _ a (by omega) h
    · cases h
/-- the places that are best, or nearly -/
def nxt (l p : List Nat) (s : Nat) : List Nat := if 0 < cst l p then fstL l p s else []
end K41

/-! a def as a value, and called by a local name -/
namespace LA
open PySem PySem.Spec PyProof.Rows L2
section
variable {X : Cx} {W : WX} {p : HD} {ρ : Rho} {c c1 c2 : PC} {e : Expr} {es : List Expr} {pos xp : Pos} {d : D} {nw : Bool} {k i : Nat} {f : Addr} {fd : FuncData} {ps : List Str} {R : FSpec} {x : Str} {ds : List D}
theorem re_gdef (hm : X.mg x = some (.ref f)) (hg : Gl X x := by rfl) (hd : (x == ("__debug__" : Str)) = false := by decide) : RE X W p ρ c (.Name x pos) (.val (.cls f) false c) :=
  pe_imp (pe_glob (v := .ref f) hg hm rfl hd) fun σ H Q ⟨s, kk⟩ => kk _ H (Ext.refl _ _) s.pl (.cls f) fun q => nomatch q
theorem re_callL (i : Nat) (G : FnOk X.prog X.w X.K X.mg X.base CX0 k f fd ps (spF X.K R)) (hr : Room k X.A) (hk : PySem.W.keepIn X.K (.ref f) = true) (hb : Binds X.K fd ps []) (ha : RA X W p ρ c (e :: es) (.val ds c1)) (ho : R ds c1 (.val d nw c2))
    (hρ : ρ[i]? = some (some (.cls f)) := by rfl) (hN : X.N[i]? = some x := by rfl) (hv : Vis X.env.scope x := by first | exact Or.inl rfl | exact Or.inr (Or.inl rfl) | exact Or.inr (Or.inr rfl))
    (hdb : (x == ("__debug__" : Str)) = false := by decide) (hcd : (x == ("__classdict__" : Str)) = false := by decide) (he : starEach (e :: es) X.env = (false, eval e X.env) :: starEach es X.env := by rfl) (hpl : (backTo pos (starEach es X.env)).any (·.1) = false := by rfl) :
    RE X W p ρ c (.Call (.Name x xp) (e :: es) [] pos) (.val d nw c2) :=
  pe_imp (pe_callL (i := i) (dvs := []) (E := E0) G hr hN hv hk hb .nil pass0 ha hdb hcd he hpl) fun σ H Q ⟨s, kk⟩ => by
    obtain ⟨v, h1, h2⟩ := s.at' i _ hρ
    have ev : v = .ref f := by cases h2; rfl
    subst ev
    refine ⟨h1, s, fun vs H1 e1 p1 dvs => ?_⟩
    show spF X.K R (vs ++ []) H1 Q E0
    rw [List.append_nil]
    exact ⟨p, c1, ds, .val d nw c2, dvs, p1, ho, fun v H2 e2 p2 dv hn => kk v H2 (e1.trans e2) p2 dv fun q => (hn q).back e1⟩
end
end LA

namespace K41
open PySem PySem.Spec PyProof.Rows L2 LA
/-! ### open places, the rule, the cost of a look -/
abbrev SaD (P : Program) (w : World) (K : PySem.W.Frag) (mg : Str → Option Value) (base : Heap) (C : Addr) := Def0 P w K mg base 6 "settled_answers" ["question"] (saR C)
def nsD (b : List Nat) : List D := b.map fun i => .int ((i : Nat) : Int)
theorem nsD_len (b : List Nat) : (nsD b).length = b.length := List.length_map ..
theorem ns_at {b : List Nat} {i : Nat} {d : D} (h : (nsD b)[i]? = some d) : d = .int ((b.getD i 0 : Nat) : Int) ∧ b.getD i 0 ∈ b := by
  obtain ⟨e, _, hm, _⟩ := map_at 0 h
  exact ⟨e, hm⟩
def uR : FSpec := fun ds c o => ∃ p : List Nat, ds = [.str (tx p)] ∧ p.length ≤ 100 ∧ o = .val (.lst ⟨false, true⟩ (nsD (unk p))) true c
def omR : FSpec := fun ds c o => ∃ (d1 d2 : D) (a b : Nat), ds = [d1, d2, .int ((a : Nat) : Int), .int ((b : Nat) : Int)] ∧ o = .val (.int ((1 + max a b : Nat) : Int)) true c
/-- the steps as a dict that stands or one that changes -/
def StD (sd : D) (xs : List (Key × D)) (c : PC) : Prop := sd = .dct xs ∨ ∃ k, sd = .mut k ∧ c[k]? = some (.dct xs)
def coR (fo : Addr) : FSpec := fun ds c o => ∃ (sd : D) (xs : List (Key × D)) (p : List Nat) (i a b : Nat) (e1 e2 : D), ds = [sd, .str (tx p), .int ((i : Nat) : Int), .cls fo] ∧ StD sd xs c ∧ i < p.length ∧ p.length ≤ 100 ∧ valD xs (.inr (tx (p.set i 48))) = some (.tup [.int ((a : Nat) : Int), e1]) ∧ valD xs (.inr (tx (p.set i 49))) = some (.tup [.int ((b : Nat) : Int), e2]) ∧ o = .val (.int ((1 + max a b : Nat) : Int)) true c
/-- the rule as a value -/
structure Rule (P : Program) (w : World) (K : PySem.W.Frag) (mg : Str → Option Value) (base : Heap) (fo : Addr) : Prop where
  ex : ∃ fd, FnOk P w K mg base CX0 1 fo fd ["pattern", "position", "low", "high"] (spF K omR) ∧ mg "_one_more" = some (.ref fo) ∧ PySem.W.keepIn K (.ref fo) = true ∧ Binds K fd ["pattern", "position", "low", "high"] []
section
variable {P : Program} {w : World} {K : PySem.W.Frag} {mg : Str → Option Value} {base : Heap} {B BP C fo : Addr}
abbrev nUn : List Str := ["pattern", "at", "letter"]
theorem scUn : FnScope nUn ["pattern"] (defScope (top 19)) := ⟨rfl, rfl, rfl, by decide +kernel, rfl, by decide +kernel, by decide +kernel⟩
theorem ok_un {f : Addr} {fd : FuncData} (G : Glb mg) (F : Fun K "unknown" "unknown" (top 19) f fd) : FnOk P w K mg base CX0 1 f fd ["pattern"] (spF K uR) := by
  refine fn_val F scUn (fun ds c o h => ?_) (fun ds c o h => ?_) (fun cdv A outer s H E hr p ds c o h => ?_)
  · obtain ⟨q, rfl, _⟩ := h
    rfl
  · obtain ⟨q, _, _, rfl⟩ := h
    exact ⟨_, _, _, rfl⟩
  · obtain ⟨q, rfl, hl, rfl⟩ := h
    have e : nsD (unk q) = coll (fun i => decide (chr1 (q.getD i 0) = Str.ofString "-")) (fun i => D.int ((i : Nat) : Int)) (enums q).length := by
      rw [enums_len, coll_some]
      unfold nsD unk
      refine congrArg _ (List.filter_congr fun i _ => decide_eq_decide.mpr ?_)
      constructor
      · intro h
        rw [h]
        decide
      · intro h
        exact chr_eq.mp (h.trans (show Str.ofString "-" = chr1 45 by decide))
    refine .inl (rss_ret (rs_ret ?_))
    rw [e]
    refine re_lc (own := [("at", 1), ("letter", 2)]) (g := gTup K 2 (gCons (gName 1) (gCons (gName 2) gNil))) _ _ (fun _ => c) (fun _ => c) (fun i => [some (.str (tx q)), some (.int (i : Nat)), some (.str (chr1 (q.getD i 0)))]) (fun _ => false) rfl scUn.nd (ri_enumS G.enu (re_var 0)) (blkOk_by (N := nUn) (sc := defScope (top 19)) (by decide +kernel)) (fun _ _ _ _ _ => pg_tup rfl (pgs_cons (pg_name (i := 1) scUn.nd rfl (Or.inl rfl)) (pgs_cons (pg_name (i := 2) scUn.nd rfl (Or.inl rfl)) pgs_nil))) (fun i d h => ?_) (fun i d h q s H C cl fp => ?_) (fun i d h hb q s H C cl fp => ?_) (fun i d h hb => rfl) (by rw [enums_len]; omega)
    · obtain ⟨rfl, _⟩ := enums_at h
      exact tg_two (by decide) (by decide)
    · exact pts_one (rt_cmp op_eq (re_var 2) re_str ov_eqT)
    · exact re_var 1
abbrev UnD (P : Program) (w : World) (K : PySem.W.Frag) (mg : Str → Option Value) (base : Heap) := Def0 P w K mg base 1 "unknown" ["pattern"] uR
theorem max_nat (a b : Nat) : (1 : Int) + (if ((a : Nat) : Int) < ((b : Nat) : Int) then ((b : Nat) : Int) else ((a : Nat) : Int)) = ((1 + max a b : Nat) : Int) := by
  split <;> omega
theorem ok_om {f : Addr} {fd : FuncData} (G : Glb mg) (F : Fun K "_one_more" "_one_more" (top 38) f fd) : FnOk P w K mg base CX0 1 f fd ["pattern", "position", "low", "high"] (spF K omR) := by
  refine fn_val F (N := ["pattern", "position", "low", "high"]) ⟨rfl, rfl, rfl, by decide +kernel, rfl, by decide +kernel, by decide +kernel⟩ (fun ds c o h => ?_) (fun ds c o h => ?_) (fun cdv A outer s H E hr p ds c o h => ?_)
  · obtain ⟨d1, d2, a, b, rfl, _⟩ := h
    rfl
  · obtain ⟨d1, d2, a, b, _, rfl⟩ := h
    exact ⟨_, _, _, rfl⟩
  · obtain ⟨d1, d2, a, b, rfl, rfl⟩ := h
    exact .inl (rss_ret (rs_ret (re_to (re_bin op_add re_int (re_callB (call_max2 rfl) G.max PyProof.Rows.boot_max (ra_cons (re_var 2) (ra_cons (re_var 3) ra_nil)) cv_max2) ov_ii) (congrArg D.int (max_nat a b)))))
abbrev nCo : List Str := ["steps", "pattern", "position", "rule", "low", "high"]
theorem scCo : FnScope nCo ["steps", "pattern", "position", "rule"] (defScope (top 40)) := ⟨rfl, rfl, rfl, by decide +kernel, rfl, by decide +kernel, by decide +kernel⟩
theorem ok_co {f : Addr} {fd : FuncData} (TB : BrD P w K mg base) (R : Rule P w K mg base fo) (F : Fun K "_cost" "_cost" (top 40) f fd) : FnOk P w K mg base CX0 3 f fd ["steps", "pattern", "position", "rule"] (spF K (coR fo)) := by
  obtain ⟨fdo, r1, r2, r3, r4⟩ := R.ex
  refine fn_val F scCo (fun ds c o h => ?_) (fun ds c o h => ?_) (fun cdv A outer s H E hr p ds c o h => ?_)
  · obtain ⟨sd, xs, q, i, a, b, e1, e2, rfl, _⟩ := h
    rfl
  · obtain ⟨sd, xs, q, i, a, b, e1, e2, _, _, _, _, _, _, rfl⟩ := h
    exact ⟨_, _, _, rfl⟩
  · obtain ⟨sd, xs, q, i, a, b, e1, e2, rfl, hs, hi, hl, v1, v2, rfl⟩ := h
    have hu1 : (cxOf CX0 P w K mg base nCo "_cost" (defScope (top 40)) f cdv A outer s H E).nox.A.units + 1 < cLine := Nat.lt_of_le_of_lt (Nat.add_le_add_left (show 1 ≤ 64 by decide) _) hr.units
    refine .inl (rss_cons (c1 := c) (ρ1 := [some sd, some (.str (tx q)), some (.int ((i : Nat) : Int)), some (.cls fo), some (.str (tx (q.set i 48))), some (.str (tx (q.set i 49)))]) (rs_tg (d := .tup [.str (tx (nw q ((i : Nat) : Int) 48)), .str (tx (nw q ((i : Nat) : Int) 49))]) (nw := true) (re_c0 TB hr (ra_cons (re_var 1) (ra_cons (re_var 2) ra_nil)) ⟨q, _, rfl, by omega, by rw [Int.toNat_natCast]; exact hi, by omega, rfl⟩) (pg_tup rfl (pgs_cons (pg_name (i := 4) scCo.nd rfl (Or.inl rfl)) (pgs_cons (pg_name (i := 5) scCo.nd rfl (Or.inl rfl)) pgs_nil))) (tg_two (vs := [4, 5]) (by decide) (by decide))) (rss_ret (rs_ret ?_)))
    rcases hs with rfl | ⟨k, rfl, hk⟩
    · exact re_callL 3 r1 (hr.mono (by decide)) r3 r4 (ra_cons (re_var 1) (ra_cons (re_var 2) (ra_cons (re_ix ix_seq (re_dget (k := .inr (tx (q.set i 48))) hu1 (re_var 0) (re_var 4) v1) re_int (ov_ixT (j := 0) rfl rfl)) (ra_cons (re_ix ix_seq (re_dget (k := .inr (tx (q.set i 49))) hu1 (re_var 0) (re_var 5) v2) re_int (ov_ixT (j := 0) rfl rfl)) ra_nil)))) ⟨_, _, a, b, rfl, rfl⟩
    · exact re_callL 3 r1 (hr.mono (by decide)) r3 r4 (ra_cons (re_var 1) (ra_cons (re_var 2) (ra_cons (re_ix ix_seq (re_dgetM (ky := .inr (tx (q.set i 48))) 0 k hu1 (re_var 4) ⟨_, hk⟩ hk v1) re_int (ov_ixT (j := 0) rfl rfl)) (ra_cons (re_ix ix_seq (re_dgetM (ky := .inr (tx (q.set i 49))) 0 k hu1 (re_var 5) ⟨_, hk⟩ hk v2) re_int (ov_ixT (j := 0) rfl rfl)) ra_nil)))) ⟨_, _, a, b, rfl, rfl⟩
abbrev CoD (P : Program) (w : World) (K : PySem.W.Frag) (mg : Str → Option Value) (base : Heap) (fo : Addr) := Def0 P w K mg base 3 "_cost" ["steps", "pattern", "position", "rule"] (coR fo)
end
end K41

namespace K41
open PySem PySem.Spec PyProof.Rows L2 LA
/-! ### the best steps -/
theorem ov_isN {K : PySem.W.Frag} {p : HD} {c : PC} {d : D} {b : Bool} (h : ∀ H v, DV K p H v d → decide (v = V.non) = b) : OV K p (fun x y H Q => y = .non ∧ Q (.bl (decide (x = .non))) H) d .non (.bl b) true c := fun v u H Q dv du hp k => by
  cases du
  refine ⟨rfl, ?_⟩
  rw [h H v dv]
  exact k _ H (Ext.refl p H) hp (.bl b) fun _ => New.sc (by intro a h; cases h)
def bsR (C fo : Addr) : FSpec := fun ds c o => ∃ l, ds = [qD C l, .cls fo] ∧ Tab l ∧ o = .val (.dct (mpK (stD l) (revP (manyOf l)))) false c
abbrev nBs : List Str := ["question", "rule", "answers", "steps", "pattern", "at"]
theorem scBs : FnScope nBs ["question", "rule"] (defScope (top 39)) := ⟨rfl, rfl, rfl, by decide +kernel, rfl, by decide +kernel, by decide +kernel⟩
abbrev bsF : Stmt := (defBody (top 39)).getD 2 (.Pass ⟨0, 0, 0, 0⟩)
abbrev bsI : Stmt := (fBd bsF).getD 0 (.Pass ⟨0, 0, 0, 0⟩)
section
variable {P : Program} {w : World} {K : PySem.W.Frag} {mg : Str → Option Value} {base : Heap} {Cn C BI BT fo : Addr}
theorem ok_bs {f : Addr} {fd : FuncData} (G : Glb mg) (Q : QC K C) (PM : QProp P w K mg base C "many" (manyR C)) (TP : AllD P w K mg base Cn "patterns" pats) (TA : SaD P w K mg base C) (TU : UnD P w K mg base) (TC : CoD P w K mg base fo) (F : Fun K "_best_steps" "_best_steps" (top 39) f fd) : FnOk P w K mg base CX0 7 f fd ["question", "rule"] (spF K (bsR C fo)) := by
  refine fn_val F scBs (fun ds c o h => ?_) (fun ds c o h => ?_) (fun cdv A outer s H E hr p ds c o h => ?_)
  · obtain ⟨l, rfl, _⟩ := h
    rfl
  · obtain ⟨l, _, _, rfl⟩ := h
    exact ⟨_, _, _, rfl⟩
  · obtain ⟨l, rfl, tb, rfl⟩ := h
    obtain ⟨ll, n6⟩ := tab_pow tb.1
    generalize hn : manyOf l = n at *
    have em : (manyOf l : Int) = ((n : Nat) : Int) := by rw [hn]
    let X := (cxOf CX0 P w K mg base nBs "_best_steps" (defScope (top 39)) f cdv A outer s H E).nox
    have hu : X.A.units + 1 < cLine := Nat.lt_of_le_of_lt (Nat.add_le_add_left (show 1 ≤ 64 by decide) _) hr.units
    have hu62 : X.A.units + 62 < cLine := Nat.lt_of_le_of_lt (Nat.add_le_add_left (show 62 ≤ 64 by decide) _) hr.units
    have p3 : 3 ^ n ≤ 729 := by
      have : 3 ^ n ≤ 3 ^ 6 := Nat.pow_le_pow_right (by decide) n6
      have e : (3 : Nat) ^ 6 = 729 := by decide
      omega
    let an : D := .dct (setK l (revP n))
    let S : Nat → List (Key × D) := fun j => mpK (stD l) ((revP n).take j)
    let fr : Option D → Option D → Rho := fun q a => [some (qD C l), some (.cls fo), some an, some (.mut c.length), q, a]
    refine .inl (rso_of (rso_cons (c1 := c) (ρ1 := [some (qD C l), some (.cls fo), some an, none, none, none]) (rs_set (nw := false) 2 scBs.nd (re_c0 TA (hr.mono (by decide)) (ra_cons (re_var 0) ra_nil) ⟨l, rfl, tb, by rw [hn]⟩)) ?_))
    refine rso_newD (ds := []) (c1 := c) 3 (rd_new 3 scBs.nd) rfl fun a => ?_
    have lr : (revP n).length = 3 ^ n := by rw [List.length_reverse, patT_len]
    have lw : (wD (patT n)).reverse.length = 3 ^ n := by rw [List.length_reverse, wD_len, patT_len]
    have at_ : ∀ {j : Nat} {d : D}, (wD (patT n)).reverse[j]? = some d → ∃ q, (revP n)[j]? = some q ∧ d = .str (tx q) := fun {j d} h => by
      unfold wD at h
      rw [← List.map_reverse, List.getElem?_map] at h
      cases e : (revP n)[j]? with
      | none =>
        rw [e] at h
        cases h
      | some q =>
        rw [e] at h
        exact ⟨q, rfl, (Option.some.inj h).symm⟩
    have loop := rs_for_all (X := X) (W := Wf) (p := HD.muts p [a]) (c := c ++ [.dct (S 0)]) (ρ := fr none none) (xs := (wD (patT n)).reverse) (vs := [4]) (g := gName 4) (body := fBd bsF) (tg := fTg bsF) (it := fIt bsF) (pos := fPs bsF)
      (fun _ => fr none none) (fun j => fr (some (.str (tx ((revP n).getD j [])))) none) (fun j => c ++ [.dct (S j)]) PassesOwn.never rfl rfl
      (ri_rev G.rev (re_c1 (o := .val (allV pats n) false _) takes0 TP (hr.mono (by decide)) (ra_cons (re_qprop PM Q (hr.mono (by decide)) (re_var 0) ⟨l, rfl, rfl⟩) ra_nil) ⟨_, rfl, ⟨_, rfl⟩, by rw [em, pos_int n6, if_pos rfl]; rfl⟩)) (pg_name (i := 4) scBs.nd rfl (Or.inr rfl)) (fun j d h => ?_) (fun j d h => ?_)
    · refine rso_cons loop ?_
      rw [lw, ← lr]
      have e : S (revP n).length = mpK (stD l) (revP n) := by
        show mpK (stD l) ((revP n).take _) = _
        rw [List.take_length]
      rw [e]
      refine rso_frzD 3 (rso_in ?_) rfl (.one ?_ (.one rfl (.one ?_ (.non (.non (.non .nil))))))
      · exact rss_ret (rs_ret (re_var 3))
      · exact low_q C l _
      · exact low_setK l _ _
    · obtain ⟨q, hq, rfl⟩ := at_ h
      have e : (revP n).getD j [] = q := by rw [List.getD_eq_getElem?_getD, hq]; rfl
      rw [e]
      exact tg_name (by decide)
    · obtain ⟨q, hq, rfl⟩ := at_ h
      have e : (revP n).getD j [] = q := by rw [List.getD_eq_getElem?_getD, hq]; rfl
      rw [e]
      have qm : q ∈ patT n := List.mem_reverse.mp (List.mem_of_getElem? hq)
      obtain ⟨ql, qc⟩ := patT_mem.mp qm
      obtain ⟨j3, _⟩ := revP_nv hq
      have nx : S (j + 1) = putD2 (S j) (.inr (tx q)) (stD l q) := by
        show mpK _ _ = putD2 (mpK _ _) _ _
        rw [mpK_put (stD l) (rev_new hq), List.take_add_one, hq]
        rfl
      have lz : (S j).length < 100000 := by
        show (mpK _ _).length < _
        rw [mpK_len, List.length_take]
        omega
      have cl : ∀ y, (c ++ [Cell.dct (S j)]).set c.length y = c ++ [y] := fun y => set_last c _ y
      have hk : sett l q = none ∨ sett l q ≠ none := Decidable.em _
      have test : ∀ k, decide (sett l q = none) = k → RT X Wf (HD.muts p [a]) (fr (some (.str (tx q))) none) (c ++ [.dct (S j)]) (match bsI with | .If e _ _ _ => e | _ => .Name "" ⟨0, 0, 0, 0⟩) (.val k (c ++ [.dct (S j)])) := fun k hk => by
        rw [← hk]
        exact rt_cmp op_isN (re_dget (k := .inr (tx q)) hu (re_var 2) (re_var 4) (setK_at (List.mem_of_getElem? hq))) re_non (ov_isN (oD_non _))
      refine rss_less (ρ1 := fr (some (.str (tx q))) none) ?_ (by repeat (first | exact Less.nil | apply Less.same | apply Less.skip))
      rw [nx, ← cl (.dct (putD2 (S j) (.inr (tx q)) (stD l q)))]
      by_cases hs : sett l q = none
      · have hh : ∀ i ∈ unk q, ∀ b, b = 48 ∨ b = 49 → q.set i b ∈ (revP n).take j := fun i hi b hb => rev_before hq (patT_mem.mpr ⟨by rw [List.length_set]; exact ql, fun x hx => by
          rcases List.mem_or_eq_of_mem_set hx with z | z
          · exact qc x z
          · rw [z]
            rcases hb with rfl | rfl <;> decide⟩) (nv_set q 0 i (unk_mem.mp hi) (by rcases hb with rfl | rfl <;> decide))
        refine rss_cons (rs_if (kb := true) (test true (decide_eq_true hs)) (fun _ => ?_) fun z => nomatch z) rss_nil
        refine rss_cons ?_ rss_nil
        refine rs_dputM (ky := .inr (tx q)) 3 c.length hu (nw := false) ?_ (re_var 4) cell_last lz (low_stD _ _ _)
        cases e : (unk q).map (prI l q) with
        | nil =>
          rw [List.map_eq_nil_iff] at e
          exact absurd e (unk_ne hs)
        | cons x xs =>
          obtain ⟨y, y1, y2, y3⟩ := cv_minPI (K := K) (p := HD.muts p [a]) (c := c ++ [.dct (S j)]) (g := ⟨false, true⟩) x xs
          rw [← e] at y1 y2
          have ey := least_pr hs y1 y2
          have es : stD l q = piD y := by
            unfold stD bsD
            rw [if_pos hs, ey]
            rfl
          rw [es]
          refine re_callB (ds := [.lst ⟨false, true⟩ ((x :: xs).map piD)]) (call_minD rfl hu62) G.min PyProof.Rows.boot_min (ra_cons (nw := true) ?_ ra_nil) y3
          have e2 : (x :: xs).map piD = coll (fun _ => true) (fun i => piD (prI l q ((unk q).getD i 0))) (nsD (unk q)).length := by
            rw [← e, List.map_map, coll_all, nsD_len]
            exact (rng_all 0 (fun i => piD (prI l q i)) (unk q)).symm
          have ul : (unk q).length ≤ 6 := by
            rw [unk_len]
            have := List.count_le_length (a := 45) (l := q)
            omega
          rw [e2]
          refine re_lc (own := [("at", 5)]) (g := gName 5) (fun _ => true) (fun i => piD (prI l q ((unk q).getD i 0))) (fun _ => c ++ [.dct (S j)]) (fun _ => c ++ [.dct (S j)]) (fun i => fr (some (.str (tx q))) (some (.int (((unk q).getD i 0 : Nat) : Int)))) (fun _ => true) rfl scBs.nd (ri_lst (re_c0 TU (hr.mono (by decide)) (ra_cons (re_var 4) ra_nil) ⟨q, rfl, by omega, rfl⟩)) (blkOk_by (N := nBs) (sc := defScope (top 39)) (by decide +kernel)) (fun _ _ _ _ _ => pg_name (i := 5) scBs.nd rfl (Or.inl rfl)) (fun i d h => ?_) (fun i d h q' s' H' C' cl' fp => pts_all) (fun i d h _ q' s' H' C' cl' fp => ?_) (fun _ _ _ z => nomatch z) (by rw [nsD_len]; omega)
          · obtain ⟨rfl, _⟩ := ns_at h
            exact tg_name (by decide)
          · obtain ⟨rfl, hm⟩ := ns_at h
            have il := (List.getElem?_eq_some_iff.mp (unk_mem.mp hm)).1
            exact re_tup (ra_cons (re_c0 TC (hr.mono (by decide)) (ra_cons (re_var 3) (ra_cons (re_var 4) (ra_cons (re_var 5) (ra_cons (re_var 1) ra_nil)))) ⟨.mut c.length, S j, q, _, _, _, _, _, rfl, .inr ⟨_, rfl, cell_last⟩, il, by omega, mpK_at (stD l) (hh _ hm 48 (.inl rfl)), mpK_at (stD l) (hh _ hm 49 (.inr rfl)), rfl⟩) (ra_cons (re_var 5) ra_nil)) (by show 2 ≤ 100000; decide)
      · have es : stD l q = .tup [.int 0, .non] := by
          unfold stD bsD
          rw [if_neg hs, cst_no hs]
          rfl
        refine rss_cons (rs_if (kb := false) (test false (decide_eq_false hs)) (fun z => nomatch z) fun _ => ?_) rss_nil
        refine rss_cons ?_ rss_nil
        rw [es]
        exact rs_dputM (ky := .inr (tx q)) 3 c.length hu (nw := true) (re_tup (ra_cons re_int (ra_cons re_non ra_nil)) (by show 2 ≤ 100000; decide)) (re_var 4) cell_last lz rfl
abbrev BsD (P : Program) (w : World) (K : PySem.W.Frag) (mg : Str → Option Value) (base : Heap) (C fo : Addr) := Def0 P w K mg base 7 "_best_steps" ["question", "rule"] (bsR C fo)
end
end K41

/-! a def in whose body a token is out: e.replace(..) of written texts; a keyword's default that is a number -/
namespace LA
open PySem PySem.Spec PyProof.Rows L2
abbrev REt (X : Cx) (W : WX) (p : HD) (ρ : Rho) (c : PC) (e : Expr) (o : EO) : Prop := PET X e (tE X.K W p ρ c o)
abbrev RAt (X : Cx) (W : WX) (p : HD) (ρ : Rho) (c : PC) (es : List Expr) (o : AO) : Prop := PAT X es (tA X.K W p ρ c o)
abbrev RSt (X : Cx) (W : WX) (p : HD) (ρ : Rho) (c : PC) (st : Stmt) (o : SO) : Prop := PST X st (tSt X.K W p ρ c o)
abbrev RSst (X : Cx) (W : WX) (p : HD) (ρ : Rho) (c : PC) (st : List Stmt) (o : SO) : Prop := PSsT X st (tSt X.K W p ρ c o)
theorem psst_imp {X : Cx} {e : List Stmt} {t t' : TS} (h : PSsT X e t) (w : ∀ D σ H, t' D σ H → t D σ H) : PSsT X e t' := fun pins s σ H D h0 I q => h pins s σ H D h0 I (w D σ H q)
theorem pst_imp {X : Cx} {e : Stmt} {t t' : TS} (h : PST X e t) (w : ∀ D σ H, t' D σ H → t D σ H) : PST X e t' := fun pins s σ H D h0 I q => h pins s σ H D h0 I (w D σ H q)
theorem pet_imp {X : Cx} {e : Expr} {t t' : TE} (h : PET X e t) (w : ∀ σ H Q, t' σ H Q → t σ H Q) : PET X e t' := fun pins s σ H Q h0 I q => h pins s σ H Q h0 I (w σ H Q q)
theorem pat_imp {X : Cx} {e : List Expr} {t t' : TA} (h : PAT X e t) (w : ∀ σ H Q, t' σ H Q → t σ H Q) : PAT X e t' := fun ps pins s σ H Q h0 I q => h ps pins s σ H Q h0 I (w σ H Q q)
section
variable {X : Cx} {W : WX} {p : HD} {ρ ρ1 : Rho} {c c1 c2 : PC} {e a fe : Expr} {es : List Expr} {pos : Pos} {d : D} {nw : Bool} {so : SO} {st : Stmt} {rest : List Stmt} {o : EO} {k : Nat} {f C g : Addr} {fd : FuncData} {ps : List Str} {R : FSpec} {ds : List D} {fs : List (Str × D)} {sp : Sp} {CX : CXT} {E : L2.St → XK} {tf : TE} {t : TA}
theorem rst_of (h : RS X W p ρ c st so) : RSt X W p ρ c st so := PST.of h
theorem rsst_of (h : RSs X W p ρ c rest so) : RSst X W p ρ c rest so := PSsT.of h
theorem rsst_cons (h1 : RSt X W p ρ c st (.nx ρ1 c1)) (h2 : RSst X W p ρ1 c1 rest so) (hl : ρ1.length = ρ.length := by rfl) : RSst X W p ρ c (st :: rest) so := by
  refine psst_imp (psst_cons h1 h2) fun De σ H h => ?_
  cases so with
  | nx ρ' c' => exact ⟨h.1, fun σ1 H1 e1 s1 => ⟨s1, fun σ2 H2 e2 s2 => h.2 σ2 H2 (e1.trans e2) s2⟩⟩
  | rt d nw c' => exact ⟨h.1, fun σ1 H1 e1 s1 => ⟨s1, fun v H2 e2 p2 dv hn => h.2 v H2 (e1.trans e2) p2 dv fun q => (hn q).back e1⟩⟩
  | ex C fs c' => exact ⟨h.1, fun σ1 H1 e1 s1 => ⟨s1, fun ρ' dx fv σ2 H2 e2 s2 hl' hx hf => h.2 ρ' dx fv σ2 H2 (e1.trans e2) s2 (hl'.trans hl) hx hf⟩⟩
theorem rsst_ret (h1 : RSt X W p ρ c st (.rt d nw c1)) : RSst X W p ρ c (st :: rest) (.rt d nw c1) := psst_imp (psst_cons h1 (PSsT.of pss_never)) fun De σ H h => h
theorem rst_if {tt : Expr} {A B : List Stmt} {kb : Bool} (ht : RT X W p ρ c tt (.val kb c1)) (h1 : kb = true → RSst X W p ρ c1 A so) (h2 : kb = false → RSst X W p ρ c1 B so) : RSt X W p ρ c (.If tt A B pos) so := by
  cases kb with
  | true => exact pst_imp (CwR.pst_if ht (h1 rfl) (PSsT.of pss_never)) fun De σ H h => ⟨st_sr h, fun H1 e1 p1 => st_at h e1 p1⟩
  | false => exact pst_imp (CwR.pst_if ht (PSsT.of pss_never) (h2 rfl)) fun De σ H h => ⟨st_sr h, fun H1 e1 p1 => iteF (st_at h e1 p1)⟩
theorem rst_ret (h : REt X W p ρ c e (.val d nw c1)) : RSt X W p ρ c (.Return (some e) pos) (.rt d nw c1) := pst_imp (CwR.pst_ret h) fun D σ H ⟨s, k⟩ => ⟨s, fun v H1 e1 p1 dv hn => k v H1 e1 p1 dv hn⟩
theorem rat_one (h : REt X W p ρ c e (.val d nw c1)) (hs : starEach [e] X.env = (false, eval e X.env) :: starEach [] X.env := by rfl) : RAt X W p ρ c [e] (.val [d] c1) :=
  pat_imp (pat_cons h pat_nil hs) fun σ H Q ⟨s, k⟩ => ⟨s, fun v H1 e1 p1 dv _ => k [v] H1 e1 p1 (.cons dv .nil)⟩
/-- e.replace(y, z) of written texts -/
theorem ret_repl {x y z : Str} {j j2 : Nat} {c0 k0 apos : Pos} (ho : RE X W p ρ c a (.val (.str x) nw c1)) (hb : x.length + (x.length + 1) * z.length ≤ 16777216) (hyz : (y == z) = false := by decide)
    (hst : starEach [.Constant (.str y) j c0, .Constant (.str z) j2 k0] X.env = [(false, eval (.Constant (.str y) j c0) X.env), (false, eval (.Constant (.str z) j2 k0) X.env)] := by rfl)
    (hbase : attributeBase a "replace" X.env (eval a X.env) = eval a X.env := by rfl) (hline : (apos.endLine == pos.line) = true := by rfl) :
    REt X W p ρ c (.Call (.Attribute a "replace" apos) [.Constant (.str y) j c0, .Constant (.str z) j2 k0] [] pos) (.val (.str (Txt.replace x y z)) true c1) :=
  pet_imp (CwR.pet_replC ho hyz hst hbase hline) fun σ H Q ⟨s, kk⟩ => ⟨s, fun v H1 e1 p1 dv _ => by
    cases dv
    exact ⟨x, rfl, hb, kk _ H1 e1 p1 (.str _) fun _ => New.sc (by intro a h; cases h)⟩⟩
theorem pet_callI (hf : PE X fe tf) (w : StX.CallO X.K C g) (F : FnOk X.prog X.w X.K X.mg X.base CX k g fd ps sp) (hr : Room k X.A) (hb : Binds X.K fd ps []) (hx : ∀ σ, PassesAt CX X σ (E σ)) (ha : PAT X (e :: es) t)
    (ht : eval (.Call fe (e :: es) [] pos) X.env = (do callWith pos (← eval fe X.env) [] (backTo pos (starEach (e :: es) X.env)) (backToKw pos (keywordEach [] X.env))))
    (he : starEach (e :: es) X.env = (false, eval e X.env) :: starEach es X.env) (hpl : (backTo pos (starEach es X.env)).any (·.1) = false) : PET X (.Call fe (e :: es) [] pos) (tCallI C sp E tf t) := fun pins s σ H Q h0 I h => by
  refine Call_ (wpAny_mono (PySem.wpAny_toks (hf.run pins s σ H _ I h)) (fun u s1 hu => ?_) fun _ _ z => z.2) ht
  obtain ⟨hk, y, H1, I1, ry, z, rfl, q⟩ := hu
  obtain rfl : u = Value.ref z := ry
  refine StX.callO_with (thn (ha pos pins s1 σ H1 _ (Nat.le_trans h0 hk) I1 q) fun us s2 hu => ?_) he hpl
  obtain ⟨vs, H2, I2, r, ⟨dx, fv, hz⟩, q2⟩ := hu
  obtain ⟨ox, od, J, hd⟩ := StX.insC_at I2 (C := C) (.inr ⟨dx, fv, hz⟩)
  refine ⟨⟨C, ox, od, J, hd⟩, wpAny_call (PySem.W.kco_code I2.kIn J hd w.at_ w.fn w.fi ?_)⟩
  have hl : (Value.ref z :: us).length = ps.length := by
    have rr : Vals (V.ref z :: vs) (Value.ref z :: us) := .cons rfl r
    rw [← rr.length]
    exact F.len _ _ _ _ q2
  have bd := hb s2 (Value.ref z :: us) I2.kIn (by rw [List.append_nil]; exact hl)
  rw [List.append_nil] at bd
  refine codeAny_mono (F.run X.A X.stack s2 H2 ⟨Value.ref z :: us, []⟩ (Value.ref z :: us) (V.ref z :: vs) Q (E σ) hr I2.env0 bd (.cons rfl r) q2) fun y s' hy => ?_
  match y, hy with
  | .error er, hy => exact hx σ pins H2 s2 er s' I2 hy
  | .ok (.ret u), hy => exact I2.after hy
  | .ok .next, hy => exact hy.elim
  | .ok .brk, hy => exact hy.elim
  | .ok .cont, hy => exact hy.elim
theorem ret_callO (tk : Takes X W) (G : FnOk X.prog X.w X.K X.mg X.base (L2.CX X.prog X.w) k g fd ps (spF X.K R)) (hr : Room k X.A) (hb : Binds X.K fd ps []) (w : StX.CallO X.K C g) (hf : RE X W p ρ c fe (.val (.obj C fs) nw c1)) (ha : RAt X W p ρ c1 (e :: es) (.val ds c2)) (ho : R (.obj C fs :: ds) c2 o)
    (ht : eval (.Call fe (e :: es) [] pos) X.env = (do callWith pos (← eval fe X.env) [] (backTo pos (starEach (e :: es) X.env)) (backToKw pos (keywordEach [] X.env))) := by rfl)
    (he : starEach (e :: es) X.env = (false, eval e X.env) :: starEach es X.env := by rfl) (hpl : (backTo pos (starEach es X.env)).any (·.1) = false := by rfl) : REt X W p ρ c (.Call fe (e :: es) [] pos) o :=
  pet_imp (pet_callI hf w G hr hb (fun σ => passAt tk σ) ha ht he hpl) fun σ H Q h => ⟨tE_sr h, fun v H1 e1 p1 dv _ => by
    cases dv with
    | @obj y _ dx fv _ hv r =>
      refine ⟨y, rfl, (tE_sr h).mono e1 p1, fun vs H2 e2 p2 dvs => ?_⟩
      have d2 : DV X.K p H2 (.ref y) (.obj C fs) := (DV.obj hv r).mono e2
      have h2 := e2.hide y _ hv
      exact ⟨⟨dx, fv, (hide_some h2).1⟩, p, c2, _, o, .cons d2 dvs, p2, ho, fo_at h (e1.trans e2)⟩⟩
end
section
variable {P : Program} {w : World} {K : PySem.W.Frag} {mg : Str → Option Value} {base : Heap} {x qual : Str} {st : Stmt} {f : Addr} {fd : FuncData} {N ps : List Str} {k : Nat} {R : FSpec}
theorem fn_excT (F : Fun K x qual st f fd) (S : FnScope N ps (defScope st)) (hnc : ∀ y ∈ (defScope st).names, y.2 ≠ .cell) (hps : 1 ≤ ps.length) (hl : ∀ ds c o, R ds c o → ds.length = ps.length) (hv : ∀ ds c o, R ds c o → ∃ d nw c', o = .val d nw c')
    (body : ∀ (cdv : Value) (A : Around) (outer : List Env) (s : Shared) (H : Hp) (E : XK), Room k (A.deeper (envOfC qual (defScope st) s.heap.objs.size f cdv)) → ∀ (p : HD) (ds : List D) (c : PC) (d : D) (nw : Bool) (c' : PC), R ds c (.val d nw c') →
      Takes (cxOf (L2.CX P w) P w K mg base N qual (defScope st) f cdv A outer s H E) (fun cls d _ H => E cls d H) →
      RSst (cxOf (L2.CX P w) P w K mg base N qual (defScope st) f cdv A outer s H E) (fun cls d _ H => E cls d H) p (startR N ds) c (defBody st) (.rt d nw c')) : FnOk P w K mg base (L2.CX P w) (k + 1) f fd ps (spF K R) := by
  obtain ⟨oc, od, kV, doc, pm, an, cdv, ct, osl, rfl, lk, hcd⟩ := F.ex
  refine fn_ofT lk hcd S hnc hps (fun vs H Q E h => spF_len hl h) (fun A outer s H vs Q E hr h => ?_)
  obtain ⟨p, c, ds, o, h1, h2, h3, h4⟩ := h
  obtain ⟨d, nw, c', rfl⟩ := hv _ _ _ h3
  exact ⟨_, body cdv A outer s H E hr p ds c d nw c' h3 (takes_of rfl rfl rfl rfl), sr_start h1 h2, fun v H1 e1 p1 dv hn => h4 v H1 e1 p1 dv hn⟩
theorem gk1i_mk {x k1 : Str} {st : Stmt} {f T : Addr} {i : Int} {tk : Tok} {oc dc pm cd ct : Value} {od an : Option Addr} {sl : Array (Option Value)} (a : PySem.W.nsIn K mainGlobals x = some (some (.ref f)))
    (l : K.lookup f = some ⟨oc, od, .func (PySem.W.fnOf x x (defArgs st) (defBody st) (defScope st) .none (.ref T) dc pm an cd ct), sl⟩) (n1 : PySem.W.nsIn K T k1 = some (some (.int i tk))) (c : PySem.W.codeIn K cd x = true) (k : PySem.W.keepIn K (.ref f) = true) : Gk K x st [(k1, .int i)] :=
  ⟨⟨f, _, a, ⟨⟨oc, od, .none, .ref T, dc, pm, an, cd, ct, sl, rfl, l, c, .inl ⟨rfl, rfl⟩, .inr ⟨T, rfl, fun q hq => by
    rw [List.mem_singleton.mp hq]
    exact ⟨.int i tk, n1, ⟨tk, rfl⟩⟩⟩⟩, k⟩⟩⟩
end
end LA

namespace K41
open PySem PySem.Spec PyProof.Rows L2 LA
/-! ### trees of best steps, the fewest looks -/
def dash (n : Nat) : List Nat := List.replicate n 45
theorem dash_len (n : Nat) : (dash n).length = n := List.length_replicate
theorem dash_mem {n c : Nat} (h : c ∈ dash n) : c = 45 := List.eq_of_mem_replicate h
theorem dash_pat (n : Nat) : dash n ∈ patT n := patT_mem.mpr ⟨dash_len n, fun c h => by rw [dash_mem h]; decide⟩
theorem dash_cnt (n : Nat) : (dash n).count 45 = n := List.count_replicate_self ..
theorem dash_at {n i : Nat} (h : i < n) : (dash n)[i]? = some 45 := by
  unfold dash
  rw [List.getElem?_replicate, if_pos h]
theorem dash_unk (n : Nat) : unk (dash n) = List.range n := by
  unfold unk
  rw [dash_len]
  refine List.filter_eq_self.mpr fun i hi => decide_eq_true ?_
  rw [List.getD_eq_getElem?_getD, dash_at (List.mem_range.mp hi)]
  rfl
theorem rep_tx (a : Nat) (n : Nat) : Txt.mul (chr1 a) ((n : Nat) : Int) = tx (List.replicate n a) := by
  have e := mul_tx [a] n
  have e2 : (List.replicate n [a]).flatten = List.replicate n a := by
    induction n with
    | zero => rfl
    | succ k ih => rw [List.replicate_succ, List.flatten_cons, ih (mul_tx [a] k)]; rfl
  rw [e2] at e
  exact e
theorem repl_zr : ∀ q : List Nat, StrLaws.replL [45] [48] q = zr q
  | [] => StrLaws.replL_nil
  | a :: r => by
    by_cases h : a = 45
    · subst h
      rw [StrLaws.replL_hit (by decide) rfl]
      show [48] ++ StrLaws.replL [45] [48] r = 48 :: zr r
      rw [repl_zr r]
      rfl
    · rw [StrLaws.replL_miss (by
        intro z
        have z : [a] = [45] := z
        exact h (List.cons.inj z).1), repl_zr r]
      show a :: zr r = (if a = 45 then 48 else a) :: zr r
      rw [if_neg h]
theorem rep_zr (q : List Nat) : Txt.replace (tx q) "-" "0" = tx (zr q) := by
  have e := StrLaws.replace_list (x := tx q) (y := "-") (z := "0") (by decide)
  have e2 : (Txt.replace (tx q) "-" "0").cps.toList = zr q := by
    rw [e, tx_list]
    exact repl_zr q
  generalize Txt.replace (tx q) "-" "0" = s at e2
  cases s with
  | mk a =>
    unfold tx
    rw [← e2]
theorem bs_non {K : PySem.W.Frag} {p : HD} (l q : List Nat) : ∀ H v, DV K p H v (bsD l q) → decide (v = V.non) = !decide (sett l q = none) := fun H v h => by
  unfold bsD at h
  by_cases hs : sett l q = none
  · rw [if_pos hs] at h
    rw [decide_eq_true hs]
    cases h
    rfl
  · rw [if_neg hs] at h
    rw [decide_eq_false hs]
    cases h
    rfl
def trR (C : Addr) (m : Nat) : FSpec := fun ds c o => ∃ l q, ds = [qD C l, .dct (mpK (stD l) (revP (manyOf l))), .str (tx q)] ∧ Tab l ∧ q ∈ patT (manyOf l) ∧ q.count 45 ≤ m ∧ o = .val (tr l q) true c
abbrev nTr : List Str := ["question", "steps", "pattern", "_", "position", "low", "high"]
theorem scTr : FnScope nTr ["question", "steps", "pattern"] (defScope (top 41)) := ⟨rfl, rfl, rfl, by decide +kernel, rfl, by decide +kernel, by decide +kernel⟩
section
variable {P : Program} {w : World} {K : PySem.W.Frag} {mg : Str → Option Value} {base : Heap} {Cn C BI BT fo BP : Addr}
abbrev TrD (P : Program) (w : World) (K : PySem.W.Frag) (mg : Str → Option Value) (base : Heap) (C : Addr) (m : Nat) := Def1 P w K mg base (m + 5) "_tree_at" ["question", "steps", "pattern"] (trR C m)
theorem ok_tr_step {f : Addr} {fd : FuncData} (QCl : QCall P w K mg base C BI) (TB : BrD P w K mg base) (F : Fun K "_tree_at" "_tree_at" (top 41) f fd) (m : Nat) (ih : ∀ m', m = m' + 1 → TrD P w K mg base C m') : FnOk P w K mg base (L2.CX P w) (m + 5) f fd ["question", "steps", "pattern"] (spF K (trR C m)) := by
  obtain ⟨g1, fd1, h1, h2, h3⟩ := QCl.ex
  refine fn_excT F scTr (by decide +kernel) (by decide) (fun ds c o h => ?_) (fun ds c o h => ?_) (fun cdv A outer s H E hr p ds c d nw c' h tk => ?_)
  · obtain ⟨l, q, rfl, _⟩ := h
    rfl
  · obtain ⟨l, q, _, _, _, _, rfl⟩ := h
    exact ⟨_, _, _, rfl⟩
  · obtain ⟨l, q, rfl, tb, hq, hm, ho⟩ := h
    cases ho
    obtain ⟨ll, n6⟩ := tab_pow tb.1
    obtain ⟨ql, qc⟩ := patT_mem.mp hq
    have hu : (cxOf (L2.CX P w) P w K mg base nTr "_tree_at" (defScope (top 41)) f cdv A outer s H E).A.units + 1 < cLine := Nat.lt_of_le_of_lt (Nat.add_le_add_left (show 1 ≤ 64 by decide) _) hr.units
    refine rsst_cons (c1 := c) (ρ1 := [some (qD C l), some (.dct (mpK (stD l) (revP (manyOf l)))), some (.str (tx q)), some (.int ((cst l q : Nat) : Int)), some (bsD l q), none, none]) (rst_of (rs_tg (d := .tup [.int ((cst l q : Nat) : Int), bsD l q]) (nw := false) (re_dget (k := .inr (tx q)) hu (re_var 1) (re_var 2) (mpK_at (stD l) (List.mem_reverse.mpr hq))) (pg_tup rfl (pgs_cons (pg_name (i := 3) scTr.nd rfl (Or.inl rfl)) (pgs_cons (pg_name (i := 4) scTr.nd rfl (Or.inl rfl)) pgs_nil))) (tg_two (vs := [3, 4]) (by decide) (by decide)))) ?_
    by_cases hs : sett l q = none
    · refine rsst_of (rss_cons (c1 := c) (rs_if (kb := false) (rt_to (rt_cmp op_isN (re_var 4) re_non (ov_isN (bs_non l q))) (by rw [decide_eq_true hs]; rfl)) (fun z => nomatch z) fun _ => rss_nil) ?_)
      have b := unk_mem.mp (bst_ok hs).1
      have bl := (List.getElem?_eq_some_iff.mp b).1
      have hm1 : 0 < q.count 45 := List.count_pos_iff.mpr (none_45 hs)
      obtain ⟨m', rfl⟩ : ∃ m', m = m' + 1 := ⟨m - 1, by omega⟩
      have TI := ih m' rfl
      have c1 := count_setA (c := 48) (by decide) b
      have c2 := count_setA (c := 49) (by decide) b
      have sp : ∀ x, x = 48 ∨ x = 49 → q.set (bst l q) x ∈ patT (manyOf l) := fun x hx => patT_mem.mpr ⟨by rw [List.length_set]; exact ql, fun y hy => by
        rcases List.mem_or_eq_of_mem_set hy with z | z
        · exact qc y z
        · rw [z]
          rcases hx with rfl | rfl <;> decide⟩
      have eb : bsD l q = .int ((bst l q : Nat) : Int) := by
        unfold bsD
        rw [if_pos hs]
      rw [tr_yes hs, eb]
      refine rss_cons (c1 := c) (ρ1 := [some (qD C l), some (.dct (mpK (stD l) (revP (manyOf l)))), some (.str (tx q)), some (.int ((cst l q : Nat) : Int)), some (.int ((bst l q : Nat) : Int)), some (.str (tx (q.set (bst l q) 48))), some (.str (tx (q.set (bst l q) 49)))]) (rs_tg (d := .tup [.str (tx (nw q ((bst l q : Nat) : Int) 48)), .str (tx (nw q ((bst l q : Nat) : Int) 49))]) (nw := true) (re_c0 TB (hr.mono (by omega)) (ra_cons (re_var 2) (ra_cons (re_var 4) ra_nil)) ⟨q, _, rfl, by omega, by rw [Int.toNat_natCast]; exact bl, by omega, rfl⟩) (pg_tup rfl (pgs_cons (pg_name (i := 5) scTr.nd rfl (Or.inl rfl)) (pgs_cons (pg_name (i := 6) scTr.nd rfl (Or.inl rfl)) pgs_nil))) (tg_two (vs := [5, 6]) (by decide) (by decide))) ?_
      exact rss_ret (rs_ret (re_tup (ra_cons (re_var 4) (ra_cons (re_c1 (o := .val (tr l (q.set (bst l q) 48)) true c) tk TI (hr.mono (by omega)) (ra_cons (re_var 0) (ra_cons (re_var 1) (ra_cons (re_var 5) ra_nil))) ⟨l, _, rfl, tb, sp _ (.inl rfl), by omega, rfl⟩) (ra_cons (re_c1 (o := .val (tr l (q.set (bst l q) 49)) true c) tk TI (hr.mono (by omega)) (ra_cons (re_var 0) (ra_cons (re_var 1) (ra_cons (re_var 6) ra_nil))) ⟨l, _, rfl, tb, sp _ (.inr rfl), by omega, rfl⟩) ra_nil))) (by show 3 ≤ 100000; decide)))
    · refine rsst_ret (rst_if (kb := true) (rt_to (rt_cmp op_isN (re_var 4) re_non (ov_isN (bs_non l q))) (by rw [decide_eq_false hs]; rfl)) (fun _ => ?_) fun z => nomatch z)
      obtain ⟨a, ha⟩ : ∃ a, sett l q = some a := by
        cases h : sett l q with
        | none => exact absurd h hs
        | some a => exact ⟨a, rfl⟩
      have ea := sett_zr l _ q a rfl ha
      have zl : (zr q).length = q.length := List.length_map ..
      have zb : ∀ x ∈ zr q, x ∈ bins := fun x hx => by
        obtain ⟨y, hy, rfl⟩ := List.mem_map.mp hx
        rcases pats_cases (qc y hy) with rfl | z
        · decide
        · show (if y = 45 then 48 else y) ∈ bins
          split
          · decide
          · exact z
      have et : tr l q = .int (ansV l (zr q)) := by
        rw [tr_no hs, ha, ea]
        rfl
      rw [et]
      have hz : (tx q).length + ((tx q).length + 1) * Str.length "0" ≤ 16777216 := by
        have e1 : Str.length "0" = 1 := by decide
        rw [tx_len, e1]
        omega
      refine rsst_ret (rst_ret (ret_callO (fs := flds l) (o := .val (.int (ansV l (zr q))) true c) (ds := [.str (Txt.replace (tx q) "-" "0")]) tk h2 (hr.mono (by omega)) h3 h1 (re_var 0) (rat_one (ret_repl (x := tx q) (re_var 2) hz)) ⟨l, .str (Txt.replace (tx q) "-" "0"), rfl, tb, ?_, ?_⟩))
      · rw [rep_zr]
        exact str_fit (by omega)
      · rw [rep_zr, isW_of (by omega) zb, cds_tx, zl, ql, decide_eq_true rfl]
        rfl
theorem ok_tr {f : Addr} {fd : FuncData} (QCl : QCall P w K mg base C BI) (TB : BrD P w K mg base) (F : Fun K "_tree_at" "_tree_at" (top 41) f fd) (hm : mg "_tree_at" = some (.ref f)) (hb : Binds K fd ["question", "steps", "pattern"] []) : ∀ m : Nat, FnOk P w K mg base (L2.CX P w) (m + 5) f fd ["question", "steps", "pattern"] (spF K (trR C m))
  | 0 => ok_tr_step QCl TB F 0 fun m' h => absurd h (by omega)
  | m + 1 => ok_tr_step QCl TB F (m + 1) fun m' h => by
    have e : m' = m := by omega
    subst e
    exact ⟨⟨f, fd, ok_tr QCl TB F hm hb m', hm, F.kp, hb⟩⟩
/-! least_cost, least_tree -/
def lcR (C fo : Addr) : FSpec := fun ds c o => ∃ l, ds = [qD C l, .cls fo] ∧ Tab l ∧ o = .val (cD l (dash (manyOf l))) false c
def ltR (C fo : Addr) : FSpec := fun ds c o => ∃ l, ds = [qD C l, .cls fo] ∧ Tab l ∧ o = .val (tr l (dash (manyOf l))) true c
theorem re_dashQ {X : Cx} {W : WX} {p : HD} {ρ : Rho} {c : PC} {a : Expr} {l : List Nat} {nw : Bool} {j : Nat} {pos p1 xp : Pos} (PM : QProp X.prog X.w X.K X.mg X.base C "many" (manyR C)) (Q : QC X.K C) (hr : Room 2 X.A) (tb : Tab l) (ha : RE X W p ρ c a (.val (qD C l) nw c)) (hab : attributeBase a "many" X.env (eval a X.env) = eval a X.env := by rfl) :
    RE X W p ρ c (.BinOp (.Constant (.str "-") j p1) .Mult (.Attribute a "many" xp) pos) (.val (.str (tx (dash (manyOf l)))) true c) :=
  re_to (re_bin op_mulS re_str (re_qprop PM Q hr ha ⟨l, rfl, rfl⟩ hab) (ov_mulS (mulOk_small rfl (by have := (tab_pow tb.1).2; omega)))) (congrArg D.str (rep_tx 45 (manyOf l)))
abbrev nLc : List Str := ["question", "rule", "cost", "_"]
theorem scLc : FnScope nLc ["question", "rule"] (defScope (top 36)) := ⟨rfl, rfl, rfl, by decide +kernel, rfl, by decide +kernel, by decide +kernel⟩
theorem ok_lc {f : Addr} {fd : FuncData} (Q : QC K C) (PM : QProp P w K mg base C "many" (manyR C)) (TBs : BsD P w K mg base C fo) (F : Fun K "least_cost" "least_cost" (top 36) f fd) : FnOk P w K mg base CX0 8 f fd ["question", "rule"] (spF K (lcR C fo)) := by
  refine fn_val F scLc (fun ds c o h => ?_) (fun ds c o h => ?_) (fun cdv A outer s H E hr p ds c o h => ?_)
  · obtain ⟨l, rfl, _⟩ := h
    rfl
  · obtain ⟨l, _, _, rfl⟩ := h
    exact ⟨_, _, _, rfl⟩
  · obtain ⟨l, rfl, tb, rfl⟩ := h
    have hu : (cxOf CX0 P w K mg base nLc "least_cost" (defScope (top 36)) f cdv A outer s H E).nox.A.units + 1 < cLine := Nat.lt_of_le_of_lt (Nat.add_le_add_left (show 1 ≤ 64 by decide) _) hr.units
    refine .inl (rss_cons (c1 := c) (ρ1 := [some (qD C l), some (.cls fo), some (cD l (dash (manyOf l))), some (bsD l (dash (manyOf l)))]) (rs_tg (d := .tup [cD l (dash (manyOf l)), bsD l (dash (manyOf l))]) (nw := false) (re_dget (k := .inr (tx (dash (manyOf l)))) hu (re_c0 TBs hr (ra_cons (re_var 0) (ra_cons (re_var 1) ra_nil)) ⟨l, rfl, tb, rfl⟩) (re_dashQ PM Q (hr.mono (by decide)) tb (re_var 0)) (mpK_at (stD l) (List.mem_reverse.mpr (dash_pat _)))) (pg_tup rfl (pgs_cons (pg_name (i := 2) scLc.nd rfl (Or.inl rfl)) (pgs_cons (pg_name (i := 3) scLc.nd rfl (Or.inl rfl)) pgs_nil))) (tg_two (vs := [2, 3]) (by decide) (by decide))) ?_)
    exact rss_ret (rs_ret (re_var 2))
abbrev LcD (P : Program) (w : World) (K : PySem.W.Frag) (mg : Str → Option Value) (base : Heap) (C fo : Addr) := Def0 P w K mg base 8 "least_cost" ["question", "rule"] (lcR C fo)
theorem ok_lt {f : Addr} {fd : FuncData} (Q : QC K C) (PM : QProp P w K mg base C "many" (manyR C)) (TBs : BsD P w K mg base C fo) (TT : TrD P w K mg base C 6) (F : Fun K "least_tree" "least_tree" (top 37) f fd) : FnOk P w K mg base CX0 12 f fd ["question", "rule"] (spF K (ltR C fo)) := by
  refine fn_val F (N := ["question", "rule"]) ⟨rfl, rfl, rfl, by decide +kernel, rfl, by decide +kernel, by decide +kernel⟩ (fun ds c o h => ?_) (fun ds c o h => ?_) (fun cdv A outer s H E hr p ds c o h => ?_)
  · obtain ⟨l, rfl, _⟩ := h
    rfl
  · obtain ⟨l, _, _, rfl⟩ := h
    exact ⟨_, _, _, rfl⟩
  · obtain ⟨l, rfl, tb, rfl⟩ := h
    have n6 := (tab_pow tb.1).2
    exact .inl (rss_ret (rs_ret (re_c1 (o := .val (tr l (dash (manyOf l))) true c) takes0 TT (hr.mono (by decide)) (ra_cons (re_var 0) (ra_cons (re_c0 TBs (hr.mono (by decide)) (ra_cons (re_var 0) (ra_cons (re_var 1) ra_nil)) ⟨l, rfl, tb, rfl⟩) (ra_cons (re_dashQ PM Q (hr.mono (by decide)) tb (re_var 0)) ra_nil))) ⟨l, _, rfl, tb, dash_pat _, by rw [dash_cnt]; exact n6, rfl⟩)))
abbrev LtD (P : Program) (w : World) (K : PySem.W.Frag) (mg : Str → Option Value) (base : Heap) (C fo : Addr) := Def0 P w K mg base 12 "least_tree" ["question", "rule"] (ltR C fo)
/-! looks, best_tree, needs_all -/
def lkR (C : Addr) : FSpec := fun ds c o => ∃ l, ds = [qD C l] ∧ Tab l ∧ o = .val (cD l (dash (manyOf l))) false c
def btR (C : Addr) : FSpec := fun ds c o => ∃ l, ds = [qD C l] ∧ Tab l ∧ o = .val (tr l (dash (manyOf l))) true c
def naR (C : Addr) : FSpec := fun ds c o => ∃ l, ds = [qD C l] ∧ Tab l ∧ o = .val (.bl (decide (((cst l (dash (manyOf l)) : Nat) : Int) = ((manyOf l : Nat) : Int)))) true c
theorem ok_lk {f : Addr} {fd : FuncData} (R : Rule P w K mg base fo) (T : LcD P w K mg base C fo) (F : Fun K "looks" "looks" (top 30) f fd) : FnOk P w K mg base CX0 9 f fd ["question"] (spF K (lkR C)) := by
  obtain ⟨fdo, r1, r2, r3, r4⟩ := R.ex
  refine fn_val F (N := ["question"]) ⟨rfl, rfl, rfl, by decide +kernel, rfl, by decide +kernel, by decide +kernel⟩ (fun ds c o h => ?_) (fun ds c o h => ?_) (fun cdv A outer s H E hr p ds c o h => ?_)
  · obtain ⟨l, rfl, _⟩ := h
    rfl
  · obtain ⟨l, _, _, rfl⟩ := h
    exact ⟨_, _, _, rfl⟩
  · obtain ⟨l, rfl, tb, rfl⟩ := h
    exact .inl (rss_ret (rs_ret (re_c0 T hr (ra_cons (re_var 0) (ra_cons (re_gdef r2) ra_nil)) ⟨l, rfl, tb, rfl⟩)))
abbrev LkD (P : Program) (w : World) (K : PySem.W.Frag) (mg : Str → Option Value) (base : Heap) (C : Addr) := Def0 P w K mg base 9 "looks" ["question"] (lkR C)
theorem ok_bt {f : Addr} {fd : FuncData} (R : Rule P w K mg base fo) (T : LtD P w K mg base C fo) (F : Fun K "best_tree" "best_tree" (top 32) f fd) : FnOk P w K mg base CX0 13 f fd ["question"] (spF K (btR C)) := by
  obtain ⟨fdo, r1, r2, r3, r4⟩ := R.ex
  refine fn_val F (N := ["question"]) ⟨rfl, rfl, rfl, by decide +kernel, rfl, by decide +kernel, by decide +kernel⟩ (fun ds c o h => ?_) (fun ds c o h => ?_) (fun cdv A outer s H E hr p ds c o h => ?_)
  · obtain ⟨l, rfl, _⟩ := h
    rfl
  · obtain ⟨l, _, _, rfl⟩ := h
    exact ⟨_, _, _, rfl⟩
  · obtain ⟨l, rfl, tb, rfl⟩ := h
    exact .inl (rss_ret (rs_ret (re_c0 T hr (ra_cons (re_var 0) (ra_cons (re_gdef r2) ra_nil)) ⟨l, rfl, tb, rfl⟩)))
abbrev BtD (P : Program) (w : World) (K : PySem.W.Frag) (mg : Str → Option Value) (base : Heap) (C : Addr) := Def0 P w K mg base 13 "best_tree" ["question"] (btR C)
theorem ok_na {f : Addr} {fd : FuncData} (Q : QC K C) (PM : QProp P w K mg base C "many" (manyR C)) (T : LkD P w K mg base C) (F : Fun K "needs_all" "needs_all" (top 33) f fd) : FnOk P w K mg base CX0 10 f fd ["question"] (spF K (naR C)) := by
  refine fn_val F (N := ["question"]) ⟨rfl, rfl, rfl, by decide +kernel, rfl, by decide +kernel, by decide +kernel⟩ (fun ds c o h => ?_) (fun ds c o h => ?_) (fun cdv A outer s H E hr p ds c o h => ?_)
  · obtain ⟨l, rfl, _⟩ := h
    rfl
  · obtain ⟨l, _, _, rfl⟩ := h
    exact ⟨_, _, _, rfl⟩
  · obtain ⟨l, rfl, tb, rfl⟩ := h
    exact .inl (rss_ret (rs_ret (re_cmp op_eq (re_c0 T hr (ra_cons (re_var 0) ra_nil) ⟨l, rfl, tb, rfl⟩) (re_qprop PM Q (hr.mono (by decide)) (re_var 0) ⟨l, rfl, rfl⟩) ov_eqI)))
abbrev NaD (P : Program) (w : World) (K : PySem.W.Frag) (mg : Str → Option Value) (base : Heap) (C : Addr) := Def0 P w K mg base 10 "needs_all" ["question"] (naR C)
/-! what is left at a pattern -/
theorem rest_all {l m : List Nat} (hm : ∀ c ∈ m, c ∈ pats) (h6 : m.length ≤ 6) : cst (restL l m) (dash (manyOf (restL l m))) = cst l m ∧ ∀ j < m.count 45, cs1 (restL l m) (dash (manyOf (restL l m))) j = cs1 l m (un m j) := by
  rw [rest_many h6]
  have e : emb m (dash (m.count 45)) = m := emb_all m
  obtain ⟨a, b⟩ := cst_rest (l := l) hm _ (dash (m.count 45)) rfl (dash_len _) fun c h => by rw [dash_mem h]; decide
  rw [e] at a
  refine ⟨a, fun j hj => ?_⟩
  have z := b j (by rw [dash_unk]; exact List.mem_range.mpr hj)
  rw [e] at z
  exact z
theorem rest_sett {l m : List Nat} (hm : ∀ c ∈ m, c ∈ pats) (h6 : m.length ≤ 6) : sett (restL l m) (dash (manyOf (restL l m))) = sett l m := by
  rw [rest_many h6]
  have e : emb m (dash (m.count 45)) = m := emb_all m
  have a := sett_rest (l := l) hm _ (dash (m.count 45)) rfl (dash_len _) fun c h => by rw [dash_mem h]; decide
  rw [e] at a
  exact a
def lfR (C BP : Addr) : FSpec := fun ds c o => ∃ l d, ds = [qD C l, d] ∧ Tab l ∧ Fit d ∧ o = if okPat l d then .val (cD l (cds d)) false c else .ex BP [("given", d)] c
theorem ok_lf {f : Addr} {fd : FuncData} (Q : QC K C) (TR : RestM P w K mg base C BP) (T : LkD P w K mg base C) (F : Fun K "looks_left" "looks_left" (top 31) f fd) : FnOk P w K mg base (L2.CX P w) 10 f fd ["question", "pattern"] (spF K (lfR C BP)) := by
  refine fn_exc F (N := ["question", "pattern"]) ⟨rfl, rfl, rfl, by decide +kernel, rfl, by decide +kernel, by decide +kernel⟩ (fun ds c o h => ?_) (fun cdv A outer s H E hr p ds c o h tk => ?_)
  · obtain ⟨l, d, rfl, _⟩ := h
    rfl
  · obtain ⟨l, d, rfl, tb, fd', rfl⟩ := h
    cases h : okPat l d with
    | false =>
      rw [if_neg Bool.false_ne_true]
      exact rss_ex (rs_retX (re_c0Z T hr (ra_consX (re_qmeth tk TR Q (hr.mono (by decide)) (re_var 0) (ra_cons (re_var 1) ra_nil) ⟨l, d, rfl, tb, fd', by rw [h, if_neg Bool.false_ne_true]⟩))))
    | true =>
      rw [if_pos rfl]
      obtain ⟨m, rfl, h6, hp, hl⟩ := okPat_str h
      rw [cds_tx]
      have e : cD l m = cD (restL l m) (dash (manyOf (restL l m))) := by
        unfold cD
        rw [(rest_all hp h6).1]
      rw [e]
      exact .inl (rss_ret (rs_ret (re_c0 T hr (ra_cons (re_qmeth (o := .val (qD C (restL l m)) true c) tk TR Q (hr.mono (by decide)) (re_var 0) (ra_cons (re_var 1) ra_nil) ⟨l, _, rfl, tb, fd', by rw [h, if_pos rfl, cds_tx]⟩) ra_nil) ⟨_, rfl, rest_tab tb h6 hp hl, rfl⟩)))
abbrev LfD (P : Program) (w : World) (K : PySem.W.Frag) (mg : Str → Option Value) (base : Heap) (C BP : Addr) := Def1 P w K mg base 10 "looks_left" ["question", "pattern"] (lfR C BP)
end
end K41

namespace K41
open PySem PySem.Spec PyProof.Rows L2 LA
/-! ### strategies -/
def nsR (C : Addr) : FSpec := fun ds c o => ∃ l, ds = [qD C l] ∧ Tab l ∧ o = .val (.dct (mpK (stD l) (revP (manyOf l)))) false c
def gN (l m : List Nat) : LA.G := ⟨decide (¬ 0 < cst l m), true⟩
def stgO (l : List Nat) (d e : D) (Cn BP : Addr) (c : PC) (o : EO) : Prop :=
  (okPat l d = false ∧ o = .ex BP [("given", d)] c) ∨ (okPat l d = true ∧ ((posD e 7 = false ∧ o = .ex Cn [("given", e)] c) ∨ (posD e 7 = true ∧ o = .val (.lst (gN l (cds d)) (nsD (nxt l (cds d) (cntN e)))) true c)))
def stgR (C Cn BP : Addr) : FSpec := fun ds c o => ∃ l d e, ds = [qD C l, d, e] ∧ Tab l ∧ Fit d ∧ Ty e ∧ stgO l d e Cn BP c o
abbrev nSg : List Str := ["question", "pattern", "spare", "rest", "steps", "whole", "most", "best", "costs", "at", "position", "cost"]
theorem scSg : FnScope nSg ["question", "pattern", "spare"] (defScope (top 34)) := ⟨rfl, rfl, rfl, by decide +kernel, rfl, by decide +kernel, by decide +kernel⟩
section
variable {P : Program} {w : World} {K : PySem.W.Frag} {mg : Str → Option Value} {base : Heap} {Cn C BI BT fo BP : Addr}
theorem ok_ns {f : Addr} {fd : FuncData} (R : Rule P w K mg base fo) (T : BsD P w K mg base C fo) (F : Fun K "next_steps" "next_steps" (top 35) f fd) : FnOk P w K mg base CX0 8 f fd ["question"] (spF K (nsR C)) := by
  obtain ⟨fdo, r1, r2, r3, r4⟩ := R.ex
  refine fn_val F (N := ["question"]) ⟨rfl, rfl, rfl, by decide +kernel, rfl, by decide +kernel, by decide +kernel⟩ (fun ds c o h => ?_) (fun ds c o h => ?_) (fun cdv A outer s H E hr p ds c o h => ?_)
  · obtain ⟨l, rfl, _⟩ := h
    rfl
  · obtain ⟨l, _, _, rfl⟩ := h
    exact ⟨_, _, _, rfl⟩
  · obtain ⟨l, rfl, tb, rfl⟩ := h
    exact .inl (rss_ret (rs_ret (re_c0 T hr (ra_cons (re_var 0) (ra_cons (re_gdef r2) ra_nil)) ⟨l, rfl, tb, rfl⟩)))
abbrev NsD (P : Program) (w : World) (K : PySem.W.Frag) (mg : Str → Option Value) (base : Heap) (C : Addr) := Def0 P w K mg base 8 "next_steps" ["question"] (nsR C)
theorem ns_get {b : List Nat} {i : Nat} (h : i < b.length) : (nsD b).getD i .non = .int ((b.getD i 0 : Nat) : Int) := by
  unfold nsD
  rw [List.getD_eq_getElem?_getD, List.getD_eq_getElem?_getD, List.getElem?_map, List.getElem?_eq_getElem h]
  rfl
theorem ok_sg {f : Addr} {fd : FuncData} (G : Glb mg) (Q : QC K C) (PM : QProp P w K mg base C "many" (manyR C)) (TR : RestM P w K mg base C BP) (TC : CntD P w K mg base Cn) (TN : NsD P w K mg base C) (TK : CoD P w K mg base fo) (TU : UnD P w K mg base) (R : Rule P w K mg base fo) (F : FunD K "strategies" "strategies" (defArgs (top 34)) (defBody (top 34)) (defScope (top 34)) [] [("spare", .int 0)] f fd) : FnOk P w K mg base (L2.CX P w) 10 f fd ["question", "pattern", "spare"] (spF K (stgR C Cn BP)) := by
  obtain ⟨fdo, r1, r2, r3, r4⟩ := R.ex
  refine fn_excD F scSg (fun ds c o h => ?_) (fun cdv A outer s H E hr p ds c o h tk => ?_)
  · obtain ⟨l, d, e, rfl, _⟩ := h
    rfl
  · obtain ⟨l, d, e, rfl, tb, fd', ty, ho⟩ := h
    rcases ho with ⟨h1, rfl⟩ | ⟨h1, ho⟩
    · exact rss_ex (rs_setX (i := 3) scSg.nd (re_qmeth tk TR Q (hr.mono (by decide)) (re_var 0) (ra_cons (re_var 1) ra_nil) ⟨l, d, rfl, tb, fd', by rw [h1, if_neg Bool.false_ne_true]⟩))
    · obtain ⟨m, rfl, h6, hp, hl⟩ := okPat_str h1
      rw [cds_tx] at ho
      have tr := rest_tab tb h6 hp hl
      obtain ⟨ra1, ra2⟩ := rest_all (l := l) hp h6
      have rs1 := rest_sett (l := l) hp h6
      have nm := rest_many (l := l) h6
      have n6 := (tab_pow tr.1).2
      generalize el : restL l m = l' at *
      generalize hn : manyOf l' = n at *
      have hu : (cxOf (L2.CX P w) P w K mg base nSg "strategies" (defScope (top 34)) f cdv A outer s H E).A.units + 1 < cLine := Nat.lt_of_le_of_lt (Nat.add_le_add_left (show 1 ≤ 64 by decide) _) hr.units
      let S : D := .dct (mpK (stD l') (revP n))
      let fr : Option D → Option D → Option D → Option D → Option D → Option D → Option D → Option D → Option D → Rho := fun a b c d e1 f g h i => [some (qD C l), some (.str (tx m)), some e, a, b, c, d, e1, f, g, h, i]
      refine body_cons (c1 := c) (ρ1 := fr (some (qD C l')) none none none none none none none none) (rs_set (nw := true) 3 scSg.nd (re_qmeth (o := .val (qD C l') true c) tk TR Q (hr.mono (by decide)) (re_var 0) (ra_cons (re_var 1) ra_nil) ⟨l, _, rfl, tb, fd', by rw [h1, if_pos rfl, cds_tx, el]⟩)) ?_
      rcases ho with ⟨h2, rfl⟩ | ⟨h2, rfl⟩
      · exact rss_ex (rs_exprX (re_c1D (es' := [.int 6]) tk TC (hr.mono (by decide)) (ra_cons (re_var 2) ra_nil) (fun q H => sixes) ⟨e, rfl, ty, by rw [h2, if_neg Bool.false_ne_true]⟩))
      · obtain ⟨i, rfl, i0⟩ : ∃ i : Nat, e = .int ((i : Nat) : Int) ∧ i ≤ 6 := by
          cases e with
          | int i =>
            obtain ⟨a1, a2⟩ := Bool.and_eq_true_iff.mp (show (decide (0 ≤ i) && decide (i < 7)) = true from h2)
            have a1 := of_decide_eq_true a1
            have a2 := of_decide_eq_true a2
            exact ⟨i.toNat, congrArg D.int (Int.toNat_of_nonneg a1).symm, by omega⟩
          | _ => cases h2
        have ec : cntN (.int ((i : Nat) : Int)) = i := Int.toNat_natCast i
        rw [ec]
        refine body_cons (rs_expr (re_c1D (es' := [.int 6]) (o := .val .non true c) tk TC (hr.mono (by decide)) (ra_cons (re_var 2) ra_nil) (fun q H => sixes) ⟨_, rfl, ty, by rw [h2, if_pos rfl]⟩)) ?_
        refine body_cons (c1 := c) (ρ1 := fr (some (qD C l')) (some S) none none none none none none none) (rs_set (nw := false) 4 scSg.nd (re_c0 TN (hr.mono (by decide)) (ra_cons (re_var 3) ra_nil) ⟨l', rfl, tr, by rw [hn]⟩)) ?_
        refine body_cons (c1 := c) (ρ1 := fr (some (qD C l')) (some S) (some (.str (tx (dash n)))) none none none none none none) (rs_set (nw := true) 5 scSg.nd (re_to (re_dashQ PM Q (hr.mono (by decide)) tr (re_var 3)) (by rw [hn]))) ?_
        refine body_cons (c1 := c) (ρ1 := fr (some (qD C l')) (some S) (some (.str (tx (dash n)))) (some (.int ((cst l' (dash n) : Nat) : Int))) (some (bsD l' (dash n))) none none none none) (rs_tg (d := .tup [.int ((cst l' (dash n) : Nat) : Int), bsD l' (dash n)]) (nw := false) (re_dget (k := .inr (tx (dash n))) hu (re_var 4) (re_var 5) (mpK_at (stD l') (List.mem_reverse.mpr (dash_pat n)))) (pg_tup rfl (pgs_cons (pg_name (i := 6) scSg.nd rfl (Or.inr rfl)) (pgs_cons (pg_name (i := 7) scSg.nd rfl (Or.inl rfl)) pgs_nil))) (tg_two (vs := [6, 7]) (by decide) (by decide))) ?_
        have ul : (unk m).length = n := by rw [unk_len, nm]
        by_cases hs : sett l m = none
        · have cp : 0 < cst l m := cst_pos.mpr hs
          have en : nxt l m i = fstL l m i := by
            unfold nxt
            rw [if_pos cp]
          have eg : gN l m = ⟨false, true⟩ := by
            unfold gN
            rw [decide_eq_false (fun z => z cp)]
          rw [en, eg]
          refine body_cons (c1 := c) (rs_if (kb := false) (rt_to (rt_cmp op_isN (re_var 7) re_non (ov_isN (bs_non l' (dash n)))) (by rw [rs1, decide_eq_true hs]; rfl)) (fun z => nomatch z) fun _ => rss_nil) ?_
          have e1 : coll (fun _ => true) (fun j => .int ((cs1 l m (un m j) : Nat) : Int)) (intsD n).length = (List.range n).map fun j => D.int ((cs1 l m (un m j) : Nat) : Int) := by
            rw [coll_all, intsD_len]
          refine body_cons (c1 := c) (ρ1 := fr (some (qD C l')) (some S) (some (.str (tx (dash n)))) (some (.int ((cst l' (dash n) : Nat) : Int))) (some (bsD l' (dash n))) (some (.lst ⟨false, true⟩ (coll (fun _ => true) (fun j => .int ((cs1 l m (un m j) : Nat) : Int)) (intsD n).length))) none none none) ?_ ?_
          · refine rs_lc (own := [("at", 9)]) (g := gName 9) (xs := intsD n) 8 (fun _ => true) (fun j => .int ((cs1 l m (un m j) : Nat) : Int)) (fun _ => c) (fun _ => c) (fun j => fr (some (qD C l')) (some S) (some (.str (tx (dash n)))) (some (.int ((cst l' (dash n) : Nat) : Int))) (some (bsD l' (dash n))) none (some (.int ((j : Nat) : Int))) none none) (fun _ => true) rfl scSg.nd (ri_rangeN G.range (re_to (re_qprop PM Q (hr.mono (by decide)) (re_var 3) ⟨l', rfl, rfl⟩) (by rw [hn])) (by omega)) (blkOk_by (N := nSg) (sc := defScope (top 34)) (by decide +kernel)) (fun _ _ _ _ _ => pg_name (i := 9) scSg.nd rfl (Or.inl rfl)) (fun j d h => ?_) (fun j d h q s H C' cl fp => pts_all) (fun j d h _ q s H C' cl fp => ?_) (fun _ _ _ z => nomatch z) (by rw [intsD_len]; omega)
            · obtain ⟨rfl, _⟩ := intsD_at h
              exact tg_name (by decide)
            · obtain ⟨rfl, jn⟩ := intsD_at h
              have e2 := ra2 j (by omega)
              rw [← e2]
              have sp : ∀ x, x = 48 ∨ x = 49 → (dash n).set j x ∈ revP n := fun x hx => List.mem_reverse.mpr (patT_mem.mpr ⟨by rw [List.length_set]; exact dash_len n, fun y hy => by
                rcases List.mem_or_eq_of_mem_set hy with z | z
                · rw [dash_mem z]; decide
                · rw [z]
                  rcases hx with rfl | rfl <;> decide⟩)
              exact re_c0 TK (hr.mono (by decide)) (ra_cons (re_var 4) (ra_cons (re_var 5) (ra_cons (re_var 9) (ra_cons (re_gdef r2) ra_nil)))) ⟨S, _, dash n, j, _, _, _, _, rfl, .inl rfl, by rw [dash_len]; exact jn, by rw [dash_len]; omega, mpK_at (stD l') (sp 48 (.inl rfl)), mpK_at (stD l') (sp 49 (.inr rfl)), rfl⟩
          · refine .inl (rss_ret (rs_ret ?_))
            let cs : List D := coll (fun _ => true) (fun j => .int ((cs1 l m (un m j) : Nat) : Int)) (intsD n).length
            have cl : cs.length = n := by
              show (coll _ _ _).length = n
              rw [e1, List.length_map, List.length_range]
            have zl : (zipLL (nsD (unk m)) cs).length = (unk m).length := by
              unfold zipLL
              rw [List.length_map, List.length_range, nsD_len, cl, ul, Nat.min_self]
            have e2 : nsD (fstL l m i) = coll (fun j => decide (cs1 l m ((unk m).getD j 0) ≤ cst l m + i)) (fun j => .int (((unk m).getD j 0 : Nat) : Int)) (zipLL (nsD (unk m)) cs).length := by
              rw [zl]
              exact (coll_sel 0 (fun x => decide (cs1 l m x ≤ cst l m + i)) (fun x => D.int ((x : Nat) : Int)) (unk m)).symm
            rw [e2]
            have at_ : ∀ {j : Nat} {d : D}, (zipLL (nsD (unk m)) cs)[j]? = some d → j < n ∧ d = .tup [.int (((unk m).getD j 0 : Nat) : Int), .int ((cs1 l m ((unk m).getD j 0) : Nat) : Int)] := fun {j d} h => by
              obtain ⟨h1, h3⟩ := zipLL_at h
              have jn : j < n := Nat.lt_of_lt_of_le h1 (Nat.le_trans (Nat.min_le_right _ _) (by rw [cl]; exact Nat.le_refl _))
              refine ⟨jn, ?_⟩
              have q : cs.getD j .non = .int ((cs1 l m (un m j) : Nat) : Int) := by
                show (coll _ _ _).getD j .non = _
                rw [e1, List.getD_eq_getElem?_getD, List.getElem?_map, List.getElem?_range jn]
                rfl
              rw [h3, ns_get (by omega), q]
              rfl
            refine re_lc (own := [("position", 10), ("cost", 11)]) (g := gTup K 2 (gCons (gName 10) (gCons (gName 11) gNil))) (xs := zipLL (nsD (unk m)) cs) _ _ (fun _ => c) (fun _ => c) (fun j => fr (some (qD C l')) (some S) (some (.str (tx (dash n)))) (some (.int ((cst l' (dash n) : Nat) : Int))) (some (bsD l' (dash n))) (some (.lst ⟨false, true⟩ cs)) none (some (.int (((unk m).getD j 0 : Nat) : Int))) (some (.int ((cs1 l m ((unk m).getD j 0) : Nat) : Int)))) (fun _ => false) rfl scSg.nd (ri_zLL G.zip (ra_cons (re_c0 TU (hr.mono (by decide)) (ra_cons (re_var 1) ra_nil) ⟨m, rfl, by omega, rfl⟩) (ra_cons (re_var 8) ra_nil))) (blkOk_by (N := nSg) (sc := defScope (top 34)) (by decide +kernel)) (fun _ _ _ _ _ => pg_tup rfl (pgs_cons (pg_name (i := 10) scSg.nd rfl (Or.inl rfl)) (pgs_cons (pg_name (i := 11) scSg.nd rfl (Or.inl rfl)) pgs_nil))) (fun j d h => ?_) (fun j d h q s H C' cl fp => ?_) (fun j d h hb q s H C' cl fp => ?_) (fun j d h hb => rfl) (by rw [zl]; omega)
            · obtain ⟨_, rfl⟩ := at_ h
              exact tg_two (by decide) (by decide)
            · refine pts_one (rt_to (rt_cmp op_le (re_var 11) (re_bin op_add (re_var 6) (re_var 2) ov_ii) ov_ib) ?_)
              show decide (((cs1 l m ((unk m).getD j 0) : Nat) : Int) ≤ ((cst l' (dash n) : Nat) : Int) + ((i : Nat) : Int)) = decide _
              rw [ra1]
              refine decide_eq_decide.mpr ?_
              omega
            · exact re_var 10
        · have cp : ¬ 0 < cst l m := fun z => hs (cst_pos.mp z)
          have en : nxt l m i = [] := by
            unfold nxt
            rw [if_neg cp]
          have eg : gN l m = ⟨true, true⟩ := by
            unfold gN
            rw [decide_eq_true cp]
          rw [en, eg]
          refine .inl (rss_ret (rs_if (kb := true) (rt_to (rt_cmp op_isN (re_var 7) re_non (ov_isN (bs_non l' (dash n)))) (by rw [rs1, decide_eq_false hs]; rfl)) (fun _ => ?_) fun z => nomatch z))
          exact rss_ret (rs_ret (re_lst ra_nil (by show 0 ≤ 100000; decide)))
end
end K41

namespace LA
open PySem PySem.Spec PyProof.Rows L2
section
variable {X : Cx} {W : WX} {p : HD} {ρ : Rho} {c c1 c2 : PC} {a b : Expr} {pos : Pos} {n1 n2 : Bool}
theorem rt_din {xs : List (Key × D)} {k : Key} (hu : X.A.units + 1 < cLine) (hb : RE X W p ρ c b (.val (kD k) n2 c1)) (ha : RE X W p ρ c1 a (.val (.dct xs) n1 c2)) (hm : behindInMarks .In a = false := by first | rfl | exact nomark _) : RT X W p ρ c (.Compare b [.In] [a] pos) (.val (valD xs k).isSome c2) :=
  pt_imp (pt_cmp (pc_din hu hb ha) hm) fun σ H Q ⟨s, kk⟩ => two (W := W) s rfl rfl fun v u H1 e1 p1 dv du => by
    have eu := dv_key dv
    subst eu
    cases du with
    | dct hr hk =>
      refine ⟨_, valV _ k, rfl, .inl ⟨_, k, un_rd hr, rfl, rfl⟩, ?_⟩
      have e : (valV _ k).isSome = (valD xs k).isSome := DVk.some hk
      rw [e]
      exact ⟨_, rfl, kk H1 e1 p1⟩
end
end LA
namespace K41
open PySem PySem.Spec PyProof.Rows L2 LA
theorem cv_minI {K : PySem.W.Frag} {p : HD} {c : PC} {g : LA.G} {ns : List Int} {m : Int} (hm : m ∈ ns) (hl : ∀ y ∈ ns, m ≤ y) : CV K p (rMin K) [.lst g (ns.map D.int)] (.int m) true c := fun vs H Q dvs hp k => by
  cases dvs with
  | cons h r =>
    cases r
    cases h with
    | lst hb hq ha =>
      rw [of_ints ha] at hq
      refine ⟨_, ns, rfl, un_sqL hq, List.length_pos_of_mem hm, fun m' h1 h2 => ?_⟩
      have e : m' = m := Int.le_antisymm (h2 m hm) (hl m' h1)
      subst e
      exact k _ H (Ext.refl p H) hp (.int _) fun _ => New.sc (by intro a h; cases h)
/-! ### the law's own: behind a pattern, its open places -/
def bhD (q : List Nat) (i : Nat) : List D := [.str (tx (q.set i 48)), .str (tx (q.set i 49))]
theorem bh_at {q : List Nat} {i j : Nat} {d : D} (h : (bhD q i)[j]? = some d) : d = .str (tx (q.set i (48 + j))) ∧ j < 2 := by
  match j with
  | 0 => exact ⟨(Option.some.inj h).symm, by decide⟩
  | 1 => exact ⟨(Option.some.inj h).symm, by decide⟩
  | j + 2 => cases h
def bhR : FSpec := fun ds c o => ∃ (q : List Nat) (i : Nat), ds = [.str (tx q), .int ((i : Nat) : Int)] ∧ i < q.length ∧ q.length ≤ 100 ∧ o = .val (.lst ⟨false, true⟩ (bhD q i)) true c
section
variable {P : Program} {w : World} {K : PySem.W.Frag} {mg : Str → Option Value} {base : Heap} {Cn C BI BT fo BP : Addr}
abbrev nBh : List Str := ["_law_mask", "_law_spot", "_law_bit"]
theorem scBh : FnScope nBh ["_law_mask", "_law_spot"] (defScope (top 55)) := ⟨rfl, rfl, rfl, by decide +kernel, rfl, by decide +kernel, by decide +kernel⟩
theorem ok_bh {f : Addr} {fd : FuncData} (F : Fun K "_law_behind" "_law_behind" (top 55) f fd) : FnOk P w K mg base CX0 1 f fd ["_law_mask", "_law_spot"] (spF K bhR) := by
  refine fn_val F scBh (fun ds c o h => ?_) (fun ds c o h => ?_) (fun cdv A outer s H E hr p ds c o h => ?_)
  · obtain ⟨q, i, rfl, _⟩ := h
    rfl
  · obtain ⟨q, i, _, _, _, rfl⟩ := h
    exact ⟨_, _, _, rfl⟩
  · obtain ⟨q, i, rfl, lf, hl, rfl⟩ := h
    have zt : (tx q).length ≤ sizeLine := sz_le (by rw [tx_len]; omega)
    have e : bhD q i = coll (fun _ => true) (fun j => D.str (tx (q.set i (48 + j)))) (chars (tx bins)).length := rfl
    rw [e]
    refine .inl (rss_ret (rs_ret ?_))
    refine re_lc (own := [("_law_bit", 2)]) (g := gName 2) (xs := chars (tx bins)) _ _ (fun _ => c) (fun _ => c) (fun j => [some (.str (tx q)), some (.int ((i : Nat) : Int)), some (.str (chr1 (bins.getD j 0)))]) (fun _ => true) rfl scBh.nd (ri_str re_str) (blkOk_by (N := nBh) (sc := defScope (top 55)) (by decide +kernel)) (fun _ _ _ _ _ => pg_name (i := 2) scBh.nd rfl (Or.inl rfl)) (fun j d h => ?_) (fun j d h q' s' H' C' cl' fp => pts_all) (fun j d h _ q' s' H' C' cl' fp => ?_) (fun _ _ _ z => nomatch z) (by rw [signs_len]; decide)
    · obtain ⟨rfl, _⟩ := signs_at h
      exact tg_name (by decide)
    · obtain ⟨_, hi, _⟩ := signs_at h
      have hi2 : j < 2 := hi
      have eb : bins.getD j 0 = 48 + j := by
        match j, hi2 with
        | 0, _ => rfl
        | 1, _ => rfl
      rw [eb]
      have ek : tx (q.set i (48 + j)) = tx (q.take i) ++ chr1 (48 + j) ++ tx (q.drop (i + 1)) := by
        rw [show chr1 (48 + j) = tx [48 + j] from rfl, tx_app, tx_app]
        congr 1
        exact (set_cut lf).symm
      refine re_to (re_bin (n2 := true) op_add_str (re_bin (n1 := true) op_add_str (re_to (re_slS (re_var 0) rp_none (rp_some (W := Wf) (re_var 1)) zt) (congrArg D.str (cut_lo (by omega)))) (re_var 2) (ov_addS ?_)) (re_to (re_slS (re_var 0) (rp_some (W := Wf) (nw := true) (re_to (re_bin op_add (re_var 1) re_int ov_ii) (d' := .int ((i + 1 : Nat) : Int)) (congrArg D.int (by omega)))) rp_none zt) (congrArg D.str (cut_hi (by omega)))) (ov_addS ?_)) (congrArg D.str ek.symm)
      · rw [tx_len, List.length_take]
        show min _ _ + 1 ≤ _
        exact sz_le (by omega)
      · rw [show chr1 (48 + j) = tx [48 + j] from rfl, tx_app, tx_len, tx_len, List.length_append, List.length_take, List.length_drop]
        show min _ _ + 1 + _ ≤ _
        exact sz_le (by omega)
abbrev BhD (P : Program) (w : World) (K : PySem.W.Frag) (mg : Str → Option Value) (base : Heap) := Def0 P w K mg base 1 "_law_behind" ["_law_mask", "_law_spot"] bhR
abbrev nOp : List Str := ["_law_mask", "_law_k"]
theorem scOp : FnScope nOp ["_law_mask"] (defScope (top 56)) := ⟨rfl, rfl, rfl, by decide +kernel, rfl, by decide +kernel, by decide +kernel⟩
theorem ok_op {f : Addr} {fd : FuncData} (G : Glb mg) (F : Fun K "_law_open" "_law_open" (top 56) f fd) : FnOk P w K mg base CX0 1 f fd ["_law_mask"] (spF K uR) := by
  refine fn_val F scOp (fun ds c o h => ?_) (fun ds c o h => ?_) (fun cdv A outer s H E hr p ds c o h => ?_)
  · obtain ⟨q, rfl, _⟩ := h
    rfl
  · obtain ⟨q, _, _, rfl⟩ := h
    exact ⟨_, _, _, rfl⟩
  · obtain ⟨q, rfl, hl, rfl⟩ := h
    have e : nsD (unk q) = coll (fun i => decide (q.getD i 0 = 45)) (fun i => D.int ((i : Nat) : Int)) (intsD q.length).length := by
      rw [intsD_len, coll_some]
      rfl
    refine .inl (rss_ret (rs_ret ?_))
    rw [e]
    refine re_lc (own := [("_law_k", 1)]) (g := gName 1) (xs := intsD q.length) _ _ (fun _ => c) (fun _ => c) (fun i => [some (.str (tx q)), some (.int ((i : Nat) : Int))]) (fun _ => false) rfl scOp.nd (ri_rangeN G.range (re_to (re_callB call_len G.len PySem.boot_len (ra_cons (re_var 0) ra_nil) (cv_lenT (l := q) (by omega))) rfl) (by omega)) (blkOk_by (N := nOp) (sc := defScope (top 56)) (by decide +kernel)) (fun _ _ _ _ _ => pg_name (i := 1) scOp.nd rfl (Or.inl rfl)) (fun i d h => ?_) (fun i d h q' s' H' C' cl' fp => ?_) (fun i d h hb q' s' H' C' cl' fp => re_var 1) (fun i d h hb => rfl) (by rw [intsD_len]; omega)
    · obtain ⟨rfl, _⟩ := intsD_at h
      exact tg_name (by decide)
    · obtain ⟨rfl, hi⟩ := intsD_at h
      have g : (tx q).cps.toList[i]? = some (q.getD i 0) := by
        rw [tx_list, List.getD_eq_getElem?_getD, List.getElem?_eq_getElem hi]
        rfl
      refine pts_one (rt_to (rt_cmp op_eq (re_ix ix_seq (re_var 0) (re_var 1) (ov_ixS (by rw [tx_len]; exact sz_le (by omega)) rfl g)) re_str ov_eqT) (decide_eq_decide.mpr ?_))
      constructor
      · intro h
        exact chr_eq.mp (h.trans (show Str.ofString "-" = chr1 45 by decide))
      · intro h
        rw [h]
        decide
abbrev OpD (P : Program) (w : World) (K : PySem.W.Frag) (mg : Str → Option Value) (base : Heap) := Def0 P w K mg base 1 "_law_open" ["_law_mask"] uR
end
end K41

namespace K41
open PySem PySem.Spec PyProof.Rows L2 LA
/-! ### the law's own: the fewest looks -/
theorem KU_isSome {l q : List Nat} {n : Nat} (hq : q ∈ patT n) : (valD (setK l (KU l n (3 ^ n))) (.inr (tx q))).isSome = !decide (sett l q = none) := by
  by_cases hm : q ∈ KU l n (3 ^ n)
  · rw [setK_at hm]
    have : sett l q ≠ none := by
      unfold KU at hm
      rcases List.mem_append.mp hm with z | z
      · rw [sett_no (bins_no (insT_mem z))]
        exact fun z => nomatch z
      · have z := (List.mem_filter.mp z).2
        unfold qU at z
        have z := (Bool.and_eq_true_iff.mp z).2
        intro y
        rw [decide_eq_true y] at z
        cases z
    rw [decide_eq_false this]
    rfl
  · rw [setK_no hm]
    have : sett l q = none := Decidable.byContradiction fun z => hm (by
      unfold KU
      by_cases h45 : 45 ∈ q
      · refine List.mem_append_right _ (List.mem_filter.mpr ⟨?_, ?_⟩)
        · rw [List.take_of_length_le (by rw [patU_len]; exact Nat.le_refl _)]
          exact patU_mem.mpr hq
        · unfold qU
          rw [decide_eq_true h45, decide_eq_false z]
          rfl
      · obtain ⟨h1, h2⟩ := patT_mem.mp hq
        refine List.mem_append_left _ ((strs_mem bins).mpr ⟨h1, fun c hc => ?_⟩)
        rcases pats_cases (h2 c hc) with rfl | y
        · exact absurd hc h45
        · exact y)
    rw [decide_eq_true this]
    rfl
theorem KU_at {l q : List Nat} {n : Nat} (hq : q ∈ patT n) (h : sett l q ≠ none) : valD (setK l (KU l n (3 ^ n))) (.inr (tx q)) = some (oD (sett l q)) := by
  by_cases hm : q ∈ KU l n (3 ^ n)
  · exact setK_at hm
  · have e := KU_isSome (l := l) hq
    rw [setK_no hm, decide_eq_false h] at e
    cases e
theorem cI_add (a b : Nat) : (1 : Int) + mxL [((a : Nat) : Int), ((b : Nat) : Int)] = ((1 + max a b : Nat) : Int) := by
  show (1 : Int) + max ((a : Nat) : Int) ((b : Nat) : Int) = _
  omega
theorem lt_of_fst {q : List Nat} {i : Nat} (h : i ∈ unk q) : i < q.length := (List.getElem?_eq_some_iff.mp (unk_mem.mp h)).1
section
variable {P : Program} {w : World} {K : PySem.W.Frag} {mg : Str → Option Value} {base : Heap} {Cn C BI BT fo BP : Addr}
def ndR : FSpec := fun ds c o => ∃ (l : List Nat) (n : Nat), ds = [.int ((n : Nat) : Int), .dct (setK l (KU l n (3 ^ n)))] ∧ n ≤ 6 ∧ o = .val (.dct (mpK (cD l) (patU n))) false c
abbrev nNd : List Str := ["_law_many", "_law_settling_here", "_law_found", "_law_mask", "_law_rows", "_law_spot", "_law_other"]
theorem scNd : FnScope nNd ["_law_many", "_law_settling_here"] (defScope (top 57)) := ⟨rfl, rfl, rfl, by decide +kernel, rfl, by decide +kernel, by decide +kernel⟩
abbrev ndF : Stmt := (defBody (top 57)).getD 1 (.Pass ⟨0, 0, 0, 0⟩)
abbrev ndG : Stmt := (fBd ndF).getD 1 (.Pass ⟨0, 0, 0, 0⟩)
theorem ok_nd {f : Addr} {fd : FuncData} (G : Glb mg) (TS : StrsD P w K mg base) (TO : OpD P w K mg base) (TB : BhD P w K mg base) (F : Fun K "_law_needs" "_law_needs" (top 57) f fd) : FnOk P w K mg base CX0 2 f fd ["_law_many", "_law_settling_here"] (spF K ndR) := by
  refine fn_val F scNd (fun ds c o h => ?_) (fun ds c o h => ?_) (fun cdv A outer s H E hr p ds c o h => ?_)
  · obtain ⟨l, n, rfl, _⟩ := h
    rfl
  · obtain ⟨l, n, _, _, rfl⟩ := h
    exact ⟨_, _, _, rfl⟩
  · obtain ⟨l, n, rfl, n6, rfl⟩ := h
    let X := (cxOf CX0 P w K mg base nNd "_law_needs" (defScope (top 57)) f cdv A outer s H E).nox
    have hu1 : X.A.units + 1 < cLine := Nat.lt_of_le_of_lt (Nat.add_le_add_left (show 1 ≤ 64 by decide) _) hr.units
    have p3 : 3 ^ n ≤ 729 := by
      have : 3 ^ n ≤ 3 ^ 6 := Nat.pow_le_pow_right (by decide) n6
      have e : (3 : Nat) ^ 6 = 729 := by decide
      omega
    let se : D := .dct (setK l (KU l n (3 ^ n)))
    let S : Nat → List (Key × D) := fun j => mpK (cD l) ((patU n).take j)
    let fr : Option D → Option D → Option D → Option D → Rho := fun q r a o => [some (.int ((n : Nat) : Int)), some se, some (.mut c.length), q, r, a, o]
    refine .inl (rso_of (rso_newD (ds := []) (c1 := c) 2 (rd_new 2 scNd.nd) rfl fun a => ?_))
    have at_ : ∀ {j : Nat} {d : D}, (wD (patU n))[j]? = some d → ∃ q, (patU n)[j]? = some q ∧ d = .str (tx q) := fun {j d} h => by
      unfold wD at h
      rw [List.getElem?_map] at h
      cases e : (patU n)[j]? with
      | none =>
        rw [e] at h
        cases h
      | some q =>
        rw [e] at h
        exact ⟨q, rfl, (Option.some.inj h).symm⟩
    have loop := rs_for_all (X := X) (W := Wf) (p := HD.muts p [a]) (c := c ++ [.dct (S 0)]) (ρ := fr none none none none) (xs := wD (patU n)) (vs := [3]) (g := gName 3) (body := fBd ndF) (tg := fTg ndF) (it := fIt ndF) (pos := fPs ndF)
      (fun _ => fr none none none none) (fun j => fr (some (.str (tx ((patU n).getD j [])))) none none none) (fun j => c ++ [.dct (S j)]) PassesOwn.never rfl rfl
      (ri_lst (re_c0 TS (hr.mono (by decide)) (ra_cons (re_var 0) (ra_cons re_str ra_nil)) ⟨sgnU, n, rfl, n6, by decide, by decide, rfl⟩)) (pg_name (i := 3) scNd.nd rfl (by first | exact Or.inl rfl | exact Or.inr rfl)) (fun j d h => ?_) (fun j d h => ?_)
    · refine rso_cons loop ?_
      rw [wD_len]
      have e : S (patU n).length = mpK (cD l) (patU n) := by
        show mpK (cD l) ((patU n).take _) = _
        rw [List.take_length]
      rw [e]
      refine rso_frzD 2 (rso_in ?_) rfl (.one rfl (.one ?_ (.non (.non (.non (.non (.non .nil)))))))
      · exact rss_ret (rs_ret (re_var 2))
      · exact low_setK l _ _
    · obtain ⟨q, hq, rfl⟩ := at_ h
      have e : (patU n).getD j [] = q := by rw [List.getD_eq_getElem?_getD, hq]; rfl
      rw [e]
      exact tg_name (by decide)
    · obtain ⟨q, hq, rfl⟩ := at_ h
      have e : (patU n).getD j [] = q := by rw [List.getD_eq_getElem?_getD, hq]; rfl
      rw [e]
      have qm : q ∈ patT n := patU_mem.mp (List.mem_of_getElem? hq)
      obtain ⟨ql, qc⟩ := patT_mem.mp qm
      have nx : S (j + 1) = putD2 (S j) (.inr (tx q)) (cD l q) := by
        show mpK _ _ = putD2 (mpK _ _) _ _
        rw [mpK_put (cD l) (u_new hq), List.take_add_one, hq]
        rfl
      have lz : (S j).length < 100000 := by
        show (mpK _ _).length < _
        rw [mpK_len, List.length_take, patU_len]
        omega
      have hh : ∀ i ∈ unk q, ∀ b, b = 48 ∨ b = 49 → q.set i b ∈ (patU n).take j := fun i hi b hb => u_before hq (patU_mem.mpr (patT_mem.mpr ⟨by rw [List.length_set]; exact ql, fun x hx => by
        rcases List.mem_or_eq_of_mem_set hx with z | z
        · exact qc x z
        · rw [z]
          rcases hb with rfl | rfl <;> decide⟩)) (nvU_set q 0 i (unk_mem.mp hi) (by rcases hb with rfl | rfl <;> decide))
      let R : Nat → List D := fun k => ((unk q).take k).map fun i => D.int ((cs1 l q i : Nat) : Int)
      refine rss_less (ρ1 := fr (some (.str (tx q))) (some (.lst ⟨false, true⟩ (R (unk q).length))) none none) ?_ (by repeat (first | exact Less.nil | apply Less.same | apply Less.skip))
      refine rso_of (rso_new (g := ⟨true, true⟩) (ds := []) (c1 := c ++ [.dct (S j)]) 4 (rn_set (W := Wf) 4 scNd.nd (re_lst ra_nil (by show 0 ≤ 100000; decide))) rfl fun b => ?_)
      have cl : (c ++ [Cell.dct (S j)]).length = c.length + 1 := by simp
      have cat : ∀ y, ((c ++ [Cell.dct (S j)]) ++ [y])[c.length]? = some (.dct (S j)) := fun y => by simp
      have loop2 := rs_for_all (X := X) (W := Wf) (p := HD.muts (HD.muts p [a]) [b]) (c := (c ++ [.dct (S j)]) ++ [.lst (R 0)]) (ρ := fr (some (.str (tx q))) (some (.mut (c ++ [Cell.dct (S j)]).length)) none none) (xs := nsD (unk q)) (vs := [5]) (g := gName 5) (body := fBd ndG) (tg := fTg ndG) (it := fIt ndG) (pos := fPs ndG)
        (fun _ => fr (some (.str (tx q))) (some (.mut (c ++ [Cell.dct (S j)]).length)) none none) (fun k => fr (some (.str (tx q))) (some (.mut (c ++ [Cell.dct (S j)]).length)) (some (.int (((unk q).getD k 0 : Nat) : Int))) none) (fun k => (c ++ [.dct (S j)]) ++ [.lst (R k)]) PassesOwn.never rfl rfl
        (ri_lst (re_c0 TO (hr.mono (by decide)) (ra_cons (re_var 3) ra_nil) ⟨q, rfl, by omega, rfl⟩)) (pg_name (i := 5) scNd.nd rfl (by first | exact Or.inl rfl | exact Or.inr rfl)) (fun k d h => ?_) (fun k d h => ?_)
      · refine rso_cons loop2 ?_
        rw [nsD_len]
        refine rso_frz (ρ := fr (some (.str (tx q))) (some (.mut (c ++ [Cell.dct (S j)]).length)) none none) (ds := R (unk q).length) (c := c ++ [.dct (S j)]) 4 (rso_in ?_) rfl (.one rfl (.one ?_ (.one ?_ (.one rfl (.non (.non (.non .nil)))))))
        · rw [nx]
          have cl0 : ∀ y, (c ++ [Cell.dct (S j)]).set c.length y = c ++ [y] := fun y => set_last c _ y
          rw [← cl0 (.dct (putD2 (S j) (.inr (tx q)) (cD l q)))]
          refine rss_cons (ρ1 := fr (some (.str (tx q))) (some (.lst ⟨false, true⟩ (R (unk q).length))) none none) (rs_dputM (ky := .inr (tx q)) 2 c.length hu1 (nw := false) ?_ (re_var 3) cell_last lz rfl) rss_nil
          refine re_if (rt_din (k := .inr (tx q)) hu1 (re_var 3) (re_var 1)) (fun hk => ?_) (fun hk => ?_)
          · rw [KU_isSome qm] at hk
            have hs : sett l q ≠ none := by simpa using hk
            have e0 : cD l q = .int 0 := by
              unfold cD
              rw [cst_no hs]
              rfl
            rw [e0]
            exact re_old re_int
          · rw [KU_isSome qm] at hk
            have hs : sett l q = none := by simpa using hk
            have eR : R (unk q).length = ((unk q).map fun i => ((cs1 l q i : Nat) : Int)).map D.int := by
              show ((unk q).take _).map _ = _
              rw [List.take_length, List.map_map]
              rfl
            obtain ⟨i0, hi0, e0⟩ := cst_mem hs
            refine re_old (re_callB (ds := [.lst ⟨false, true⟩ (((unk q).map fun i => ((cs1 l q i : Nat) : Int)).map D.int)]) (cr_min rfl) G.min PyProof.Rows.boot_min (ra_cons (nw := false) (by rw [← eR]; exact re_var 4) ra_nil) (cv_minI (List.mem_map.mpr ⟨i0, hi0, by rw [e0]⟩) fun y hy => ?_))
            obtain ⟨i, hi, rfl⟩ := List.mem_map.mp hy
            have := cst_le hs hi
            omega
        · exact low_setK l _ _
        · show decide (c.length < (c ++ [Cell.dct (S j)]).length) = true
          exact decide_eq_true (by rw [cl]; omega)
      · obtain ⟨rfl, _⟩ := ns_at h
        exact tg_name (by decide)
      · obtain ⟨rfl, hm⟩ := ns_at h
        have kl : k < (unk q).length := by
          have := (List.getElem?_eq_some_iff.mp h).1
          rwa [nsD_len] at this
        generalize hi : (unk q).getD k 0 = i at *
        have il := lt_of_fst hm
        have nR : R (k + 1) = R k ++ [.int ((cs1 l q i : Nat) : Int)] := by
          show ((unk q).take (k + 1)).map _ = ((unk q).take k).map _ ++ _
          rw [List.take_add_one, List.getElem?_eq_getElem kl, List.map_append]
          rw [List.getD_eq_getElem?_getD, List.getElem?_eq_getElem kl] at hi
          have hi : (unk q)[k] = i := hi
          rw [hi]
          rfl
        have lR : (R k).length < 100000 := by
          show (((unk q).take k).map _).length < _
          rw [List.length_map, List.length_take, unk_len]
          have := List.count_le_length (a := 45) (l := q)
          omega
        have cl1 : ∀ y : Cell, ((c ++ [Cell.dct (S j)]) ++ [Cell.lst (R k)]).set (c ++ [Cell.dct (S j)]).length y = (c ++ [Cell.dct (S j)]) ++ [y] := fun y => set_last _ _ y
        refine rss_less (ρ1 := fr (some (.str (tx q))) (some (.mut (c ++ [Cell.dct (S j)]).length)) (some (.int ((i : Nat) : Int))) none) ?_ (by repeat (first | exact Less.nil | apply Less.same | apply Less.skip))
        rw [nR, ← cl1 (Cell.lst (R k ++ [D.int ((cs1 l q i : Nat) : Int)]))]
        refine rss_cons (ρ1 := fr (some (.str (tx q))) (some (.mut (c ++ [Cell.dct (S j)]).length)) (some (.int ((i : Nat) : Int))) none) (rs_app (nw := true) 4 (c ++ [Cell.dct (S j)]).length ?_ ⟨_, cell_last⟩ cell_last lR rfl) rss_nil
        refine re_to (re_bin op_add re_int (re_callB (ds := [.lst ⟨false, true⟩ ([((cst l (q.set i 48) : Nat) : Int), ((cst l (q.set i 49) : Nat) : Int)].map D.int)]) (cr_max rfl) G.max PyProof.Rows.boot_max (ra_cons (nw := true) ?_ ra_nil) (cv_maxL (by show 0 < 2; decide))) ov_ii) (congrArg D.int (cI_add _ _))
        refine re_lc (own := [("_law_other", 6)]) (g := gName 6) (xs := bhD q i) (fun _ => true) (fun t => cD l (q.set i (48 + t))) (fun _ => (c ++ [Cell.dct (S j)]) ++ [Cell.lst (R k)]) (fun _ => (c ++ [Cell.dct (S j)]) ++ [Cell.lst (R k)]) (fun t => fr (some (.str (tx q))) (some (.mut (c ++ [Cell.dct (S j)]).length)) (some (.int ((i : Nat) : Int))) (some (.str (tx (q.set i (48 + t)))))) (fun _ => false) rfl scNd.nd (ri_lst (re_c0 TB (hr.mono (by decide)) (ra_cons (re_var 3) (ra_cons (re_var 5) ra_nil)) ⟨q, i, rfl, il, by omega, rfl⟩)) (blkOk_by (N := nNd) (sc := defScope (top 57)) (by decide +kernel)) (fun _ _ _ _ _ => pg_name (i := 6) scNd.nd rfl (Or.inl rfl)) (fun t d h => ?_) (fun t d h q' s' H' C' cl' fp => pts_all) (fun t d h _ q' s' H' C' cl' fp => ?_) (fun _ _ _ z => nomatch z) (by show 2 ≤ 100000; decide)
        · obtain ⟨rfl, _⟩ := bh_at h
          exact tg_name (by decide)
        · obtain ⟨rfl, ht⟩ := bh_at h
          exact re_dgetM (ky := .inr (tx (q.set i (48 + t)))) 2 c.length hu1 (re_var 6) ⟨_, cat _⟩ (cat _) (mpK_at (cD l) (hh i hm (48 + t) (by omega)))
abbrev NdD (P : Program) (w : World) (K : PySem.W.Frag) (mg : Str → Option Value) (base : Heap) := Def0 P w K mg base 2 "_law_needs" ["_law_many", "_law_settling_here"] ndR
end
end K41

namespace K41
open PySem PySem.Spec PyProof.Rows L2 LA
/-! ### the law's own: what is next, the best tree -/
theorem cI_le {a b : Nat} {x y : Nat} : decide ((1 : Int) + mxL [((a : Nat) : Int), ((b : Nat) : Int)] ≤ ((x : Nat) : Int) + ((y : Nat) : Int)) = decide (1 + max a b ≤ x + y) := by
  rw [cI_add]
  exact decide_eq_decide.mpr (by omega)
def nxR : FSpec := fun ds c o => ∃ (l m : List Nat) (n s : Nat), ds = [.dct (mpK (cD l) (patU n)), .str (tx m), .int ((s : Nat) : Int)] ∧ n ≤ 6 ∧ m ∈ patT n ∧ o = .val (.lst (gN l m) (nsD (nxt l m s))) false c
abbrev nNx : List Str := ["_law_fewest", "_law_mask", "_law_surplus", "_law_found", "_law_spot", "_law_other"]
theorem scNx : FnScope nNx ["_law_fewest", "_law_mask", "_law_surplus"] (defScope (top 58)) := ⟨rfl, rfl, rfl, by decide +kernel, rfl, by decide +kernel, by decide +kernel⟩
abbrev nxF : Stmt := (defBody (top 58)).getD 1 (.Pass ⟨0, 0, 0, 0⟩)
abbrev nxI : Stmt := (fBd nxF).getD 0 (.Pass ⟨0, 0, 0, 0⟩)
section
variable {P : Program} {w : World} {K : PySem.W.Frag} {mg : Str → Option Value} {base : Heap} {Cn C BI BT fo BP : Addr}
theorem set_pat {q : List Nat} {n i x : Nat} (hq : q ∈ patT n) (hx : x = 48 ∨ x = 49) : q.set i x ∈ patT n := by
  obtain ⟨ql, qc⟩ := patT_mem.mp hq
  refine patT_mem.mpr ⟨by rw [List.length_set]; exact ql, fun y hy => ?_⟩
  rcases List.mem_or_eq_of_mem_set hy with z | z
  · exact qc y z
  · rw [z]
    rcases hx with rfl | rfl <;> decide
theorem ok_nx {f : Addr} {fd : FuncData} (G : Glb mg) (TO : OpD P w K mg base) (TB : BhD P w K mg base) (F : Fun K "_law_next" "_law_next" (top 58) f fd) : FnOk P w K mg base CX0 2 f fd ["_law_fewest", "_law_mask", "_law_surplus"] (spF K nxR) := by
  refine fn_val F scNx (fun ds c o h => ?_) (fun ds c o h => ?_) (fun cdv A outer s H E hr p ds c o h => ?_)
  · obtain ⟨l, m, n, s, rfl, _⟩ := h
    rfl
  · obtain ⟨l, m, n, s, _, _, _, rfl⟩ := h
    exact ⟨_, _, _, rfl⟩
  · obtain ⟨l, m, n, u, rfl, n6, hm, rfl⟩ := h
    obtain ⟨ql, qc⟩ := patT_mem.mp hm
    let X := (cxOf CX0 P w K mg base nNx "_law_next" (defScope (top 58)) f cdv A outer s H E).nox
    have hu1 : X.A.units + 1 < cLine := Nat.lt_of_le_of_lt (Nat.add_le_add_left (show 1 ≤ 64 by decide) _) hr.units
    let fw : D := .dct (mpK (cD l) (patU n))
    have at1 : ∀ q, q ∈ patT n → valD (mpK (cD l) (patU n)) (.inr (tx q)) = some (cD l q) := fun q hq => mpK_at (cD l) (patU_mem.mpr hq)
    let fr : Option D → Option D → Option D → Rho := fun r a o => [some fw, some (.str (tx m)), some (.int ((u : Nat) : Int)), r, a, o]
    let b : Nat → Bool := fun i => decide (cs1 l m i ≤ cst l m + u)
    let R : Nat → List D := fun k => nsD (((unk m).take k).filter b)
    refine .inl (rso_of (rso_new (g := ⟨true, true⟩) (ds := []) (c1 := c) 3 (rn_set (W := Wf) 3 scNx.nd (re_lst ra_nil (by show 0 ≤ 100000; decide))) rfl fun a => ?_))
    have loop := rs_for_all (X := X) (W := Wf) (p := HD.muts p [a]) (c := c ++ [.lst (R 0)]) (ρ := fr (some (.mut c.length)) none none) (xs := nsD (unk m)) (vs := [4]) (g := gName 4) (body := fBd nxF) (tg := fTg nxF) (it := fIt nxF) (pos := fPs nxF)
        (fun _ => fr (some (.mut c.length)) none none) (fun k => fr (some (.mut c.length)) (some (.int (((unk m).getD k 0 : Nat) : Int))) none) (fun k => c ++ [.lst (R k)]) PassesOwn.never rfl rfl
        (ri_lst (re_c0 TO hr (ra_cons (re_var 1) ra_nil) ⟨m, rfl, by omega, rfl⟩)) (pg_name (i := 4) scNx.nd rfl (by first | exact Or.inl rfl | exact Or.inr rfl)) (fun k d h => ?_) (fun k d h => ?_)
    · refine rso_cons loop ?_
      rw [nsD_len]
      have eR : R (unk m).length = nsD (fstL l m u) := by
        show nsD (((unk m).take _).filter b) = _
        rw [List.take_length]
        rfl
      rw [eR]
      refine rso_frz (ρ := fr (some (.mut c.length)) none none) (ds := nsD (fstL l m u)) (c := c) 3 (rso_in ?_) rfl (.one ?_ (.one rfl (.one rfl (.non (.non (.non .nil))))))
      · refine rss_ret (rs_ret (re_if (k := decide ((0 : Int) < ((cst l m : Nat) : Int))) (rt_cmp (nw := true) op_gt (re_dget (k := .inr (tx m)) hu1 (re_var 0) (re_var 1) (at1 m hm)) re_int (ov_ib (f := fun i j => decide (j < i)))) (fun hk => ?_) (fun hk => ?_)))
        · have hk := of_decide_eq_true hk
          have hc : 0 < cst l m := by omega
          have e1 : nxt l m u = fstL l m u := by
            unfold nxt
            rw [if_pos hc]
          have e2 : gN l m = ⟨false, true⟩ := by
            unfold gN
            rw [decide_eq_false (fun z => z hc)]
          rw [e1, e2]
          exact re_var 3
        · have hk := of_decide_eq_false hk
          have hc : ¬ 0 < cst l m := by omega
          have e1 : nxt l m u = [] := by
            unfold nxt
            rw [if_neg hc]
          have e2 : gN l m = ⟨true, true⟩ := by
            unfold gN
            rw [decide_eq_true hc]
          rw [e1, e2]
          exact re_old (re_lst ra_nil (by show 0 ≤ 100000; decide))
      · exact mpK_low (cD l) _ (fun q => rfl) _
    · obtain ⟨rfl, _⟩ := ns_at h
      exact tg_name (by decide)
    · obtain ⟨rfl, hi0⟩ := ns_at h
      have kl : k < (unk m).length := by
        have := (List.getElem?_eq_some_iff.mp h).1
        rwa [nsD_len] at this
      generalize hi : (unk m).getD k 0 = i at *
      have il := lt_of_fst hi0
      rw [List.getD_eq_getElem?_getD, List.getElem?_eq_getElem kl] at hi
      have hi : (unk m)[k] = i := hi
      have nR : R (k + 1) = if b i = true then R k ++ [.int ((i : Nat) : Int)] else R k := by
        show nsD (((unk m).take (k + 1)).filter b) = _
        rw [List.take_add_one, List.getElem?_eq_getElem kl, List.filter_append, hi]
        by_cases hb : b i = true
        · rw [if_pos hb]
          have e1 : List.filter b (some i).toList = [i] := by
            show List.filter b [i] = [i]
            simp [hb]
          rw [e1]
          unfold nsD
          rw [List.map_append]
          rfl
        · rw [if_neg hb]
          have e1 : List.filter b (some i).toList = [] := by
            show List.filter b [i] = []
            simp [hb]
          rw [e1, List.append_nil]
      have lR : (R k).length < 100000 := by
        show (nsD _).length < _
        rw [nsD_len]
        have h1 := List.length_filter_le b ((unk m).take k)
        rw [List.length_take, unk_len] at h1
        have := List.count_le_length (a := 45) (l := m)
        omega
      have cl1 : ∀ y : Cell, (c ++ [Cell.lst (R k)]).set c.length y = c ++ [y] := fun y => set_last c _ y
      refine rss_less (ρ1 := fr (some (.mut c.length)) (some (.int ((i : Nat) : Int))) none) ?_ (by repeat (first | exact Less.nil | apply Less.same | apply Less.skip))
      have test : RT X Wf (HD.muts p [a]) (fr (some (.mut c.length)) (some (.int ((i : Nat) : Int))) none) (c ++ [.lst (R k)]) (match nxI with | .If e _ _ _ => e | _ => .Name "" ⟨0, 0, 0, 0⟩) (.val (b i) (c ++ [.lst (R k)])) := by
        refine rt_to (rt_cmp op_le (re_bin op_add re_int (re_callB (ds := [.lst ⟨false, true⟩ ([((cst l (m.set i 48) : Nat) : Int), ((cst l (m.set i 49) : Nat) : Int)].map D.int)]) (cr_max rfl) G.max PyProof.Rows.boot_max (ra_cons (nw := true) ?_ ra_nil) (cv_maxL (by show 0 < 2; decide))) ov_ii) (re_bin op_add (re_dget (k := .inr (tx m)) hu1 (re_var 0) (re_var 1) (at1 m hm)) (re_var 2) ov_ii) ov_ib) cI_le
        refine re_lc (own := [("_law_other", 5)]) (g := gName 5) (xs := bhD m i) (fun _ => true) (fun t => cD l (m.set i (48 + t))) (fun _ => c ++ [Cell.lst (R k)]) (fun _ => c ++ [Cell.lst (R k)]) (fun t => fr (some (.mut c.length)) (some (.int ((i : Nat) : Int))) (some (.str (tx (m.set i (48 + t)))))) (fun _ => false) rfl scNx.nd (ri_lst (re_c0 TB hr (ra_cons (re_var 1) (ra_cons (re_var 4) ra_nil)) ⟨m, i, rfl, il, by omega, rfl⟩)) (blkOk_by (N := nNx) (sc := defScope (top 58)) (by decide +kernel)) (fun _ _ _ _ _ => pg_name (i := 5) scNx.nd rfl (Or.inl rfl)) (fun t d h => ?_) (fun t d h q' s' H' C' cl' fp => pts_all) (fun t d h _ q' s' H' C' cl' fp => ?_) (fun _ _ _ z => nomatch z) (by show 2 ≤ 100000; decide)
        · obtain ⟨rfl, _⟩ := bh_at h
          exact tg_name (by decide)
        · obtain ⟨rfl, ht⟩ := bh_at h
          exact re_dget (k := .inr (tx (m.set i (48 + t)))) hu1 (re_var 0) (re_var 5) (at1 _ (set_pat hm (by omega)))
      refine rss_cons (c1 := c ++ [.lst (R (k + 1))]) (rs_if test (fun hk => ?_) fun hk => ?_) rss_nil
      · rw [nR, if_pos hk, ← cl1 (Cell.lst (R k ++ [D.int ((i : Nat) : Int)]))]
        exact rss_cons (rs_app 3 c.length (re_var 4) ⟨_, cell_last⟩ cell_last lR rfl) rss_nil
      · rw [nR, if_neg (by rw [hk]; exact Bool.false_ne_true)]
        exact rss_nil
abbrev NxD (P : Program) (w : World) (K : PySem.W.Frag) (mg : Str → Option Value) (base : Heap) := Def0 P w K mg base 2 "_law_next" ["_law_fewest", "_law_mask", "_law_surplus"] nxR
theorem fst_0 {l q : List Nat} (h : sett l q = none) : (nsD (nxt l q 0))[0]? = some (.int ((bst l q : Nat) : Int)) := by
  have hc := cst_pos.mpr h
  have e1 : nxt l q 0 = fstL l q 0 := by
    unfold nxt
    rw [if_pos hc]
  rw [e1]
  obtain ⟨i, hi, e⟩ := cst_mem h
  have m : i ∈ fstL l q 0 := by
    unfold fstL
    exact List.mem_filter.mpr ⟨hi, decide_eq_true (by omega)⟩
  unfold nsD bst
  cases h2 : fstL l q 0 with
  | nil =>
    rw [h2] at m
    cases m
  | cons a r => rfl
def lbR (m : Nat) : FSpec := fun ds c o => ∃ (l q : List Nat) (n : Nat), ds = [.dct (setK l (KU l n (3 ^ n))), .dct (mpK (cD l) (patU n)), .str (tx q)] ∧ n ≤ 6 ∧ q ∈ patT n ∧ q.count 45 ≤ m ∧ o = .val (tr l q) false c
abbrev nLb : List Str := ["_law_settling_here", "_law_fewest", "_law_mask", "_law_spot", "_law_rows", "_law_other"]
theorem scLb : FnScope nLb ["_law_settling_here", "_law_fewest", "_law_mask"] (defScope (top 59)) := ⟨rfl, rfl, rfl, by decide +kernel, rfl, by decide +kernel, by decide +kernel⟩
abbrev LbD (P : Program) (w : World) (K : PySem.W.Frag) (mg : Str → Option Value) (base : Heap) (m : Nat) := Def0 P w K mg base (m + 3) "_law_best" ["_law_settling_here", "_law_fewest", "_law_mask"] (lbR m)
theorem ok_lb_step {f : Addr} {fd : FuncData} (TN : NxD P w K mg base) (TB : BhD P w K mg base) (F : Fun K "_law_best" "_law_best" (top 59) f fd) (m : Nat) (ih : ∀ m', m = m' + 1 → LbD P w K mg base m') : FnOk P w K mg base CX0 (m + 3) f fd ["_law_settling_here", "_law_fewest", "_law_mask"] (spF K (lbR m)) := by
  refine fn_val F scLb (fun ds c o h => ?_) (fun ds c o h => ?_) (fun cdv A outer s H E hr p ds c o h => ?_)
  · obtain ⟨l, q, n, rfl, _⟩ := h
    rfl
  · obtain ⟨l, q, n, _, _, _, _, rfl⟩ := h
    exact ⟨_, _, _, rfl⟩
  · obtain ⟨l, q, n, rfl, n6, hq, hm, rfl⟩ := h
    obtain ⟨ql, qc⟩ := patT_mem.mp hq
    have hu1 : (cxOf CX0 P w K mg base nLb "_law_best" (defScope (top 59)) f cdv A outer s H E).nox.A.units + 1 < cLine := Nat.lt_of_le_of_lt (Nat.add_le_add_left (show 1 ≤ 64 by decide) _) hr.units
    let fr : Option D → Option D → Option D → Rho := fun r a o => [some (.dct (setK l (KU l n (3 ^ n)))), some (.dct (mpK (cD l) (patU n))), some (.str (tx q)), r, a, o]
    by_cases hs : sett l q = none
    · refine .inl (rss_cons (c1 := c) (rs_if (kb := false) (rt_to (rt_din (k := .inr (tx q)) hu1 (re_var 2) (re_var 0)) (by rw [KU_isSome hq, decide_eq_true hs]; rfl)) (fun z => nomatch z) fun _ => rss_nil) ?_)
      have b := unk_mem.mp (bst_ok hs).1
      have bl := (List.getElem?_eq_some_iff.mp b).1
      have hm1 : 0 < q.count 45 := List.count_pos_iff.mpr (none_45 hs)
      obtain ⟨m', rfl⟩ : ∃ m', m = m' + 1 := ⟨m - 1, by omega⟩
      have TI := ih m' rfl
      have k1 := count_setA (c := 48) (by decide) b
      have k2 := count_setA (c := 49) (by decide) b
      rw [tr_yes hs]
      generalize hi : bst l q = i at *
      refine rss_cons (c1 := c) (ρ1 := fr (some (.int ((i : Nat) : Int))) none none) (rs_set (nw := false) 3 scLb.nd (re_ix ix_seq (re_c0 TN (hr.mono (by omega)) (ra_cons (re_var 1) (ra_cons (re_var 2) (ra_cons re_int ra_nil))) ⟨l, q, n, 0, rfl, n6, hq, rfl⟩) re_int (ov_ixL (j := 0) rfl (by rw [fst_0 hs, hi])))) ?_
      let hv : Nat → D := fun t => tr l (q.set i (48 + t))
      refine rss_cons (c1 := c) (ρ1 := fr (some (.int ((i : Nat) : Int))) (some (.lst ⟨false, true⟩ [hv 0, hv 1])) none) ?_ ?_
      · refine rs_lc (own := [("_law_other", 5)]) (g := gName 5) (xs := bhD q i) 4 (fun _ => true) hv (fun _ => c) (fun _ => c) (fun t => fr (some (.int ((i : Nat) : Int))) none (some (.str (tx (q.set i (48 + t)))))) (fun _ => false) rfl scLb.nd (ri_lst (re_c0 TB (hr.mono (by omega)) (ra_cons (re_var 2) (ra_cons (re_var 3) ra_nil)) ⟨q, i, rfl, bl, by omega, rfl⟩)) (blkOk_by (N := nLb) (sc := defScope (top 59)) (by decide +kernel)) (fun _ _ _ _ _ => pg_name (i := 5) scLb.nd rfl (Or.inl rfl)) (fun t d h => ?_) (fun t d h q' s' H' C' cl' fp => pts_all) (fun t d h _ q' s' H' C' cl' fp => ?_) (fun _ _ _ z => nomatch z) (by show 2 ≤ 100000; decide)
        · obtain ⟨rfl, _⟩ := bh_at h
          exact tg_name (by decide)
        · obtain ⟨rfl, ht⟩ := bh_at h
          have ct : (q.set i (48 + t)).count 45 ≤ m' := by
            match t, ht with
            | 0, _ =>
              show (q.set i 48).count 45 ≤ m'
              omega
            | 1, _ =>
              show (q.set i 49).count 45 ≤ m'
              omega
          exact re_c0 TI (hr.mono (by omega)) (ra_cons (re_var 0) (ra_cons (re_var 1) (ra_cons (re_var 5) ra_nil))) ⟨l, _, n, rfl, n6, set_pat hq (by omega), ct, rfl⟩
      · exact rss_ret (rs_ret (re_old (re_tup (ra_cons (re_var 3) (ra_cons (re_ix ix_seq (re_var 4) re_int (ov_ixL (j := 0) rfl rfl)) (ra_cons (re_ix ix_seq (re_var 4) re_int (ov_ixL (j := 1) rfl rfl)) ra_nil))) (by show 3 ≤ 100000; decide))))
    · rw [tr_no hs]
      exact .inl (rss_ret (rs_if (kb := true) (rt_to (rt_din (k := .inr (tx q)) hu1 (re_var 2) (re_var 0)) (by rw [KU_isSome hq, decide_eq_false hs]; rfl)) (fun _ => rss_ret (rs_ret (re_dget (k := .inr (tx q)) hu1 (re_var 0) (re_var 2) (KU_at hq hs)))) fun z => nomatch z))
theorem ok_lb {f : Addr} {fd : FuncData} (TN : NxD P w K mg base) (TB : BhD P w K mg base) (F : Fun K "_law_best" "_law_best" (top 59) f fd) (hm : mg "_law_best" = some (.ref f)) (hb : Binds K fd ["_law_settling_here", "_law_fewest", "_law_mask"] []) : ∀ m : Nat, FnOk P w K mg base CX0 (m + 3) f fd ["_law_settling_here", "_law_fewest", "_law_mask"] (spF K (lbR m))
  | 0 => ok_lb_step TN TB F 0 fun m' h => absurd h (by omega)
  | m + 1 => ok_lb_step TN TB F (m + 1) fun m' h => by
    have e : m' = m := by omega
    subst e
    exact ⟨⟨f, fd, ok_lb TN TB F hm hb m', hm, F.kp, hb⟩⟩
end
end K41

namespace K41
open PySem PySem.Spec PyProof.Rows L2 LA
/-! ### what is told -/
def two2 (s : Str) (d : D) : D := .lst ⟨true, true⟩ [.str s, d]
inductive UO | pat (d : D) | cnt (d : D) | ok (r : D) (nw : Bool)
def eoO (BP Cn : Addr) (u : UO) (c : PC) : EO := match u with
  | .pat d => .ex BP [("given", d)] c
  | .cnt d => .ex Cn [("given", d)] c
  | .ok r b => .val r b c
def toO : UO → D
  | .pat d => two2 "pattern" d
  | .cnt d => two2 "count" d
  | .ok r _ => r
def tdB (C Cn BP : Addr) (k : Nat) (q d e : D) (u : UO) (c : PC) : Prop :=
  (k = 0 ∧ lfR C BP [q, d] c (eoO BP Cn u c)) ∨ (k = 1 ∧ stgR C Cn BP [q, d, e] c (eoO BP Cn u c)) ∨ (k = 2 ∧ stgR C Cn BP [q, d, .int 0] c (eoO BP Cn u c))
def tdR (C Cn BP : Addr) : FSpec := fun ds c o => ∃ (k : Nat) (q d e : D) (u : UO), ds = [.int ((k : Nat) : Int), q, d, e] ∧ tdB C Cn BP k q d e u c ∧ (∀ r b, u = .ok r b → decide (0 < k) = true → b = true) ∧ o = .val (toO u) (decide (0 < k)) c
structure ExF (K : PySem.W.Frag) (BP Cn : Addr) : Prop where
  e00 : PySem.W.exmOne K (.ref BP) (.ref BP) = some true
  e10 : PySem.W.exmOne K (.ref Cn) (.ref BP) = some false
  e11 : PySem.W.exmOne K (.ref Cn) (.ref Cn) = some true
abbrev app2 : List Value → List Value → List Value := fun a b => a ++ b
abbrev app2V : List V → List V → List V := fun a b => a ++ b
structure TlD (P : Program) (w : World) (K : PySem.W.Frag) (mg : Str → Option Value) (base : Heap) (C Cn BP : Addr) : Prop where
  lf : Def1K P w K mg base 10 "looks_left" ["question", "pattern"] (lfR C BP) 1 ["pattern"] app2 app2V
  sk : Def1K P w K mg base 10 "strategies" ["question", "pattern", "spare"] (stgR C Cn BP) 2 ["spare"] app2 app2V
  s0 : Def1D P w K mg base 10 "strategies" ["question", "pattern", "spare"] (stgR C Cn BP) [.int 0]
theorem rss_wk {X : Cx} {W : WX} {p : HD} {ρ : Rho} {c c1 : PC} {sts : List Stmt} {d : D} {b b' : Bool} (h : RSs X W p ρ c sts (.rt d b c1)) (hb : b' = true → b = true) : RSs X W p ρ c sts (.rt d b' c1) :=
  pss_imp h fun De σ H q => ⟨q.1, fun v H1 e1 p1 dv hn => q.2 v H1 e1 p1 dv fun z => hn (hb z)⟩
abbrev nTold : List Str := ["_law_which", "_law_question", "_law_mask", "_law_surplus", "e"]
theorem scTold : FnScope nTold ["_law_which", "_law_question", "_law_mask", "_law_surplus"] (defScope (top 60)) := ⟨rfl, rfl, rfl, by decide +kernel, rfl, by decide +kernel, by decide +kernel⟩
theorem zeros {q : HD} {K : PySem.W.Frag} {H : Hp} : DVs K q H [V.int 0] [D.int 0] := .cons (.int 0) .nil
section
variable {P : Program} {w : World} {K : PySem.W.Frag} {mg : Str → Option Value} {base : Heap} {BP Cn C Lk : Addr}
theorem ok_told {f : Addr} {fd : FuncData} (EI : Err1 P w K mg base "BadPattern" "given" BP) (EB : Err1 P w K mg base "BadCount" "given" Cn) (XF : ExF K BP Cn) (mL : mg "LooksError" = some (.ref Lk)) (T : TlD P w K mg base C Cn BP)
    (F : Fun K "_law_told" "_law_told" (top 60) f fd) : FnOk P w K mg base CX0 11 f fd ["_law_which", "_law_question", "_law_mask", "_law_surplus"] (spF K (tdR C Cn BP)) := by
  obtain ⟨f0, fd0, a1, a2, a3, a4⟩ := T.lf.ex
  obtain ⟨f2, fd2, e1, e2, e3, e4⟩ := T.sk.ex
  refine fn_val F scTold (fun ds c o h => ?_) (fun ds c o h => ?_) (fun cdv A outer s H E hr p ds c o h => ?_)
  · obtain ⟨k, q, d, e, u, rfl, _⟩ := h
    rfl
  · obtain ⟨k, q, d, e, u, _, _, _, rfl⟩ := h
    exact ⟨_, _, _, rfl⟩
  · obtain ⟨k, q, d, e, u, rfl, hb, hw, rfl⟩ := h
    have body : ∀ (W' : WX) (pn : List (Addr × Obj)) (xe : Value → Shared → Prop), Takes ((cxOf CX0 P w K mg base nTold "_law_told" (defScope (top 60)) f cdv A outer s H E).nox.tr pn xe) W' →
        RSs ((cxOf CX0 P w K mg base nTold "_law_told" (defScope (top 60)) f cdv A outer s H E).nox.tr pn xe) W' p (startR nTold [.int ((k : Nat) : Int), q, d, e]) c (match defBody (top 60) with | .Try b _ _ _ _ :: _ => b | _ => []) (asSt (eoO BP Cn u c)) := fun W' pn xe tk => by
      rcases hb with ⟨rfl, hb⟩ | ⟨rfl, hb⟩ | ⟨rfl, hb⟩
      · exact rss_ifO (rt_to (rt_cmp op_eq (re_var 0) re_int ov_eqI) rfl) (rss_retO (re_callX1K (es' := [d]) (gD := [q, d]) tk a1 hr a2 a3 a4 (ra_cons (re_var 1) ra_nil) (rk_cons (re_var 2) rk_nil) rfl rfl (fun h1 h2 => DVs.app h1 h2) hb))
      · refine rss_cons (c1 := c) (rs_if (kb := false) (rt_to (rt_cmp op_eq (re_var 0) re_int ov_eqI) rfl) (fun z => nomatch z) fun _ => rss_nil) ?_
        exact rss_retO (re_if (k := true) (rt_to (rt_cmp op_eq (re_var 0) re_int ov_eqI) rfl) (fun _ => re_callX1K (es' := [e]) (gD := [q, d, e]) tk e1 hr e2 e3 e4 (ra_cons (re_var 1) (ra_cons (re_var 2) ra_nil)) (rk_cons (re_var 3) rk_nil) rfl rfl (fun h1 h2 => DVs.app h1 h2) hb) fun z => nomatch z)
      · refine rss_cons (c1 := c) (rs_if (kb := false) (rt_to (rt_cmp op_eq (re_var 0) re_int ov_eqI) rfl) (fun z => nomatch z) fun _ => rss_nil) ?_
        exact rss_retO (re_if (k := false) (rt_to (rt_cmp op_eq (re_var 0) re_int ov_eqI) rfl) (fun z => nomatch z) fun _ => re_c1D (es' := [.int 0]) tk T.s0 hr (ra_cons (re_var 1) (ra_cons (re_var 2) ra_nil)) (fun q H => zeros) hb)
    cases u with
    | ok r b =>
      refine .inl (rss_ret (rs_try rfl rfl scTold.nd takes0 (fun W' pn xe tk _ => ?_) (cl_no (i := 4) ⟨rfl, by decide, .inl EI.mg⟩ rfl rfl (cl_no (i := 4) ⟨rfl, by decide, .inl EB.mg⟩ rfl rfl (cl_no0 ⟨rfl, by decide, .inl mL⟩ .nil)))))
      exact rss_wk (body W' pn xe tk) (hw r b rfl)
    | pat d' =>
      refine .inl (rss_wk (b := true) (rss_ret ?_) fun _ => rfl)
      exact rs_tryX (i := 4) (C := BP) (fs := [("given", d')]) (c1 := c) rfl rfl scTold.nd takes0 (fun W' pn xe tk _ => body W' pn xe tk) (cl_yes (i := 4) ⟨rfl, by decide, .inl EI.mg⟩ rfl rfl (fun a dx oe pn z fz => rss_ret (rs_ret (re_lst (ra_cons re_str (ra_cons (re_xf (d := d') EI.xf EI.no z fz rfl (re_var 4) rfl) ra_nil)) (by show 2 ≤ 100000; decide)))) (cl_no (i := 4) ⟨rfl, by decide, .inl EB.mg⟩ rfl rfl (cl_no0 ⟨rfl, by decide, .inl mL⟩ .nil))) (.here XF.e00)
    | cnt d' =>
      refine .inl (rss_wk (b := true) (rss_ret ?_) fun _ => rfl)
      exact rs_tryX (i := 4) (C := Cn) (fs := [("given", d')]) (c1 := c) rfl rfl scTold.nd takes0 (fun W' pn xe tk _ => body W' pn xe tk) (cl_no (i := 4) ⟨rfl, by decide, .inl EI.mg⟩ rfl rfl (cl_yes (i := 4) ⟨rfl, by decide, .inl EB.mg⟩ rfl rfl (fun a dx oe pn z fz => rss_ret (rs_ret (re_lst (ra_cons re_str (ra_cons (re_xf (d := d') EB.xf EB.no z fz rfl (re_var 4) rfl) ra_nil)) (by show 2 ≤ 100000; decide)))) (cl_no0 ⟨rfl, by decide, .inl mL⟩ .nil))) (.there XF.e10 (.here XF.e11))
abbrev ToldD (P : Program) (w : World) (K : PySem.W.Frag) (mg : Str → Option Value) (base : Heap) (C Cn BP : Addr) := Def0 P w K mg base 11 "_law_told" ["_law_which", "_law_question", "_law_mask", "_law_surplus"] (tdR C Cn BP)
end
end K41

namespace K41
open PySem PySem.Spec PyProof.Rows L2 LA
/-! ### what is refused -/
def shtL : Nat → List Nat
  | 0 => [50]
  | n + 1 => List.replicate n 45
def oddI (n : Nat) : Nat → D
  | 0 => .non
  | 1 => .str (tx (List.replicate (n + 1) 45))
  | 2 => .str (tx (List.replicate (max 1 n) 50))
  | 3 => .lst ⟨true, true⟩ [.str "-"]
  | 4 => .int 1
  | 5 => .str "x"
  | _ => .str (tx (shtL n))
def oddB : Nat → D
  | 0 => .int 7
  | 1 => .int (-1)
  | 2 => .bl true
  | 3 => .non
  | 4 => .str "0"
  | _ => .bl false
theorem oddB_ok : ∀ j, j < 6 → Ty (oddB j) ∧ posD (oddB j) 7 = false ∧ Shows (two2 "count" (oddB j)) := by
  intro j hj
  match j, hj with
  | 0, _ => exact ⟨⟨_, rfl⟩, rfl, shB_of (by decide +kernel)⟩
  | 1, _ => exact ⟨⟨_, rfl⟩, rfl, shB_of (by decide +kernel)⟩
  | 2, _ => exact ⟨⟨_, rfl⟩, rfl, shB_of (by decide +kernel)⟩
  | 3, _ => exact ⟨⟨_, rfl⟩, rfl, shB_of (by decide +kernel)⟩
  | 4, _ => exact ⟨⟨_, rfl⟩, rfl, shB_of (by decide +kernel)⟩
  | 5, _ => exact ⟨⟨_, rfl⟩, rfl, shB_of (by decide +kernel)⟩
theorem oddI_sh : ∀ n, n < 6 → ∀ j, j < 7 → shB (two2 "pattern" (oddI n j)) = true := by
  have key : ∀ (n : Fin 6) (j : Fin 7), shB (two2 "pattern" (oddI n.val j.val)) = true := by decide +kernel
  exact fun n hn j hj => key ⟨n, hn⟩ ⟨j, hj⟩
theorem oddI_no : ∀ n, n < 6 → ∀ j, j < 7 → (isW pats (oddI n j) && decide (((cds (oddI n j)).length : Int) = (n : Nat))) = false := by
  have key : ∀ (n : Fin 6) (j : Fin 7), (isW pats (oddI n.val j.val) && decide (((cds (oddI n.val j.val)).length : Int) = (n.val : Nat))) = false := by decide +kernel
  exact fun n hn j hj => key ⟨n, hn⟩ ⟨j, hj⟩
theorem sht_len : ∀ n, n ≤ 5 → (shtL n).length ≤ 1000
  | 0, _ => by decide
  | n + 1, h => by
    show (List.replicate n 45).length ≤ 1000
    rw [List.length_replicate]
    omega
theorem oddI_fit {n : Nat} (hn : n ≤ 5) : ∀ j, j < 7 → Fit (oddI n j) := by
  intro j hj
  match j, hj with
  | 0, _ => exact ⟨⟨_, rfl⟩, fun l e => nomatch e⟩
  | 1, _ => exact str_fit (by rw [List.length_replicate]; omega)
  | 2, _ => exact str_fit (by rw [List.length_replicate]; omega)
  | 3, _ => exact ⟨⟨_, rfl⟩, fun l e => nomatch e⟩
  | 4, _ => exact ⟨⟨_, rfl⟩, fun l e => nomatch e⟩
  | 5, _ => exact str_fit (l := [120]) (by decide)
  | 6, _ => exact str_fit (sht_len n hn)
theorem td_pat {C Cn BP : Addr} {c : PC} {l : List Nat} {n j k : Nat} {e : D} (hk : k < 3) (tb : Tab l) (hm : manyOf l = n) (hn : n ≤ 5) (hj : j < 7) (te : Ty e) : tdR C Cn BP [.int ((k : Nat) : Int), qD C l, oddI n j, e] c (.val (two2 "pattern" (oddI n j)) (decide (0 < k)) c) := by
  have no : okPat l (oddI n j) = false := by
    unfold okPat
    rw [hm]
    exact oddI_no n (by omega) j hj
  refine ⟨k, _, _, _, .pat (oddI n j), rfl, ?_, (fun r b h => nomatch h), rfl⟩
  match k, hk with
  | 0, _ => exact .inl ⟨rfl, l, _, rfl, tb, oddI_fit hn j hj, by rw [no]; rfl⟩
  | 1, _ => exact .inr (.inl ⟨rfl, l, _, _, rfl, tb, oddI_fit hn j hj, te, .inl ⟨no, rfl⟩⟩)
  | 2, _ => exact .inr (.inr ⟨rfl, l, _, _, rfl, tb, oddI_fit hn j hj, ⟨_, rfl⟩, .inl ⟨no, rfl⟩⟩)
theorem pat_ok {l q : List Nat} {n : Nat} (hm : manyOf l = n) (hn : n ≤ 5) (hq : q ∈ patT n) : okPat l (.str (tx q)) = true := by
  obtain ⟨h1, h2⟩ := patT_mem.mp hq
  unfold okPat isW
  rw [cds_tx, hm, h1, decide_eq_true rfl, decide_eq_true (show n ≤ 6 by omega), List.all_eq_true.mpr fun c hc => decide_eq_true (h2 c hc)]
  rfl
theorem td_cnt {C Cn BP : Addr} {c : PC} {l : List Nat} {n j : Nat} (tb : Tab l) (hm : manyOf l = n) (hn : n ≤ 5) (hj : j < 6) : tdR C Cn BP [.int 1, qD C l, .str (tx (dash n)), oddB j] c (.val (two2 "count" (oddB j)) true c) := by
  obtain ⟨t, p, _⟩ := oddB_ok j hj
  exact ⟨1, _, _, _, .cnt (oddB j), rfl, .inr (.inl ⟨rfl, l, _, _, rfl, tb, str_fit (by rw [dash_len]; omega), t, .inr ⟨pat_ok hm hn (dash_pat n), .inl ⟨p, rfl⟩⟩⟩), (fun r b h => nomatch h), rfl⟩
def rfR (C : Addr) : FSpec := fun ds c o => ∃ (x : Pl) (l : List Nat) (n : Nat), ds = [.mut 0, qD C l, .int ((n : Nat) : Int)] ∧ c = [x.c] ∧ Tab l ∧ manyOf l = n ∧ n ≤ 5 ∧ o = .val (.bl true) true [(drawC (drawC x 7) 6).c]
section
variable {P : Program} {w : World} {K : PySem.W.Frag} {mg : Str → Option Value} {base : Heap} {BP Cn C : Addr}
abbrev nRf : List Str := ["_law_pool_here", "_law_question", "_law_many", "_law_short", "_law_odd", "_law_surplus", "_law_which"]
theorem scRf : FnScope nRf ["_law_pool_here", "_law_question", "_law_many"] (defScope (top 61)) := ⟨rfl, rfl, rfl, by decide +kernel, rfl, by decide +kernel, by decide +kernel⟩
abbrev rth (i : Nat) : Stmt := (defBody (top 61)).getD i (.Pass ⟨0, 0, 0, 0⟩)
abbrev cxRf (P : Program) (w : World) (K : PySem.W.Frag) (mg : Str → Option Value) (base : Heap) (f : Addr) (cdv : Value) (A : Around) (outer : List Env) (s : Shared) (H : Hp) : Cx := (cxOf CX0 P w K mg base nRf "_law_refused" (defScope (top 61)) f cdv A outer s H E0).nox
theorem ok_rf {f : Addr} {fd : FuncData} (G : Glb mg) (T : DrawD P w K mg base) (TD : ToldD P w K mg base C Cn BP) (F : Fun K "_law_refused" "_law_refused" (top 61) f fd) : FnG P w K mg base 12 f fd ["_law_pool_here", "_law_question", "_law_many"] (spF K (rfR C)) := by
  refine fn_g F scRf (fun ds c o h => ?_) (fun ds c o h => ?_) (fun cdv A outer s H gu hr p ds c o h => ?_)
  · obtain ⟨x, l, n, rfl, _⟩ := h
    rfl
  · obtain ⟨x, l, n, _, _, _, _, _, rfl⟩ := h
    exact ⟨_, _, _, rfl⟩
  · obtain ⟨x, l, n, rfl, rfl, tb, hm, hn, rfl⟩ := h
    have hu : (A.deeper (envOfC "_law_refused" (defScope (top 61)) s.heap.objs.size f cdv)).units + 70 < cLine := by have := hr.un; omega
    have gu2 : (cxRf P w K mg base f cdv A outer s H).A.guards = some [] := gu
    have nn : ∀ z : Str, (!decide (z = z)) = false := fun z => by rw [decide_eq_true rfl]; rfl
    have d1 := drawV_in (c := x) (show (0 : Int) < 7 by decide)
    have d2 := drawV_in (c := drawC x 7) (show (0 : Int) < 6 by decide)
    have j1 : (drawV x 7).toNat < 7 := by omega
    have j2 : (drawV (drawC x 7) 6).toNat < 6 := by omega
    have shI : Shows (two2 "pattern" (oddI n (drawV x 7).toNat)) := shB_of (oddI_sh n (by omega) _ j1)
    obtain ⟨tyB, _, shBt⟩ := oddB_ok _ j2
    let fr : Option D → Option D → Option D → Option D → Rho := fun a b d e => [some (.mut 0), some (qD C l), some (.int ((n : Nat) : Int)), a, b, d, e]
    let y := drawC x 7
    let z := drawC y 6
    let sh : D := .str (tx (shtL n))
    let o1 := oddI n (drawV x 7).toNat
    let o2 := oddB (drawV y 6).toNat
    have e1 : ∀ q : HD, OV K q (fun a b H Q => ∃ t m, a = .str t ∧ b = .int m ∧ MulOk t m ∧ Q (.str (Txt.mul t m)) H) (.str (chr1 45)) (.int (((n : Nat) : Int) - 1)) (.str (tx (List.replicate (n - 1) 45))) true [x.c] := fun q => by
      cases n with
      | zero =>
        have h : MulOk (chr1 45) (((0 : Nat) : Int) - 1) := ⟨by decide, fun h => absurd (by decide) h, fun h => absurd (by decide) h⟩
        exact ov_mulS h
      | succ k =>
        have ek : (((k + 1 : Nat) : Int) - 1) = ((k : Nat) : Int) := by omega
        rw [ek]
        have r := ov_mulS (K := K) (p := q) (c := [x.c]) (mulOk_small (z := chr1 45) (n := k) rfl (by omega))
        rw [rep_tx] at r
        exact r
    have e2 : ∀ q : HD, OV K q (fun a b H Q => ∃ t m, a = .str t ∧ b = .int m ∧ MulOk t m ∧ Q (.str (Txt.mul t m)) H) (.str (chr1 50)) (.int (if decide (((n : Nat) : Int) = 0) then 1 else 0)) (.str (tx (if n = 0 then [50] else []))) true [x.c] := fun q => by
      cases n with
      | zero =>
        have r := ov_mulS (K := K) (p := q) (c := [x.c]) (mulOk_small (z := chr1 50) (n := 1) rfl (by omega))
        rw [rep_tx] at r
        exact r
      | succ k =>
        have en : decide (((k + 1 : Nat) : Int) = 0) = false := decide_eq_false (by omega)
        rw [en]
        have r := ov_mulS (K := K) (p := q) (c := [x.c]) (mulOk_small (z := chr1 50) (n := 0) rfl (by omega))
        rw [rep_tx] at r
        exact r
    have e3 : tx (List.replicate (n - 1) 45) ++ tx (if n = 0 then [50] else []) = tx (shtL n) := by
      rw [tx_app]
      cases n with
      | zero => rfl
      | succ k =>
        show tx (List.replicate k 45 ++ []) = tx (List.replicate k 45)
        rw [List.append_nil]
    have e4 : (if (1 : Int) < ((n : Nat) : Int) then ((n : Nat) : Int) else 1) = ((max 1 n : Nat) : Int) := by
      split <;> omega
    refine .inl (rss_cons (c1 := [x.c]) (ρ1 := fr (some sh) none none none) (rs_set (nw := true) 3 scRf.nd (re_to (re_bin (n1 := true) (n2 := true) op_add_str (re_bin op_mulS re_str (re_bin op_sub (re_var 2) re_int ov_ii) (e1 _)) (re_bin op_mulS re_str (re_callT call_int1 G.int PyProof.Rows.boot_int (ra_cons (re_cmp op_eq (re_var 2) re_int ov_eqI) ra_nil) cv_intK) (e2 _)) (ov_addS ?_)) (congrArg D.str e3))) ?_)
    · rw [tx_len, tx_len, List.length_replicate]
      refine sz_le ?_
      have : (if n = 0 then [50] else ([] : List Nat)).length ≤ 1 := by split <;> decide
      omega
    refine rss_cons (c1 := [y.c]) (ρ1 := fr (some sh) (some o1) none none) (rs_set (nw := false) 4 scRf.nd (re_ix ix_seq (re_lst (ds := [oddI n 0, oddI n 1, oddI n 2, oddI n 3, oddI n 4, oddI n 5, sh]) (ra_cons re_non (ra_cons (nw := true) (re_to (re_bin (d2 := .int ((n + 1 : Nat) : Int)) op_mulS re_str (re_bin op_add (re_var 2) re_int ov_ii) (ov_mulS (mulOk_small rfl (by omega)))) (congrArg D.str (rep_tx 45 (n + 1))))
      (ra_cons (nw := true) (re_to (re_bin (d2 := .int ((max 1 n : Nat) : Int)) op_mulS re_str (re_to (re_callB (call_max2 rfl) G.max PyProof.Rows.boot_max (ra_cons re_int (ra_cons (re_var 2) ra_nil)) cv_max2) (congrArg D.int e4)) (ov_mulS (mulOk_small rfl (by omega)))) (congrArg D.str (rep_tx 50 (max 1 n)))) (ra_cons (re_lst (ra_cons re_str ra_nil) (by show 1 ≤ 100000; decide)) (ra_cons re_int (ra_cons re_str (ra_cons (re_var 3) ra_nil))))))) (by show 7 ≤ 100000; decide)) (re_draw 0 (x := x) (k := 0) T (hr.mono (by decide)) rfl (by decide) (by decide)) (ov_ixL (j := (drawV x 7).toNat) (Int.toNat_of_nonneg d1.1).symm ?_))) ?_
    · show _ = some (oddI n (drawV x 7).toNat)
      generalize (drawV x 7).toNat = j at j1
      match j, j1 with
      | 0, _ => rfl
      | 1, _ => rfl
      | 2, _ => rfl
      | 3, _ => rfl
      | 4, _ => rfl
      | 5, _ => rfl
      | 6, _ => rfl
    refine rss_cons (c1 := [z.c]) (ρ1 := fr (some sh) (some o1) (some o2) none) (rs_set (nw := false) 5 scRf.nd (re_ix ix_seq (re_lst (ds := [oddB 0, oddB 1, oddB 2, oddB 3, oddB 4, oddB 5]) (ra_cons re_int (ra_cons (re_neg re_int) (ra_cons re_bl (ra_cons re_non (ra_cons re_str (ra_cons re_bl ra_nil)))))) (by show 6 ≤ 100000; decide)) (re_draw 0 (x := y) (k := 0) T (hr.mono (by decide)) rfl (by decide) (by decide)) (ov_ixL (j := (drawV y 6).toNat) (Int.toNat_of_nonneg d2.1).symm ?_))) ?_
    · show _ = some (oddB (drawV y 6).toNat)
      have j3 : (drawV y 6).toNat < 6 := j2
      generalize (drawV y 6).toNat = j at j3
      match j, j3 with
      | 0, _ => rfl
      | 1, _ => rfl
      | 2, _ => rfl
      | 3, _ => rfl
      | 4, _ => rfl
      | 5, _ => rfl
    have loop := rs_for_all (X := cxRf P w K mg base f cdv A outer s H) (W := Wf) (p := p) (c := [z.c]) (ρ := fr (some sh) (some o1) (some o2) none) (xs := intsD 3) (vs := [6]) (g := gName 6) (body := fBd (rth 3)) (tg := fTg (rth 3)) (it := fIt (rth 3)) (pos := fPs (rth 3))
      (fun _ => fr (some sh) (some o1) (some o2) none) (fun i => fr (some sh) (some o1) (some o2) (some (.int ((i : Nat) : Int)))) (fun _ => [z.c]) PassesOwn.never rfl rfl (ri_range (n := 3) G.range re_int (by decide) (by decide)) (pg_name (i := 6) scRf.nd rfl (Or.inl rfl)) (fun i d h => by
        obtain ⟨rfl, _⟩ := intsD_at h
        exact tg_name (by decide)) (fun i d h => ?_)
    · refine rss_cons loop ?_
      refine rss_ret (rs_ret ?_)
      have q := ov_eqT (K := K) (p := p) (c := [z.c]) (i := (toPy (two2 "count" o2)).shown) (j := (toPy (two2 "count" o2)).shown)
      rw [decide_eq_true rfl] at q
      exact re_cmp op_eq (re_callB (call_repr gu2 hu) G.repr PyProof.Rows.boot_repr (ra_cons (nw := true) (re_c0 TD hr (ra_cons re_int (ra_cons (re_var 1) (ra_cons (nw := true) (re_to (d' := .str (tx (dash n))) (re_bin op_mulS re_str (re_var 2) (ov_mulS (mulOk_small rfl (by omega)))) (congrArg D.str (rep_tx 45 n))) (ra_cons (re_var 5) ra_nil)))) (td_cnt tb hm hn j2)) ra_nil) (cv_repr shBt)) (re_callB (call_repr gu2 hu) G.repr PyProof.Rows.boot_repr (ra_cons (re_lst (ra_cons re_str (ra_cons (re_var 5) ra_nil)) (by show 2 ≤ 100000; decide)) ra_nil) (cv_repr shBt)) q
    · obtain ⟨rfl, hi⟩ := intsD_at h
      refine rss_less (ρ1 := fr (some sh) (some o1) (some o2) (some (.int ((i : Nat) : Int)))) ?_ (by repeat (first | exact Less.nil | apply Less.same | apply Less.skip))
      exact rss_cons (c1 := [z.c]) (rs_if (kb := false) (rt_to (rt_cmp (nw := true) op_ne (re_callB (call_repr gu2 hu) G.repr PyProof.Rows.boot_repr (ra_cons (re_c0 TD hr (ra_cons (re_var 6) (ra_cons (re_var 1) (ra_cons (re_var 4) (ra_cons (re_var 5) ra_nil)))) (td_pat hi tb hm hn j1 tyB)) ra_nil) (cv_repr shI)) (re_callB (call_repr gu2 hu) G.repr PyProof.Rows.boot_repr (ra_cons (re_lst (ra_cons re_str (ra_cons (re_var 4) ra_nil)) (by show 2 ≤ 100000; decide)) ra_nil) (cv_repr shI)) ov_neT) (nn _)) (fun z => nomatch z) fun _ => rss_nil) rss_nil
abbrev RfG (P : Program) (w : World) (K : PySem.W.Frag) (mg : Str → Option Value) (base : Heap) (C : Addr) := DefG P w K mg base 12 "_law_refused" ["_law_pool_here", "_law_question", "_law_many"] (rfR C)
end
end K41

namespace K41
open PySem PySem.Spec PyProof.Rows L2 LA
/-! ### the law's frame -/
section
variable {P : Program} {w : World} {K : PySem.W.Frag} {mg : Str → Option Value} {base : Heap}
abbrev TablD (P : Program) (w : World) (K : PySem.W.Frag) (mg : Str → Option Value) (base : Heap) := Def0 P w K mg base 2 "_law_table" ["_law_pool_here", "_law_many"] tabFR
abbrev nLaw : List Str := ["_law_script", "_law_k", "_law_pool_here", "_law_many", "_law_table_here", "_law_question", "_law_texts", "_law_settling_here", "_law_j", "_law_fewest", "_law_whole", "_law_turn", "_law_mask", "_law_surplus", "_law_dues", "_law_which", "_law_told_here"]
theorem scLaw : FnScope nLaw ["_law_script"] (defScope (top 62)) := ⟨rfl, rfl, rfl, by decide +kernel, rfl, by decide +kernel, by decide +kernel⟩
abbrev cxL (P : Program) (w : World) (K : PySem.W.Frag) (mg : Str → Option Value) (base : Heap) (f : Addr) (cdv : Value) (A : Around) (outer : List Env) (s : Shared) (H : Hp) (E : XK) : Cx := (cxOf CX0 P w K mg base nLaw "law" (defScope (top 62)) f cdv A outer s H E).nox
abbrev bCell : List Stmt := match defBody (top 62) with
  | .For _ _ b _ _ :: _ => b
  | _ => []
abbrev nth (i : Nat) : Stmt := bCell.getD i (.Pass ⟨0, 0, 0, 0⟩)
/-- the for over the turns: its body -/
abbrev tBd : List Stmt := fBd (nth 10)
abbrev tth (i : Nat) : Stmt := tBd.getD i (.Pass ⟨0, 0, 0, 0⟩)
/-- the for over which: its body -/
abbrev wBd : List Stmt := fBd (tth 3)
abbrev wth (i : Nat) : Stmt := wBd.getD i (.Pass ⟨0, 0, 0, 0⟩)
/-- what the law calls -/
structure LawD (P : Program) (w : World) (K : PySem.W.Frag) (mg : Str → Option Value) (base : Heap) (C Cn BP BTa : Addr) : Prop where
  pool : PoolD P w K mg base
  draw : DrawD P w K mg base
  tabl : TablD P w K mg base
  make : QMk P w K mg base C BTa
  txts : StrsD P w K mg base
  lset : LsetD P w K mg base
  nd : NdD P w K mg base
  nx : NxD P w K mg base
  lb : LbD P w K mg base 6
  told : ToldD P w K mg base C Cn BP
  rf : RfG P w K mg base C
  lk : LkD P w K mg base C
  na : NaD P w K mg base C
  bt : BtD P w K mg base C
theorem nn {s : Str} : (!decide (s = s)) = false := by rw [decide_eq_true rfl]; rfl
theorem sc_cell (x : Pl) : ∀ y ∈ [x.c], ScCell y := fun y hy => by
  rw [List.mem_singleton.mp hy]
  exact ⟨x.ds, rfl, rfl⟩
abbrev frL (S kk m tb qn tz st j fw wh tu mk su du wi to : Option D) : Rho := [S, kk, some (.mut 0), m, tb, qn, tz, st, j, fw, wh, tu, mk, su, du, wi, to]
end
/-! ### what the law expects -/
def dueD (l m : List Nat) (u : Nat) : Nat → D
  | 0 => cD l m
  | 1 => .lst (gN l m) (nsD (nxt l m u))
  | _ => .lst (gN l m) (nsD (nxt l m 0))
theorem nxt_mem {l m : List Nat} {u i : Nat} (h : i ∈ nxt l m u) : i ∈ unk m := by
  unfold nxt at h
  split at h
  · unfold fstL at h
    exact (List.mem_filter.mp h).1
  · cases h
theorem nxt_len (l m : List Nat) (u : Nat) : (nxt l m u).length ≤ m.length := by
  unfold nxt
  split
  · unfold fstL
    refine Nat.le_trans (List.length_filter_le _ _) ?_
    rw [unk_len]
    exact List.count_le_length
  · exact Nat.zero_le _
theorem ns_tiny {l m : List Nat} {u : Nat} (g : LA.G) (h : m.length ≤ 6) : Tiny ((100 + 1) * 6 + 10) 1 (.lst g (nsD (nxt l m u))) :=
  Tiny.lst (fun d hd => by
    obtain ⟨i, hi, rfl⟩ := List.mem_map.mp hd
    exact tiny_i (by have := lt_of_fst (nxt_mem hi); omega)) (by rw [nsD_len]; exact Nat.le_trans (nxt_len l m u) h)
theorem ns_shows {l m : List Nat} {u : Nat} (g : LA.G) (h : m.length ≤ 6) : Shows (.lst g (nsD (nxt l m u))) := (ns_tiny g h).shows (by decide) (by decide)
theorem cD_tiny {l m : List Nat} (h : m.length ≤ 6) : Tiny 100 0 (cD l m) := tiny_i (by
  have := cst_cnt l _ m rfl
  have := List.count_le_length (a := 45) (l := m)
  omega)
theorem cD_shows {l m : List Nat} (h : m.length ≤ 6) : Shows (cD l m) := (cD_tiny h).shows (by decide) (by decide)
theorem sh_g (g g' : LA.G) (ds : List D) : (toPy (.lst g ds)).shown = (toPy (.lst g' ds)).shown := by
  unfold toPy
  rfl
theorem td_ok {C Cn BP : Addr} {c : PC} {l m : List Nat} {n u i : Nat} (hi : i < 3) (tb : Tab l) (hn : manyOf l = n) (h5 : n ≤ 5) (hm : m ∈ patT n) (hu : u < 7) : tdR C Cn BP [.int ((i : Nat) : Int), qD C l, .str (tx m), .int ((u : Nat) : Int)] c (.val (dueD l m u i) (decide (0 < i)) c) := by
  have ok := pat_ok hn h5 hm
  have ml := (patT_mem.mp hm).1
  have fm : Fit (.str (tx m)) := str_fit (by omega)
  have pu : ∀ v : Nat, v < 7 → posD (.int ((v : Nat) : Int)) 7 = true := fun v hv => by
    show (decide ((0 : Int) ≤ ((v : Nat) : Int)) && decide (((v : Nat) : Int) < 7)) = true
    rw [decide_eq_true (by omega), decide_eq_true (by omega)]
    rfl
  match i, hi with
  | 0, _ => exact ⟨0, _, _, _, .ok (cD l m) false, rfl, .inl ⟨rfl, l, _, rfl, tb, fm, by rw [ok, if_pos rfl, cds_tx]; rfl⟩, (fun r b h z => absurd z (by decide)), rfl⟩
  | 1, _ => exact ⟨1, _, _, _, .ok (.lst (gN l m) (nsD (nxt l m u))) true, rfl, .inr (.inl ⟨rfl, l, _, _, rfl, tb, fm, ⟨_, rfl⟩, .inr ⟨ok, .inr ⟨pu u hu, by rw [cds_tx]; rfl⟩⟩⟩), (fun r b h _ => by cases h; rfl), rfl⟩
  | 2, _ => exact ⟨2, _, _, _, .ok (.lst (gN l m) (nsD (nxt l m 0))) true, rfl, .inr (.inr ⟨rfl, l, _, _, rfl, tb, fm, ⟨_, rfl⟩, .inr ⟨ok, .inr ⟨rfl, by rw [cds_tx]; rfl⟩⟩⟩), (fun r b h _ => by cases h; rfl), rfl⟩
section
variable {P : Program} {w : World} {K : PySem.W.Frag} {mg : Str → Option Value} {base : Heap} {f : Addr} {cdv : Value} {A : Around} {outer : List Env} {s : Shared} {H : Hp} {E : XK} {p : HD} {C Cn BP BTa : Addr}
theorem low_nsD (n : Nat) (b : List Nat) : lowDs n (nsD b) = true := by
  unfold nsD
  induction b with
  | nil => rfl
  | cons a r ih => exact ih
/-- one of the three -/
theorem wturn_ok {x : Pl} {l m : List Nat} {n u i : Nat} {S kk mn tb tz st fw wh tu : D} (G : Glb mg) (L : LawD P w K mg base C Cn BP BTa) (T : Tab l) (hn : manyOf l = n) (h5 : n ≤ 5) (hm : m ∈ patT n) (hu7 : u < 7) (hi : i < 3)
    (l0 : lowD 1 S = true) (l1 : lowD 1 kk = true) (l2 : lowD 1 mn = true) (l3 : lowD 1 tb = true) (l4 : lowD 1 tz = true) (l5 : lowD 1 st = true) (l6 : lowD 1 fw = true) (l7 : lowD 1 wh = true) (l8 : lowD 1 tu = true)
    (hr : Room 47 (cxL P w K mg base f cdv A outer s H E).A) (hg : (cxL P w K mg base f cdv A outer s H E).A.guards = some []) (hz : p.z = []) :
    RSs (cxL P w K mg base f cdv A outer s H E) Wf p (frL (some S) (some kk) (some mn) (some tb) (some (qD C l)) (some tz) (some st) none (some fw) (some wh) (some tu) (some (.str (tx m))) (some (.int ((u : Nat) : Int))) (some (.lst ⟨true, true⟩ [dueD l m u 0, dueD l m u 1, dueD l m u 2])) (some (.int ((i : Nat) : Int))) none) [x.c] wBd
      (.nx (frL (some S) (some kk) (some mn) (some tb) (some (qD C l)) (some tz) (some st) none (some fw) (some wh) (some tu) (some (.str (tx m))) (some (.int ((u : Nat) : Int))) (some (.lst ⟨true, true⟩ [dueD l m u 0, dueD l m u 1, dueD l m u 2])) (some (.int ((i : Nat) : Int))) none) [x.c]) := by
  have hu : (cxL P w K mg base f cdv A outer s H E).A.units + 70 < cLine := by have := hr.un; omega
  have ml := (patT_mem.mp hm).1
  have td := td_ok (C := C) (Cn := Cn) (BP := BP) (c := [x.c]) (u := u) hi T hn h5 hm hu7
  have at_ : ∀ j, j < 3 → ([dueD l m u 0, dueD l m u 1, dueD l m u 2] : List D)[j]? = some (dueD l m u j) := fun j hj => by
    match j, hj with
    | 0, _ => rfl
    | 1, _ => rfl
    | 2, _ => rfl
  match i, hi with
  | 0, _ =>
    let W : Option D → Rho := fun to => frL (some S) (some kk) (some mn) (some tb) (some (qD C l)) (some tz) (some st) none (some fw) (some wh) (some tu) (some (.str (tx m))) (some (.int ((u : Nat) : Int))) (some (.lst ⟨true, true⟩ [dueD l m u 0, dueD l m u 1, dueD l m u 2])) (some (.int ((0 : Nat) : Int))) to
    have sh : Shows (cD l m) := cD_shows (by omega)
    refine rss_less (ρ1 := W (some (cD l m))) ?_ (by repeat (first | exact Less.nil | apply Less.same | apply Less.skip))
    refine rss_cons (c1 := [x.c]) (ρ1 := W (some (cD l m))) (rs_set (nw := false) 16 scLaw.nd (re_c0 L.told (hr.mono (by decide)) (ra_cons (re_var 15) (ra_cons (re_var 5) (ra_cons (re_var 12) (ra_cons (re_var 13) ra_nil)))) td)) ?_
    refine rss_cons (c1 := [x.c]) (rs_if (kb := false) (rt_to (rt_cmp (nw := true) op_ne (re_callB (call_repr hg hu) G.repr PyProof.Rows.boot_repr (ra_cons (re_var 16) ra_nil) (cv_repr sh)) (re_callB (call_repr hg hu) G.repr PyProof.Rows.boot_repr (ra_cons (re_ix ix_seq (re_var 14) (re_var 15) (ov_ixL (j := 0) rfl rfl)) ra_nil) (cv_repr sh)) ov_neT) nn) (fun z => nomatch z) fun _ => rss_nil) ?_
    exact rss_cons (c1 := [x.c]) (rs_if (kb := false) (rt_to (rt_cmp (nw := true) op_gt (re_var 15) re_int (ov_ib (f := fun i j => decide (j < i)))) (by decide)) (fun z => nomatch z) fun _ => rss_nil) rss_nil
  | i + 1, hi =>
    let W : Option D → Rho := fun to => frL (some S) (some kk) (some mn) (some tb) (some (qD C l)) (some tz) (some st) none (some fw) (some wh) (some tu) (some (.str (tx m))) (some (.int ((u : Nat) : Int))) (some (.lst ⟨true, true⟩ [dueD l m u 0, dueD l m u 1, dueD l m u 2])) (some (.int ((i + 1 : Nat) : Int))) to
    obtain ⟨v, ev⟩ : ∃ v, dueD l m u (i + 1) = .lst (gN l m) (nsD (nxt l m v)) := by
      match i with
      | 0 => exact ⟨u, rfl⟩
      | i + 1 => exact ⟨0, rfl⟩
    have ed : decide (0 < i + 1) = true := decide_eq_true (by omega)
    rw [ev, ed] at td
    have sh : ∀ g, Shows (.lst g (nsD (nxt l m v))) := fun g => ns_shows g (by omega)
    have len : (nsD (nxt l m v)).length < 100000 := by
      rw [nsD_len]
      have := nxt_len l m v
      omega
    have lw : ∀ k, lowD 1 (dueD l m u k) = true := fun k => by
      match k with
      | 0 => rfl
      | 1 => exact low_nsD 1 _
      | k + 2 => exact low_nsD 1 _
    have ldu : lowD 1 (.lst ⟨true, true⟩ [dueD l m u 0, dueD l m u 1, dueD l m u 2]) = true := by
      show (lowD 1 (dueD l m u 0) && (lowD 1 (dueD l m u 1) && (lowD 1 (dueD l m u 2) && true))) = true
      rw [lw, lw, lw]
      rfl
    have lq : lowD 1 (qD C l) = true := low_q C l 1
    refine rso_of (rso_new (g := gN l m) (ds := nsD (nxt l m v)) (c1 := [x.c]) 16 (rn_set (W := Wf) 16 scLaw.nd (re_c0 L.told (hr.mono (by decide)) (ra_cons (re_var 15) (ra_cons (re_var 5) (ra_cons (re_var 12) (ra_cons (re_var 13) ra_nil)))) td)) (low_nsD 0 _) fun b => ?_)
    refine rso_end 1 (so' := .nx (W none) [x.c, .lst (nsD (nxt l m v) ++ [.int 9])]) ?_ (.nx (.one l0 (.one l1 (.one rfl (.one l2 (.one l3 (.one lq (.one l4 (.one l5 (.non (.one l6 (.one l7 (.one l8 (.one rfl (.one rfl (.one ldu (.one rfl (.non .nil))))))))))))))))) rfl) rfl
    refine rss_less (ρ1 := W (some (.mut 1))) ?_ (by repeat (first | exact Less.nil | apply Less.same | apply Less.skip))
    have fz : Frz 1 (nsD (nxt l m v)) (W (some (.mut 1))) (W (some (.lst ⟨false, true⟩ (nsD (nxt l m v))))) :=
      .low l0 (.low l1 (.low rfl (.low l2 (.low l3 (.low lq (.low l4 (.low l5 (.non (.low l6 (.low l7 (.low l8 (.low rfl (.low rfl (.low ldu (.low rfl (.seen .nil))))))))))))))))
    have nn2 : (!decide ((toPy (.lst ⟨false, true⟩ (nsD (nxt l m v)))).shown = (toPy (.lst (gN l m) (nsD (nxt l m v)))).shown)) = false := by
      rw [sh_g ⟨false, true⟩ (gN l m), decide_eq_true rfl]
      rfl
    refine rss_cons (c1 := [x.c, .lst (nsD (nxt l m v))]) (rs_if (kb := false) (rt_frz (c := [x.c]) (c1 := [x.c]) (ds := nsD (nxt l m v)) (b := false) (rt_to (rt_cmp (nw := true) op_ne (re_callB (call_repr hg hu) G.repr PyProof.Rows.boot_repr (ra_cons (re_var 16) ra_nil) (cv_repr (sh ⟨false, true⟩))) (re_callB (call_repr hg hu) G.repr PyProof.Rows.boot_repr (ra_cons (re_ix ix_seq (re_var 14) (re_var 15) (ov_ixL (d := .lst (gN l m) (nsD (nxt l m v))) (j := i + 1) rfl (by rw [at_ (i + 1) hi, ev]))) ra_nil) (cv_repr (sh (gN l m)))) ov_neT) nn2) fz hz (sc_cell _)) (fun z => nomatch z) fun _ => rss_nil) ?_
    refine rss_cons (c1 := [x.c, .lst (nsD (nxt l m v) ++ [.int 9])]) (rs_if (kb := true) (rt_to (rt_cmp (nw := true) op_gt (re_var 15) re_int (ov_ib (f := fun i j => decide (j < i)))) (decide_eq_true (by omega))) (fun _ => ?_) fun z => nomatch z) rss_nil
    exact rss_cons (rs_app 16 1 re_int ⟨nsD (nxt l m v), rfl⟩ rfl len rfl) rss_nil
end
end K41

namespace K41
open PySem PySem.Spec PyProof.Rows L2 LA
/-! ### the law: a turn, a cell -/
def sgM : List Nat := [45, 45, 48, 49]
def mskL (x : Pl) (n : Nat) : List Nat := (List.range n).map fun i => sgM.getD (drawV (itC x 4 i) 4).toNat 0
theorem msk_pat (x : Pl) (n : Nat) : mskL x n ∈ patT n := by
  refine patT_mem.mpr ⟨by unfold mskL; rw [List.length_map, List.length_range], fun c hc => ?_⟩
  obtain ⟨i, _, rfl⟩ := List.mem_map.mp hc
  have d := drawV_in (c := itC x 4 i) (show (0 : Int) < 4 by decide)
  have h : (drawV (itC x 4 i) 4).toNat < 4 := by omega
  show sgM.getD (drawV (itC x 4 i) 4).toNat 0 ∈ pats
  generalize (drawV (itC x 4 i) 4).toNat = j at h
  match j, h with
  | 0, _ => decide
  | 1, _ => decide
  | 2, _ => decide
  | 3, _ => decide
theorem nodup_at {ts : List (List Nat)} (f : List Nat → Nat) (h : ∀ (i : Nat) p, ts[i]? = some p → f p = i) : ts.Nodup := by
  refine List.pairwise_iff_getElem.mpr fun i j hi hj hij e => ?_
  have h1 := h i _ (List.getElem?_eq_getElem hi)
  have h2 := h j _ (List.getElem?_eq_getElem hj)
  rw [e] at h1
  omega
theorem insT_nodup (n : Nat) : (insT n).Nodup := nodup_at (fun p => binNum (48 :: p)) fun i p h => by
  have l := (List.getElem?_eq_some_iff.mp h).1
  rw [insT_len] at l
  have q := place_at n i l
  rw [List.getD_eq_getElem?_getD, h] at q
  exact q
theorem setK_nd (l : List Nat) {ps : List (List Nat)} (h : ps.Nodup) : ((setK l ps).map (·.1)).Nodup := by
  unfold setK
  rw [List.map_map]
  show (ps.map fun p => (Sum.inr (tx p) : Key)).Nodup
  refine List.Pairwise.map _ (fun a b ne e => ne ?_) h
  exact tx_inj (Sum.inr.inj e)
theorem ans_pairs (l : List Nat) (n : Nat) : coll (fun _ => true) (fun j => .tup [.str (tx ((insT n).getD j [])), .int (if l.getD j 0 = 49 then 1 else 0)]) (2 ^ n) = (setK l (insT n)).map prD := by
  rw [coll_all]
  unfold setK
  rw [List.map_map]
  have e := rng_all [] (fun p => prD (Sum.inr (tx p), oD (sett l p))) (insT n)
  rw [insT_len] at e
  refine Eq.trans (List.map_congr_left fun j hj => ?_) e
  have hj2 : j < 2 ^ n := List.mem_range.mp hj
  have hm : (insT n).getD j [] ∈ insT n := by
    rw [List.getD_eq_getElem?_getD, List.getElem?_eq_getElem (by rw [insT_len]; exact hj2)]
    exact List.getElem_mem _
  show D.tup _ = D.tup [.str (tx ((insT n).getD j [])), oD (sett l ((insT n).getD j []))]
  rw [sett_no (bins_no (insT_mem hm)), ans_at hj2]
  rfl
theorem low_wD (m : Nat) : ∀ ws : List (List Nat), lowDs m (wD ws) = true
  | [] => rfl
  | _ :: r => low_wD m r
theorem low_ints (n : Nat) : ∀ ns : List Int, lowDs n (ns.map D.int) = true
  | [] => rfl
  | a :: r => low_ints n r
def tnP (y : Pl) (n : Nat) : Nat → Pl
  | 0 => y
  | j + 1 => drawC (itC (tnP y n j) 4 n) 7
def manyL : List D := [.int 0, .int 1, .int 2, .int 3, .int 3, .int 4, .int 4, .int 5]
def manyN (x : Pl) : Nat := [0, 1, 2, 3, 3, 4, 4, 5].getD (drawV x 8).toNat 0
theorem manyN_le (x : Pl) : manyN x ≤ 5 ∧ manyL[(drawV x 8).toNat]? = some (.int ((manyN x : Nat) : Int)) := by
  have d8 := drawV_in (c := x) (show (0 : Int) < 8 by decide)
  have h : (drawV x 8).toNat < 8 := by omega
  unfold manyN
  generalize (drawV x 8).toNat = j at h
  match j, h with
  | 0, _ => exact ⟨by decide, rfl⟩
  | 1, _ => exact ⟨by decide, rfl⟩
  | 2, _ => exact ⟨by decide, rfl⟩
  | 3, _ => exact ⟨by decide, rfl⟩
  | 4, _ => exact ⟨by decide, rfl⟩
  | 5, _ => exact ⟨by decide, rfl⟩
  | 6, _ => exact ⟨by decide, rfl⟩
  | 7, _ => exact ⟨by decide, rfl⟩
section
variable {P : Program} {w : World} {K : PySem.W.Frag} {mg : Str → Option Value} {base : Heap} {f : Addr} {cdv : Value} {A : Around} {outer : List Env} {s : Shared} {H : Hp} {E : XK} {p : HD} {C Cn BP BTa : Addr}
abbrev frQ (S kk : D) (l : List Nat) (C : Addr) (tu mk su du wi : Option D) : Rho :=
  frL (some S) (some kk) (some (.int ((manyOf l : Nat) : Int))) (some (.str (tx l))) (some (qD C l)) (some (.lst ⟨false, true⟩ (wD (insT (manyOf l))))) (some (.dct (setK l (KU l (manyOf l) (3 ^ manyOf l))))) none (some (.dct (mpK (cD l) (patU (manyOf l))))) (some (.str (tx (dash (manyOf l))))) tu mk su du wi none
theorem turn_ok {x : Pl} {l : List Nat} {S kk : D} {t : Nat} (G : Glb mg) (L : LawD P w K mg base C Cn BP BTa) (T : Tab l) (h5 : manyOf l ≤ 5) (l0 : lowD 1 S = true) (l1 : lowD 1 kk = true)
    (hr : Room 47 (cxL P w K mg base f cdv A outer s H E).A) (hg : (cxL P w K mg base f cdv A outer s H E).A.guards = some []) (hz : p.z = []) :
    RSs (cxL P w K mg base f cdv A outer s H E) Wf p (frQ S kk l C (some (.int ((t : Nat) : Int))) none none none none) [x.c] tBd
      (.nx (frQ S kk l C none none none none none) [(drawC (itC x 4 (manyOf l)) 7).c]) := by
  have hu1 : (cxL P w K mg base f cdv A outer s H E).A.units + 1 < cLine := by have := hr.un; omega
  have hm := msk_pat x (manyOf l)
  have lnI := intsD_len (manyOf l)
  let tu : Option D := some (.int ((t : Nat) : Int))
  let mk := mskL x (manyOf l)
  let y := itC x 4 (manyOf l)
  let z := drawC y 7
  have d7 := drawV_in (c := y) (show (0 : Int) < 7 by decide)
  let u := (drawV y 7).toNat
  have hu7 : u < 7 := by
    show (drawV y 7).toNat < 7
    omega
  have eu : drawV y 7 = ((u : Nat) : Int) := (Int.toNat_of_nonneg d7.1).symm
  let du : D := .lst ⟨true, true⟩ [dueD l mk u 0, dueD l mk u 1, dueD l mk u 2]
  refine rss_less (ρ1 := frQ S kk l C tu (some (.str (tx mk))) (some (.int ((u : Nat) : Int))) (some du) none) ?_ (by repeat (first | exact Less.nil | apply Less.same | apply Less.skip))
  refine rss_cons (c1 := [y.c]) (ρ1 := frQ S kk l C tu (some (.str (tx mk))) none none none) (rs_set (nw := true) 12 scLaw.nd (re_joinC (l := mk) (n1 := true) (n2 := true) (g := ⟨false, true⟩) (c1 := [x.c]) re_str ?_ (by have := (patT_mem.mp hm).1; show (mskL x (manyOf l)).length ≤ _; omega))) ?_
  · have e1 : mk.map (fun n => D.str (chr1 n)) = coll (fun _ => true) (fun i => D.str (chr1 (sgM.getD (drawV (itC x 4 i) 4).toNat 0))) (intsD (manyOf l)).length := by
      rw [coll_all, lnI]
      show (mskL x (manyOf l)).map _ = _
      unfold mskL
      rw [List.map_map]
      rfl
    have e2 : [y.c] = [(itC x 4 (intsD (manyOf l)).length).c] := by rw [lnI]
    rw [e1, e2]
    refine re_lc (own := [("_law_j", 8)]) (g := gName 8) (xs := intsD (manyOf l)) (fun _ => true) _ (fun i => [(itC x 4 i).c]) (fun i => [(itC x 4 i).c]) (fun j => frL (some S) (some kk) (some (.int ((manyOf l : Nat) : Int))) (some (.str (tx l))) (some (qD C l)) (some (.lst ⟨false, true⟩ (wD (insT (manyOf l))))) (some (.dct (setK l (KU l (manyOf l) (3 ^ manyOf l))))) (some (.int ((j : Nat) : Int))) (some (.dct (mpK (cD l) (patU (manyOf l))))) (some (.str (tx (dash (manyOf l))))) tu none none none none none) (fun _ => true) rfl scLaw.nd (ri_rangeN G.range (re_var 3) (by omega)) (blkOk_by (N := nLaw) (sc := defScope (top 62)) (by decide +kernel)) (fun _ _ _ _ _ => pg_name (i := 8) scLaw.nd rfl (Or.inl rfl)) (fun i d h => ?_) (fun i d h q s H C cl fp => pts_all) (fun i d h _ q s H C cl fp => ?_) (fun _ _ _ z => nomatch z) (by rw [lnI]; omega)
    · obtain ⟨rfl, _⟩ := intsD_at h
      exact tg_name (by decide)
    · have d4 := drawV_in (c := itC x 4 i) (show (0 : Int) < 4 by decide)
      refine re_ix ix_seq (re_str (x := tx sgM)) (re_c0 L.draw (hr.mono (by decide)) (ra_cons (re_var 2) (ra_cons re_int ra_nil)) ⟨0, 4, itC x 4 i, rfl, rfl, by decide, by decide, rfl⟩) (ov_ixS (by decide) (Int.toNat_of_nonneg d4.1).symm (at_tx (t := sgM) (by show _ < 4; omega)))
  refine rss_cons (c1 := [z.c]) (ρ1 := frQ S kk l C tu (some (.str (tx mk))) (some (.int ((u : Nat) : Int))) none none) (rs_set (nw := false) 13 scLaw.nd (re_to (re_c0 L.draw (hr.mono (by decide)) (ra_cons (re_var 2) (ra_cons re_int ra_nil)) ⟨0, 7, y, rfl, rfl, by decide, by decide, rfl⟩) (congrArg D.int eu))) ?_
  refine rss_cons (c1 := [z.c]) (ρ1 := frQ S kk l C tu (some (.str (tx mk))) (some (.int ((u : Nat) : Int))) (some du) none) (rs_set (nw := true) 14 scLaw.nd (re_lst (ds := [dueD l mk u 0, dueD l mk u 1, dueD l mk u 2]) (ra_cons (re_dget (k := .inr (tx mk)) hu1 (re_var 9) (re_var 12) (mpK_at (cD l) (patU_mem.mpr hm))) (ra_cons (re_c0 L.nx (hr.mono (by decide)) (ra_cons (re_var 9) (ra_cons (re_var 12) (ra_cons (re_var 13) ra_nil))) ⟨l, mk, manyOf l, u, rfl, by omega, hm, rfl⟩) (ra_cons (re_c0 L.nx (hr.mono (by decide)) (ra_cons (re_var 9) (ra_cons (re_var 12) (ra_cons re_int ra_nil))) ⟨l, mk, manyOf l, 0, rfl, by omega, hm, rfl⟩) ra_nil))) (by show 3 ≤ 100000; decide))) ?_
  have loop := rs_for_all (X := cxL P w K mg base f cdv A outer s H E) (W := Wf) (p := p) (c := [z.c]) (ρ := frQ S kk l C tu (some (.str (tx mk))) (some (.int ((u : Nat) : Int))) (some du) none) (xs := intsD 3) (vs := [15]) (g := gName 15) (body := wBd) (tg := fTg (tth 3)) (it := fIt (tth 3)) (pos := fPs (tth 3))
    (fun _ => frQ S kk l C tu (some (.str (tx mk))) (some (.int ((u : Nat) : Int))) (some du) none) (fun i => frQ S kk l C tu (some (.str (tx mk))) (some (.int ((u : Nat) : Int))) (some du) (some (.int ((i : Nat) : Int)))) (fun _ => [z.c]) PassesOwn.never rfl rfl
    (ri_range (n := 3) G.range re_int (by decide) (by decide)) (pg_name (i := 15) scLaw.nd rfl (Or.inl rfl)) (fun i d h => by
      obtain ⟨rfl, _⟩ := intsD_at h
      exact tg_name (by decide)) (fun i d h => by
      obtain ⟨rfl, hi⟩ := intsD_at h
      exact rss_less (wturn_ok (u := u) G L T rfl h5 hm hu7 hi l0 l1 rfl rfl (low_wD 1 _) (low_setK l 1 _) (mpK_low (cD l) 1 (fun q => rfl) _) rfl rfl hr hg hz) (by repeat (first | exact Less.nil | apply Less.same | apply Less.skip)))
  exact rss_cons loop rss_nil
abbrev cM (x : Pl) : Nat := manyN x
abbrev cL (x : Pl) : List Nat := tabL (drawC x 8) (cM x)
abbrev cY (x : Pl) : Pl := tabP (drawC x 8) (cM x)
abbrev frC (S kk : D) (m tb qn tz st j fw wh : Option D) : Rho := frL (some S) (some kk) m tb qn tz st j fw wh none none none none none none
abbrev outR (S : D) : Rho := [some S, none, none, none, none, none, none, none, none, none, none, none, none, none, none, none, none]
theorem mid_ok {x : Pl} {S kk : D} (G : Glb mg) (L : LawD P w K mg base C Cn BP BTa) (hS : lowD 1 S = true) (hk : lowD 1 kk = true) (hr : Room 47 (cxL P w K mg base f cdv A outer s H E).A) (hg : (cxL P w K mg base f cdv A outer s H E).A.guards = some []) (hz : p.z = []) :
    ∃ c', RSs (cxL P w K mg base f cdv A outer s H E) Wf p (frC S kk none none none none none none none none) [x.c] (bCell.drop 1) (.nx (outR S) c') := by
  have hr1 := hr.mono (show 1 ≤ 47 by decide)
  have hr2 := hr.mono (show 2 ≤ 47 by decide)
  have hu : (cxL P w K mg base f cdv A outer s H E).A.units + 70 < cLine := by have := hr.un; omega
  have hu1 : (cxL P w K mg base f cdv A outer s H E).A.units + 1 < cLine := by have := hr.un; omega
  have d8 := drawV_in (c := x) (show (0 : Int) < 8 by decide)
  obtain ⟨n5, en⟩ := manyN_le x
  have n6 : manyN x ≤ 6 := by omega
  have ll : (cL x).length = 2 ^ cM x := tabL_len _ _
  have T : Tab (cL x) := tab_tab _ n6
  have hm : manyOf (cL x) = cM x := many_pow n6 ll
  have l64 : (cL x).length ≤ 1000 := by
    rw [ll]
    exact Nat.le_trans (Nat.pow_le_pow_right (by decide) n6) (by decide)
  refine ⟨[(drawC (drawC (tnP (cY x) (cM x) 6) 7) 6).c], ?_⟩
  refine rss_less (ρ1 := frQ S kk (cL x) C none none none none none) ?_ (by repeat (first | exact Less.nil | apply Less.skip | apply Less.same))
  refine rss_cons (c1 := [(drawC x 8).c]) (ρ1 := frC S kk (some (.int ((manyN x : Nat) : Int))) none none none none none none none) (rs_set (nw := false) 3 scLaw.nd (re_ix ix_seq (re_lst (ds := manyL) (ra_cons re_int (ra_cons re_int (ra_cons re_int (ra_cons re_int (ra_cons re_int (ra_cons re_int (ra_cons re_int (ra_cons re_int ra_nil)))))))) (by show 8 ≤ 100000; decide)) (re_c0 L.draw hr1 (ra_cons (re_var 2) (ra_cons re_int ra_nil)) ⟨0, 8, x, rfl, rfl, by decide, by decide, rfl⟩) (ov_ixL (j := (drawV x 8).toNat) (Int.toNat_of_nonneg d8.1).symm en))) ?_
  refine rss_cons (c1 := [(cY x).c]) (ρ1 := frC S kk (some (.int ((manyN x : Nat) : Int))) (some (.str (tx (cL x)))) none none none none none none) (rs_set (nw := true) 4 scLaw.nd (re_c0 L.tabl hr2 (ra_cons (re_var 2) (ra_cons (re_var 3) ra_nil)) ⟨drawC x 8, cM x, rfl, rfl, n6, rfl⟩)) ?_
  have n5 : cM x ≤ 5 := n5
  replace n6 : cM x ≤ 6 := n6
  have hmx : manyN x = cM x := rfl
  rw [hmx]
  generalize cY x = y at *
  generalize cL x = l at *
  generalize cM x = n at *
  subst hm
  refine rss_cons (c1 := [y.c]) (ρ1 := frC S kk (some (.int ((manyOf l : Nat) : Int))) (some (.str (tx l))) (some (qD C l)) none none none none none) (rs_set (nw := true) 5 scLaw.nd (re_makeQ (o := .val (qD C l) true [y.c]) takes0 L.make (hr.mono (by decide)) (re_var 4) (str_fit l64) (fun _ => rfl) (by unfold outQ; rw [tab_is T, if_pos rfl, cds_tx]))) ?_
  refine rss_cons (c1 := [y.c]) (ρ1 := frC S kk (some (.int ((manyOf l : Nat) : Int))) (some (.str (tx l))) (some (qD C l)) (some (.lst ⟨false, true⟩ (wD (insT (manyOf l))))) none none none none) (rs_set (nw := false) 6 scLaw.nd (re_c0 L.txts hr1 (ra_cons (re_var 3) (ra_cons re_str ra_nil)) ⟨bins, manyOf l, rfl, n6, by decide, by decide, rfl⟩)) ?_
  refine rss_cons (c1 := [y.c]) (ρ1 := frC S kk (some (.int ((manyOf l : Nat) : Int))) (some (.str (tx l))) (some (qD C l)) (some (.lst ⟨false, true⟩ (wD (insT (manyOf l))))) (some (.dct (setK l (KU l (manyOf l) (3 ^ manyOf l))))) none none none) ?_ ?_
  · have p32 : 2 ^ manyOf l ≤ 32 := Nat.le_trans (Nat.pow_le_pow_right (by decide) n5) (by decide)
    refine rs_set (nw := false) 7 scLaw.nd (re_c0 L.lset hr2 (ra_cons (re_var 3) (ra_cons (nw := true) (re_callT (ds := [.lst ⟨false, true⟩ ((setK l (insT (manyOf l))).map prD)]) (call_dct rfl) G.dct PyProof.Rows.boot_dict (ra_cons (nw := true) ?_ ra_nil) (cv_dct (setK_nd l (insT_nodup _)))) ra_nil)) ⟨l, manyOf l, rfl, n6, rfl⟩)
    rw [← ans_pairs]
    have li : (intsD (2 ^ manyOf l)).length = 2 ^ manyOf l := intsD_len _
    rw [← li]
    refine re_lc (own := [("_law_j", 8)]) (g := gName 8) (xs := intsD (2 ^ manyOf l)) (fun _ => true) _ (fun _ => [y.c]) (fun _ => [y.c]) (fun j => frC S kk (some (.int ((manyOf l : Nat) : Int))) (some (.str (tx l))) (some (qD C l)) (some (.lst ⟨false, true⟩ (wD (insT (manyOf l))))) none (some (.int ((j : Nat) : Int))) none none) (fun _ => true) rfl scLaw.nd
      (ri_rangeN G.range (re_to (re_callB call_len G.len PySem.boot_len (ra_cons (re_var 6) ra_nil) cv_lenL) (congrArg D.int (by rw [wD_len, insT_len]))) (by omega)) (blkOk_by (N := nLaw) (sc := defScope (top 62)) (by decide +kernel)) (fun _ _ _ _ _ => pg_name (i := 8) scLaw.nd rfl (Or.inl rfl)) (fun j d h => ?_) (fun j d h q s H C cl fp => pts_all) (fun j d h _ q s H C' cl fp => ?_) (fun _ _ _ z => nomatch z) (by rw [li]; omega)
    · obtain ⟨rfl, _⟩ := intsD_at h
      exact tg_name (by decide)
    · obtain ⟨rfl, hj⟩ := intsD_at h
      have hb : l.getD j 0 = 48 ∨ l.getD j 0 = 49 := by
        have hjl : j < l.length := by omega
        have m := T.2 (l.getD j 0) (by rw [List.getD_eq_getElem?_getD, List.getElem?_eq_getElem hjl]; exact List.getElem_mem hjl)
        have e : bins = [48, 49] := by decide
        rw [e] at m
        simpa using m
      have e1 : (.int (((l.getD j 0 : Nat) : Int) - 48) : D) = .int (if l.getD j 0 = 49 then 1 else 0) := by
        rcases hb with h | h <;> rw [h] <;> rfl
      refine re_tup (ra_cons (re_ix ix_seq (re_var 6) (re_var 8) (ov_ixL (j := j) rfl ?_)) (ra_cons (nw := true) (re_to (re_intB G.int (re_ix ix_seq (re_var 4) (re_var 8) (ov_ixS (by rw [tx_len]; exact sz_le (by omega)) rfl (at_tx (by omega)))) hb) e1) ra_nil)) (by show 2 ≤ 100000; decide)
      unfold wD
      rw [List.getElem?_map, List.getD_eq_getElem?_getD, List.getElem?_eq_getElem (by rw [insT_len]; exact hj)]
      rfl
  refine rss_cons (c1 := [y.c]) (ρ1 := frC S kk (some (.int ((manyOf l : Nat) : Int))) (some (.str (tx l))) (some (qD C l)) (some (.lst ⟨false, true⟩ (wD (insT (manyOf l))))) (some (.dct (setK l (KU l (manyOf l) (3 ^ manyOf l))))) none (some (.dct (mpK (cD l) (patU (manyOf l))))) none) (rs_set (nw := false) 9 scLaw.nd (re_c0 L.nd hr2 (ra_cons (re_var 3) (ra_cons (re_var 7) ra_nil)) ⟨l, manyOf l, rfl, n6, rfl⟩)) ?_
  refine rss_cons (c1 := [y.c]) (ρ1 := frQ S kk l C none none none none none) (rs_set (nw := true) 10 scLaw.nd (re_to (d' := .str (tx (dash (manyOf l)))) (re_bin op_mulS re_str (re_var 3) (ov_mulS (mulOk_small rfl (by omega)))) (congrArg D.str (rep_tx 45 (manyOf l))))) ?_
  have dl : (dash (manyOf l)).length ≤ 6 := by rw [dash_len]; exact n6
  have at1 : valD (mpK (cD l) (patU (manyOf l))) (.inr (tx (dash (manyOf l)))) = some (cD l (dash (manyOf l))) := mpK_at (cD l) (patU_mem.mpr (dash_pat _))
  have sh1 : Shows (.lst ⟨true, true⟩ [cD l (dash (manyOf l)), .bl (decide (((cst l (dash (manyOf l)) : Nat) : Int) = ((manyOf l : Nat) : Int)))]) := (Tiny.lst (w := 100) (k := 0) (n := 2) (ds := [cD l (dash (manyOf l)), .bl (decide (((cst l (dash (manyOf l)) : Nat) : Int) = ((manyOf l : Nat) : Int)))]) (fun d hd => by
    simp only [List.mem_cons, List.not_mem_nil, or_false] at hd
    rcases hd with rfl | rfl
    · exact cD_tiny dl
    · cases decide (((cst l (dash (manyOf l)) : Nat) : Int) = ((manyOf l : Nat) : Int)) <;> exact tiny_small rfl) (Nat.le_refl 2)).shows (by decide) (by decide)
  have sh2 : Shows (tr l (dash (manyOf l))) := tr_shows dl
  refine rss_cons (c1 := [y.c]) (rs_if (kb := false) (rt_to (rt_cmp (nw := true) op_ne (re_callB (call_repr hg hu) G.repr PyProof.Rows.boot_repr (ra_cons (re_lst (ra_cons (re_c0 L.lk (hr.mono (by decide)) (ra_cons (re_var 5) ra_nil) ⟨l, rfl, T, rfl⟩) (ra_cons (re_c0 L.na (hr.mono (by decide)) (ra_cons (re_var 5) ra_nil) ⟨l, rfl, T, rfl⟩) ra_nil)) (by show 2 ≤ 100000; decide)) ra_nil) (cv_repr sh1)) (re_callB (call_repr hg hu) G.repr PyProof.Rows.boot_repr (ra_cons (re_lst (ra_cons (re_dget (k := .inr (tx (dash (manyOf l)))) hu1 (re_var 9) (re_var 10) at1) (ra_cons (re_cmp op_eq (re_dget (k := .inr (tx (dash (manyOf l)))) hu1 (re_var 9) (re_var 10) at1) (re_var 3) ov_eqI) ra_nil)) (by show 2 ≤ 100000; decide)) ra_nil) (cv_repr sh1)) ov_neT) nn) (fun z => nomatch z) fun _ => rss_nil) ?_
  refine rss_cons (c1 := [y.c]) (rs_if (kb := false) (rt_to (rt_cmp (nw := true) op_ne (re_callB (call_repr hg hu) G.repr PyProof.Rows.boot_repr (ra_cons (re_c0 L.bt (hr.mono (by decide)) (ra_cons (re_var 5) ra_nil) ⟨l, rfl, T, rfl⟩) ra_nil) (cv_repr sh2)) (re_callB (call_repr hg hu) G.repr PyProof.Rows.boot_repr (ra_cons (re_c0 L.lb (hr.mono (by decide)) (ra_cons (re_var 7) (ra_cons (re_var 9) (ra_cons (re_var 10) ra_nil))) ⟨l, _, manyOf l, rfl, n6, dash_pat _, by rw [dash_cnt]; exact n6, rfl⟩) ra_nil) (cv_repr sh2)) ov_neT) nn) (fun z => nomatch z) fun _ => rss_nil) ?_
  have lb := rs_for_all (X := cxL P w K mg base f cdv A outer s H E) (W := Wf) (p := p) (c := [y.c]) (ρ := frQ S kk l C none none none none none) (xs := intsD 6) (vs := [11]) (g := gName 11) (body := tBd) (tg := fTg (nth 10)) (it := fIt (nth 10)) (pos := fPs (nth 10))
    (fun _ => frQ S kk l C none none none none none) (fun i => frQ S kk l C (some (.int ((i : Nat) : Int))) none none none none) (fun j => [(tnP y (manyOf l) j).c]) PassesOwn.never rfl rfl
    (ri_range (n := 6) G.range re_int (by decide) (by decide)) (pg_name (i := 11) scLaw.nd rfl (Or.inl rfl)) (fun i d h => by
      obtain ⟨rfl, _⟩ := intsD_at h
      exact tg_name (by decide)) (fun i d h => by
      obtain ⟨rfl, hi⟩ := intsD_at h
      exact turn_ok G L T n5 hS hk hr hg hz)
  refine rss_cons lb ?_
  rw [intsD_len]
  exact rss_cons (rs_if (kb := false) (rt_to (rt_not (rt_val (re_cG L.rf (hr.mono (by decide)) hg (ra_cons (re_var 2) (ra_cons (re_var 5) (ra_cons (re_var 3) ra_nil))) ⟨tnP y (manyOf l) 6, l, manyOf l, rfl, rfl, T, rfl, n5, rfl⟩))) rfl) (fun z => nomatch z) fun _ => rss_nil) rss_nil
theorem cell_ok {g : LA.G} {ns : List Int} {j : Nat} (G : Glb mg) (L : LawD P w K mg base C Cn BP BTa) (hr : Room 47 (cxL P w K mg base f cdv A outer s H E).A) (hg : (cxL P w K mg base f cdv A outer s H E).A.guards = some []) :
    RSs (cxL P w K mg base f cdv A outer s H E) Wf ⟨[], []⟩ [some (.lst g (ns.map D.int)), some (.int (j : Nat)), none, none, none, none, none, none, none, none, none, none, none, none, none, none, none] [] bCell (.nx (outR (.lst g (ns.map D.int))) []) := by
  refine rso_of (rso_new (g := ⟨true, true⟩) (ds := (poolOf ns (j : Nat)).ds) (c1 := []) 2 (rn_set (W := Wf) 2 scLaw.nd (re_c0 L.pool (hr.mono (by decide)) (ra_cons (re_var 0) (ra_cons (re_var 1) ra_nil)) ⟨g, ns, j, rfl, rfl⟩)) rfl fun a => ?_)
  obtain ⟨c', t⟩ := mid_ok (x := poolOf ns (j : Nat)) (p := HD.muts ⟨[], []⟩ [a]) (S := .lst g (ns.map D.int)) (kk := .int (j : Nat)) (f := f) (cdv := cdv) (A := A) (outer := outer) (s := s) (H := H) (E := E) G L (low_ints 1 ns) rfl hr hg rfl
  exact rso_end 0 t (.nx (.one (low_ints 0 ns) (by repeat (first | exact LowR.nil | apply LowR.non))) rfl) rfl
theorem law_ok {g : LA.G} {ns : List Int} (G : Glb mg) (L : LawD P w K mg base C Cn BP BTa) (hr : Room 47 (cxL P w K mg base f cdv A outer s H E).A) (hg : (cxL P w K mg base f cdv A outer s H E).A.guards = some []) (hl : ns.length ≤ 63) :
    RSs (cxL P w K mg base f cdv A outer s H E) Wf ⟨[], []⟩ (outR (.lst g (ns.map D.int))) [] (defBody (top 62)) (.rt (.bl true) true []) := by
  obtain ⟨M, hM1, hM2, hM⟩ : ∃ M : Int, 0 ≤ M ∧ M ≤ 100 ∧ (if (1 : Int) < (if (4 : Int) < ((ns.map D.int).length : Nat) then (4 : Int) else ((ns.map D.int).length : Nat)) then (if (4 : Int) < ((ns.map D.int).length : Nat) then (4 : Int) else ((ns.map D.int).length : Nat)) else 1) = M := by
    refine ⟨_, ?_, ?_, rfl⟩
    · split <;> split <;> omega
    · split <;> split <;> omega
  have h := rs_for_all (X := cxL P w K mg base f cdv A outer s H E) (W := Wf) (p := ⟨[], []⟩) (c := []) (ρ := outR (.lst g (ns.map D.int))) (xs := intsD M.toNat) (vs := [1]) (g := gName 1) (body := bCell)
    (tg := match defBody (top 62) with | .For t _ _ _ _ :: _ => t | _ => .Constant .none 0 ⟨0, 0, 0, 0⟩) (it := match defBody (top 62) with | .For _ t _ _ _ :: _ => t | _ => .Constant .none 0 ⟨0, 0, 0, 0⟩) (pos := match defBody (top 62) with | .For _ _ _ _ q :: _ => q | _ => ⟨0, 0, 0, 0⟩)
    (fun _ => outR (.lst g (ns.map D.int))) (fun i => [some (.lst g (ns.map D.int)), some (.int (i : Nat)), none, none, none, none, none, none, none, none, none, none, none, none, none, none, none]) (fun _ => []) PassesOwn.never rfl rfl
    (by
      rw [← hM]
      refine ri_range G.range (re_callB (call_max2 rfl) G.max PyProof.Rows.boot_max (ra_cons re_int (ra_cons (re_callB (call_min2 rfl) G.min PyProof.Rows.boot_min (ra_cons (re_callB call_len G.len PySem.boot_len (ra_cons (re_var 0) ra_nil) cv_lenL) (ra_cons re_int ra_nil)) cv_min2) ra_nil)) cv_max2) ?_ ?_
      · rw [show (_ : Int) = M from hM]
        omega
      · rw [show (_ : Int) = M from hM]
        omega) (pg_name (i := 1) scLaw.nd rfl (Or.inl rfl)) (fun i d h => by
      obtain ⟨rfl, _⟩ := intsD_at h
      exact tg_name (by decide)) (fun i d h => cell_ok G L hr hg)
  exact rss_cons h (rss_ret (rs_ret re_bl))
end
end K41

namespace K41
open PySem PySem.Spec PyProof.Rows L2 LA
/-- all that the end asks of the text -/
structure Txt (K : PySem.W.Frag) : Prop where
  free : ∀ x ∈ (["len", "int", "range", "list", "str", "isinstance", "all", "repr", "min", "max", "zip", "iter", "tuple", "bool", "enumerate", "reversed", "dict"] : List Str), PySem.W.nsIn K mainGlobals x = some none
  most : ∃ t, PySem.W.nsIn K mainGlobals "MOST" = some (some (.int 6 t))
  k34 : Gk K "strategies" (top 34) [("spare", .int 0)]
  t_LENGTHS : ∃ (T : Addr) (o : Obj) (its : Array Value) (n : Nat), PySem.W.nsIn K mainGlobals "LENGTHS" = some (some (.ref T)) ∧ K.lookup T = some o ∧ o.cls = .type "tuple" ∧ o.dict = none ∧ o.data = .seq its n ∧ its.size ≤ sizeLine ∧ Vals ((lensZ : List Int).map V.int) its.toList
  err : ∃ BTa BI Cn BP Lk C : Addr, Ge K "BadTable" "BadTable.__init__" (inClass (top 5) 0) BTa ∧
    PySem.W.findIn K (.ref BTa) "given" = some none ∧
    Ge K "BadInput" "BadInput.__init__" (inClass (top 3) 0) BI ∧
    PySem.W.findIn K (.ref BI) "given" = some none ∧
    Ge K "BadCount" "BadCount.__init__" (inClass (top 6) 0) Cn ∧
    PySem.W.findIn K (.ref Cn) "given" = some none ∧
    Ge K "BadPattern" "BadPattern.__init__" (inClass (top 4) 0) BP ∧
    PySem.W.findIn K (.ref BP) "given" = some none ∧
    PySem.W.subIn K (.ref BP) (.ref BP) = some true ∧
    PySem.W.subIn K (.ref Cn) (.ref BP) = some false ∧
    PySem.W.subIn K (.ref Cn) (.ref Cn) = some true ∧
    PySem.W.nsIn K mainGlobals "LooksError" = some (some (.ref Lk)) ∧
    Gc K "Question" "Question.__init__" (inClass (top 44) 0) C ∧
    PySem.W.findIn K (.ref C) "_table" = some none ∧
    PySem.W.findIn K (.ref C) "_many" = some none ∧
    PySem.W.findIn K (.ref C) "_yes" = some none ∧
    Gp K C "many" "Question.many" (inClass (top 44) 2) ∧
    Gm K C "__call__" "Question.__call__" (inClass (top 44) 5) ∧
    Gm K C "restricted" "Question.restricted" (inClass (top 44) 14) ∧
    Gm K C "_taken_from" "Question._taken_from" (inClass (top 44) 26)
  c12 : Gd K "check_count" (top 12) 6
  f10 : Gf K "is_whole" (top 10)
  f11 : Gf K "is_position" (top 11)
  f14 : Gf K "is_input" (top 14)
  f15 : Gf K "is_pattern" (top 15)
  f16 : Gf K "inputs" (top 16)
  f17 : Gf K "patterns" (top 17)
  f18 : Gf K "fitting" (top 18)
  f19 : Gf K "unknown" (top 19)
  f20 : Gf K "branches" (top 20)
  f21 : Gf K "check_input_of" (top 21)
  f22 : Gf K "check_pattern_of" (top 22)
  f23 : Gf K "_is_word" (top 23)
  f24 : Gf K "_words" (top 24)
  f25 : Gf K "_replaced" (top 25)
  f26 : Gf K "_check_pattern" (top 26)
  f28 : Gf K "settled_answers" (top 28)
  f30 : Gf K "looks" (top 30)
  f31 : Gf K "looks_left" (top 31)
  f32 : Gf K "best_tree" (top 32)
  f33 : Gf K "needs_all" (top 33)
  f35 : Gf K "next_steps" (top 35)
  f36 : Gf K "least_cost" (top 36)
  f37 : Gf K "least_tree" (top 37)
  f38 : Gf K "_one_more" (top 38)
  f39 : Gf K "_best_steps" (top 39)
  f40 : Gf K "_cost" (top 40)
  f41 : Gf K "_tree_at" (top 41)
  f45 : Gf K "_is_table" (top 45)
  f47 : Gf K "_place" (top 47)
  f50 : Gf K "_law_pool" (top 50)
  f51 : Gf K "_law_draw" (top 51)
  f52 : Gf K "_law_strings" (top 52)
  f53 : Gf K "_law_table" (top 53)
  f54 : Gf K "_law_settling" (top 54)
  f55 : Gf K "_law_behind" (top 55)
  f56 : Gf K "_law_open" (top 56)
  f57 : Gf K "_law_needs" (top 57)
  f58 : Gf K "_law_next" (top 58)
  f59 : Gf K "_law_best" (top 59)
  f60 : Gf K "_law_told" (top 60)
  f61 : Gf K "_law_refused" (top 61)
  f62 : Gf K "law" (top 62)
section
variable {P : Program} {w : World} {K : PySem.W.Frag} {mg : Str → Option Value} {base h : Heap}
theorem runL {fa : Addr} (T : Txt K) (X : K.In h) (G : h.Ns mainGlobals mg) (hfa : mg "law" = some (.ref fa)) {s0 : Shared} {H : Hp} {a : Addr} {ns : List Int} (e0 : Env0 P w K mg base callerA [] s0 H) (sq : SqL K H a (ns.map V.int)) (hl : ns.length ≤ 63) :
    codeAny (model P w) callerA (.call (.ref fa) ⟨[.ref a], []⟩) (CR CX0 [] P w H s0 (fun v _ => v = .bl true) fun _ _ _ => False) s0 := by
  have fr := fun x (m : x ∈ (["len", "int", "range", "list", "str", "isinstance", "all", "repr", "min", "max", "zip", "iter", "tuple", "bool", "enumerate", "reversed", "dict"] : List Str)) => PySem.W.mg_none_of X G (T.free x m)
  have Gb : Glb mg := ⟨fr "len" (by decide), fr "int" (by decide), fr "range" (by decide), fr "list" (by decide), fr "str" (by decide), fr "isinstance" (by decide), fr "all" (by decide), fr "repr" (by decide), fr "min" (by decide), fr "max" (by decide), fr "zip" (by decide), fr "iter" (by decide), fr "tuple" (by decide), fr "bool" (by decide), fr "enumerate" (by decide), fr "reversed" (by decide), fr "dict" (by decide)⟩
  obtain ⟨tkM, hM⟩ := T.most
  have hM := PySem.W.mg_of X G hM
  have t_LENGTHS : CTup K mg "LENGTHS" lensZ := ctup X G T.t_LENGTHS
  obtain ⟨BTa, BI, Cn, BP, Lk, C, gT, ngT_given, gI, ngI_given, gN, ngN_given, gP, ngP_given, sPP, sNP, sNN, aL, qc, qt, qm, qy, pm, mc, mr, mk⟩ := T.err
  have E_gT : Err1 P w K mg base "BadTable" "given" BTa := err1 X G gT ngT_given ⟨rfl, rfl, rfl, by decide +kernel, rfl, by decide +kernel, by decide +kernel⟩ rfl (by decide) (by decide) fun _ _ _ _ _ _ us hl => match us, hl with | [_, _], _ => rfl
  have E_gI : Err1 P w K mg base "BadInput" "given" BI := err1 X G gI ngI_given ⟨rfl, rfl, rfl, by decide +kernel, rfl, by decide +kernel, by decide +kernel⟩ rfl (by decide) (by decide) fun _ _ _ _ _ _ us hl => match us, hl with | [_, _], _ => rfl
  have E_gN : Err1 P w K mg base "BadCount" "given" Cn := err1 X G gN ngN_given ⟨rfl, rfl, rfl, by decide +kernel, rfl, by decide +kernel, by decide +kernel⟩ rfl (by decide) (by decide) fun _ _ _ _ _ _ us hl => match us, hl with | [_, _], _ => rfl
  have E_gP : Err1 P w K mg base "BadPattern" "given" BP := err1 X G gP ngP_given ⟨rfl, rfl, rfl, by decide +kernel, rfl, by decide +kernel, by decide +kernel⟩ rfl (by decide) (by decide) fun _ _ _ _ _ _ us hl => match us, hl with | [_, _], _ => rfl
  have mL := PySem.W.mg_of X G aL
  have XF : ExF K BP Cn := ⟨PySem.W.exm_ref gP.xf.exC gP.xf.hdC gP.ox.tyC sPP, PySem.W.exm_ref gP.xf.exC gP.xf.hdC gP.ox.tyC sNP, PySem.W.exm_ref gN.xf.exC gN.xf.hdC gN.ox.tyC sNN⟩
  have mQ := PySem.W.mg_of X G qc.ns
  have Q : QC K C := ⟨qc.cl, qt, qm, qy⟩
  have D51 : DrawD P w K mg base := def0 X G T.f51 (fun f fd F => ok_draw Gb F) fun _ _ _ _ _ _ us hl => match us, hl with | [_, _], _ => rfl
  have D50 : PoolD P w K mg base := def0 X G T.f50 (fun f fd F => ok_pool Gb F) fun _ _ _ _ _ _ us hl => match us, hl with | [_, _], _ => rfl
  have D23 : WordD P w K mg base := def0 X G T.f23 (fun f fd F => ok_word Gb hM F) fun _ _ _ _ _ _ us hl => match us, hl with | [_, _], _ => rfl
  have D14 : IsInD P w K mg base := def0 X G T.f14 (fun f fd F => ok_isIn D23 F) fun _ _ _ _ _ _ us hl => match us, hl with | [_], _ => rfl
  have D10 : WholeD P w K mg base := def0 X G T.f10 (fun f fd F => ok_whole Gb F) fun _ _ _ _ _ _ us hl => match us, hl with | [_], _ => rfl
  have D11 : PosD P w K mg base := def0 X G T.f11 (fun f fd F => ok_pos D10 F) fun _ _ _ _ _ _ us hl => match us, hl with | [_, _], _ => rfl
  have D24 : WordsD P w K mg base := def0 X G T.f24 (fun f fd F => ok_words F) fun _ _ _ _ _ _ us hl => match us, hl with | [_], _ => rfl
  have D12 : CntD P w K mg base Cn := by
    obtain ⟨f, fd, a8, F⟩ := T.c12.ex
    obtain ⟨ds, v8, b8⟩ := F.binds1 (ps := ["many", "most"]) 1 0 (by simp) rfl fun T kV doc pm an cdv ct us its h1 h2 => match us, its, h1, h2 with | [_], [_], _, _ => ⟨_, rfl, rfl⟩
    exact ⟨⟨f, fd, ds, ok_cnt D11 E_gN F, PySem.W.mg_of X G a8, F.kp, v8, b8⟩⟩
  have D16 : AllD P w K mg base Cn "inputs" bins := def1 X G T.f16 (fun f fd F => ok_inputs D12 D24 F) fun _ _ _ _ _ _ us hl => match us, hl with | [_], _ => rfl
  have D17 : AllD P w K mg base Cn "patterns" pats := def1 X G T.f17 (fun f fd F => ok_pats D12 D24 F) fun _ _ _ _ _ _ us hl => match us, hl with | [_], _ => rfl
  have D21 : InOfD P w K mg base BI := def1 X G T.f21 (fun f fd F => ok_inOf Gb D14 E_gI F) fun _ _ _ _ _ _ us hl => match us, hl with | [_, _], _ => rfl
  have D15 : IsPatD P w K mg base := def0 X G T.f15 (fun f fd F => ok_isPat D23 F) fun _ _ _ _ _ _ us hl => match us, hl with | [_], _ => rfl
  have D22 : PatOfD P w K mg base BP := def1 X G T.f22 (fun f fd F => ok_patOf Gb D15 E_gP F) fun _ _ _ _ _ _ us hl => match us, hl with | [_, _], _ => rfl
  have D26 : ChkD P w K mg base BP := def1 X G T.f26 (fun f fd F => ok_chk D15 E_gP F) fun _ _ _ _ _ _ us hl => match us, hl with | [_], _ => rfl
  have D18 : FitD P w K mg base := def0 X G T.f18 (fun f fd F => ok_fit D26 D24 F) fun _ _ _ _ _ _ us hl => match us, hl with | [_], _ => rfl
  have D25 : RepD P w K mg base := def0 X G T.f25 (fun f fd F => ok_rep F) fun _ _ _ _ _ _ us hl => match us, hl with | [_, _, _], _ => rfl
  have D20 : BrD P w K mg base := def0 X G T.f20 (fun f fd F => ok_br D25 F) fun _ _ _ _ _ _ us hl => match us, hl with | [_, _], _ => rfl
  have D19 : UnD P w K mg base := def0 X G T.f19 (fun f fd F => ok_un Gb F) fun _ _ _ _ _ _ us hl => match us, hl with | [_], _ => rfl
  have D45 : TabD P w K mg base := def0 X G T.f45 (fun f fd F => ok_isTab Gb t_LENGTHS F) fun _ _ _ _ _ _ us hl => match us, hl with | [_], _ => rfl
  have D47 : PlaceD P w K mg base := def0 X G T.f47 (fun f fd F => ok_place Gb F) fun _ _ _ _ _ _ us hl => match us, hl with | [_], _ => rfl
  obtain ⟨fi0, fdi0, Mk0, F0⟩ := qc.ini
  have TQ : QMk P w K mg base C BTa := ⟨⟨fi0, fdi0, Mk0, ok_ini Gb t_LENGTHS Q D45 D16 E_gT F0, F0.binds (ps := ["self", "table"]) fun _ _ _ _ _ _ us hl => match us, hl with | [_, _], _ => rfl⟩, mQ⟩
  have PM : QProp P w K mg base C "many" (manyR C) := by
    obtain ⟨p1, g1, fd1, h1, F1⟩ := pm.ex
    exact ⟨p1, g1, fd1, h1, ok_many Q F1, F1.binds (ps := ["self"]) fun _ _ _ _ _ _ us hl => match us, hl with | [_], _ => rfl⟩
  have QCl : QCall P w K mg base C BI := by
    obtain ⟨g1, fd1, h1, h2, h3, F1⟩ := mc.ex
    exact ⟨g1, fd1, ⟨h1, h2, h3⟩, ok_call Gb Q D47 D21 F1, F1.binds (ps := ["self", "text"]) fun _ _ _ _ _ _ us hl => match us, hl with | [_, _], _ => rfl⟩
  have MK : QMet P w K mg base C "_taken_from" 7 ["self", "texts"] (takR C) := by
    obtain ⟨g1, fd1, h1, h2, _, F1⟩ := mk.ex
    exact ⟨g1, fd1, ⟨h1, h2, F1.kp⟩, ok_tak Q TQ D47 F1, F1.binds (ps := ["self", "texts"]) fun _ _ _ _ _ _ us hl => match us, hl with | [_, _], _ => rfl⟩
  have MR : QMet P w K mg base C "restricted" 8 ["self", "pattern"] (restR C BP) := by
    obtain ⟨g1, fd1, h1, h2, _, F1⟩ := mr.ex
    exact ⟨g1, fd1, ⟨h1, h2, F1.kp⟩, ok_rest Q D22 D18 MK F1, F1.binds (ps := ["self", "pattern"]) fun _ _ _ _ _ _ us hl => match us, hl with | [_, _], _ => rfl⟩
  have D28 : SaD P w K mg base C := def0 X G T.f28 (fun f fd F => ok_sa Gb.rev Q PM QCl D17 D20 F) fun _ _ _ _ _ _ us hl => match us, hl with | [_], _ => rfl
  obtain ⟨fo, fdo, ao, Fo⟩ := T.f38.ex
  have RU : Rule P w K mg base fo := ⟨⟨fdo, ok_om Gb Fo, PySem.W.mg_of X G ao, Fo.kp, Fo.binds (ps := ["pattern", "position", "low", "high"]) (fun _ _ _ _ _ _ us hl => match us, hl with | [_, _, _, _], _ => rfl)⟩⟩
  have D40 : CoD P w K mg base fo := def0 X G T.f40 (fun f fd F => ok_co D20 RU F) fun _ _ _ _ _ _ us hl => match us, hl with | [_, _, _, _], _ => rfl
  have D39 : BsD P w K mg base C fo := def0 X G T.f39 (fun f fd F => ok_bs Gb Q PM D17 D28 D19 D40 F) fun _ _ _ _ _ _ us hl => match us, hl with | [_, _], _ => rfl
  have D36 : LcD P w K mg base C fo := def0 X G T.f36 (fun f fd F => ok_lc Q PM D39 F) fun _ _ _ _ _ _ us hl => match us, hl with | [_, _], _ => rfl
  have D41 : TrD P w K mg base C 6 := by
    obtain ⟨f1, fd1, a1, F1⟩ := T.f41.ex
    have hm := PySem.W.mg_of X G a1
    have hb := F1.binds (ps := ["question", "steps", "pattern"]) (fun _ _ _ _ _ _ us hl => match us, hl with | [_, _, _], _ => rfl)
    exact ⟨⟨f1, fd1, ok_tr QCl D20 F1 hm hb 6, hm, F1.kp, hb⟩⟩
  have D37 : LtD P w K mg base C fo := def0 X G T.f37 (fun f fd F => ok_lt Q PM D39 D41 F) fun _ _ _ _ _ _ us hl => match us, hl with | [_, _], _ => rfl
  have D30 : LkD P w K mg base C := def0 X G T.f30 (fun f fd F => ok_lk RU D36 F) fun _ _ _ _ _ _ us hl => match us, hl with | [_], _ => rfl
  have D32 : BtD P w K mg base C := def0 X G T.f32 (fun f fd F => ok_bt RU D37 F) fun _ _ _ _ _ _ us hl => match us, hl with | [_], _ => rfl
  have D33 : NaD P w K mg base C := def0 X G T.f33 (fun f fd F => ok_na Q PM D30 F) fun _ _ _ _ _ _ us hl => match us, hl with | [_], _ => rfl
  have D31 : Def1K P w K mg base 10 "looks_left" ["question", "pattern"] (lfR C BP) 1 ["pattern"] app2 app2V := by
    obtain ⟨f1, fd1, a1, F1⟩ := T.f31.ex
    exact ⟨⟨f1, fd1, ok_lf Q MR D30 F1, PySem.W.mg_of X G a1, F1.kp, kbn_of F1 (fun _ _ _ _ _ _ us ws h1 h2 => match us, ws, h1, h2 with | [_], [_], _, _ => rfl) vals_app⟩⟩
  have D35 : NsD P w K mg base C := def0 X G T.f35 (fun f fd F => ok_ns RU D39 F) fun _ _ _ _ _ _ us hl => match us, hl with | [_], _ => rfl
  obtain ⟨f5, fd5, a5, F5⟩ := T.k34.ex
  have m5 := PySem.W.mg_of X G a5
  have W5 := ok_sg (f := f5) (fd := fd5) Gb Q PM MR D12 D35 D40 D19 RU F5
  have Ds0 : Def1D P w K mg base 10 "strategies" ["question", "pattern", "spare"] (stgR C Cn BP) [.int 0] := by
    obtain ⟨ds, v, b⟩ := F5.binds0 (ps := ["question", "pattern", "spare"]) 2 (by simp) rfl fun D doc pm an cdv ct us ks h1 h2 => match us, ks, h1, h2 with | [_, _], [_], _, _ => ⟨_, _, _, _, _, _, rfl, rfl, rfl⟩
    exact ⟨⟨f5, fd5, ds, W5, m5, F5.kp, v, b⟩⟩
  have Dsk : Def1K P w K mg base 10 "strategies" ["question", "pattern", "spare"] (stgR C Cn BP) 2 ["spare"] app2 app2V := ⟨⟨f5, fd5, W5, m5, F5.kp, FunD.kbinds0 F5 2 ["spare"] [] app2 app2V (by simp) (fun q h => nomatch h) vals_app (fun D doc pm an cdv ct us ws h1 h2 => match us, ws, h1, h2 with | [_, _], [_], _, _ => rfl)⟩⟩
  have TL : TlD P w K mg base C Cn BP := ⟨D31, Dsk, Ds0⟩
  have D52 : StrsD P w K mg base := def0 X G T.f52 (fun f fd F => ok_strs Gb F) fun _ _ _ _ _ _ us hl => match us, hl with | [_, _], _ => rfl
  have D53 : TablD P w K mg base := def0 X G T.f53 (fun f fd F => ok_tabl Gb D51 D52 F) fun _ _ _ _ _ _ us hl => match us, hl with | [_, _], _ => rfl
  have D54 : LsetD P w K mg base := def0 X G T.f54 (fun f fd F => ok_lset Gb D52 F) fun _ _ _ _ _ _ us hl => match us, hl with | [_, _], _ => rfl
  have D55 : BhD P w K mg base := def0 X G T.f55 (fun f fd F => ok_bh F) fun _ _ _ _ _ _ us hl => match us, hl with | [_, _], _ => rfl
  have D56 : OpD P w K mg base := def0 X G T.f56 (fun f fd F => ok_op Gb F) fun _ _ _ _ _ _ us hl => match us, hl with | [_], _ => rfl
  have D57 : NdD P w K mg base := def0 X G T.f57 (fun f fd F => ok_nd Gb D52 D56 D55 F) fun _ _ _ _ _ _ us hl => match us, hl with | [_, _], _ => rfl
  have D58 : NxD P w K mg base := def0 X G T.f58 (fun f fd F => ok_nx Gb D56 D55 F) fun _ _ _ _ _ _ us hl => match us, hl with | [_, _, _], _ => rfl
  have D59 : LbD P w K mg base 6 := by
    obtain ⟨f1, fd1, a1, F1⟩ := T.f59.ex
    have hm := PySem.W.mg_of X G a1
    have hb := F1.binds (ps := ["_law_settling_here", "_law_fewest", "_law_mask"]) (fun _ _ _ _ _ _ us hl => match us, hl with | [_, _, _], _ => rfl)
    exact ⟨⟨f1, fd1, ok_lb D58 D55 F1 hm hb 6, hm, F1.kp, hb⟩⟩
  have D60 : ToldD P w K mg base C Cn BP := def0 X G T.f60 (fun f fd F => ok_told E_gP E_gN XF mL TL F) fun _ _ _ _ _ _ us hl => match us, hl with | [_, _, _, _], _ => rfl
  have D61 : RfG P w K mg base C := by
    obtain ⟨f1, fd1, a1, F1⟩ := T.f61.ex
    exact ⟨⟨f1, fd1, ok_rf Gb D51 D60 F1, PySem.W.mg_of X G a1, F1.kp, F1.binds (ps := ["_law_pool_here", "_law_question", "_law_many"]) (fun _ _ _ _ _ _ us hl => match us, hl with | [_, _, _], _ => rfl)⟩⟩
  have LDw : LawD P w K mg base C Cn BP BTa := ⟨D50, D51, D53, TQ, D52, D54, D57, D58, D59, D60, D61, D30, D33, D32⟩
  obtain ⟨f, fd, aF, F⟩ := T.f62.ex
  cases hfa.symm.trans (PySem.W.mg_of X G aF)
  have bd : BindsTo s0 fd ⟨[.ref a], []⟩ ((["_law_script"] : List Str).zip [.ref a]) := by
    obtain ⟨oc, od, kV, doc, pm, an, cdv, ct, osl, rfl, _⟩ := F.ex
    exact .of_eq rfl
  refine call_at (k := 47) (vs := [.ref a]) F scLaw ⟨rfl, by decide, by decide⟩ e0 bd (.cons rfl .nil) rfl fun cdv hr => ?_
  refine ⟨_, (law_ok (f := fa) (cdv := cdv) (A := callerA) (outer := []) (s := s0) (H := H) (E := fun _ _ _ => False) (g := ⟨false, false⟩) (ns := ns) Gb LDw hr rfl hl).nox, ?_, fun v H1 e1 p1 dv _ => ?_⟩
  · exact sr_start (N := nLaw) (dvs_script sq) pool_none
  · cases dv
    rfl
end
theorem walkL {l : PySem.W.OpenLaw} {q : Program} {loose : List Str} {XP : (Str → Option Value) → Heap → Prop} {YP : World → Heap → Prop} {d : DefRec} {K : Params → PySem.W.Frag} (hn : l.most = some 63) (hdf : d.params.defaults = []) (hd : d.name = "law")
    (hY : ∀ (w : World) (h : Heap), YP w h → (K w.params).In h) (F : ∀ w : World, Txt (K w.params)) : PySem.W.WalkO q loose XP YP l.row.toRowW d [] (fun f vs => PySem.call f vs) := by
  refine Att.attach_call hn hdf fun w s₀ s₁ mg mb fa o pm cd doc a vs ns G Y ho hd' hcd hmg hobj hints hlen hg => ?_
  have KX := hY w _ Y
  rw [hd] at hmg
  exact law_at KX G.T.g G.T.b G.T.builtins G.T.nolimit hg hobj hints (Nat.le_trans hlen (by decide)) fun base H _ _ e0 sq => runL (F w) KX G.T.g hmg e0 sq hlen
end K41

open PySem PySem.W PyProof.Rows
set_option maxRecDepth 100000 in
set_option maxHeartbeats 0 in
theorem PySem.Challenge.cw_leastlooks_k41_fewest_looks_holds : PySem.Challenge.rw_leastlooks_k41_fewest_looks.Holds := by
  w_on; o_law; k_head; (case hw => w_witness2)
  k_fill
  refine K41.walkL (l := PySem.Challenge.rw_leastlooks_k41_fewest_looks) rfl rfl rfl (fun w h Y => PySem.W.kIn_of Y) ?F
  case F =>
    intro w
    refine' ⟨?free, ?most, ?k34, ?t_LENGTHS, ?err, ?c12, ?f10, ?f11, ?f14, ?f15, ?f16, ?f17, ?f18, ?f19, ?f20, ?f21, ?f22, ?f23, ?f24, ?f25, ?f26, ?f28, ?f30, ?f31, ?f32, ?f33, ?f35, ?f36, ?f37, ?f38, ?f39, ?f40, ?f41, ?f45, ?f47, ?f50, ?f51, ?f52, ?f53, ?f54, ?f55, ?f56, ?f57, ?f58, ?f59, ?f60, ?f61, ?f62⟩
    case free =>
      intro x hx
      simp only [List.mem_cons, List.not_mem_nil, or_false] at hx
      rcases hx with rfl | rfl | rfl | rfl | rfl | rfl | rfl | rfl | rfl | rfl | rfl | rfl | rfl | rfl | rfl | rfl | rfl
      all_goals k_is
    case most => exact ⟨_, by k_is⟩
    case k34 => 
      refine' LA.gk1i_mk ?a ?l ?n1 ?c ?k
      (case a => k_is); (case l => k_is); (case n1 => k_is); (case c => k_is); (case k => k_is)
    case t_LENGTHS =>
      refine' LA.ct_mk ?a ?l ?z ?v
      (case a => k_is); (case l => k_is); (case z => decide +kernel)
      case v => exact LA.vi_cons (LA.vi_cons (LA.vi_cons (LA.vi_cons (LA.vi_cons (LA.vi_cons (LA.vi_cons (LA.vi_nil)))))))
    case err =>
      refine' ⟨_, _, _, _, _, _, LA.ge_mk ?gT1 ?gT2 ?gT3 ?gT4 ?gT5 ?gT6 ?gT7 ?gT8 ?gT9 ?gT10 ?gT11 ?gT12 ?gT13 ?gT14 ?gT15, LA.fac ?ngT_given, LA.ge_mk ?gI1 ?gI2 ?gI3 ?gI4 ?gI5 ?gI6 ?gI7 ?gI8 ?gI9 ?gI10 ?gI11 ?gI12 ?gI13 ?gI14 ?gI15, LA.fac ?ngI_given, LA.ge_mk ?gN1 ?gN2 ?gN3 ?gN4 ?gN5 ?gN6 ?gN7 ?gN8 ?gN9 ?gN10 ?gN11 ?gN12 ?gN13 ?gN14 ?gN15, LA.fac ?ngN_given, LA.ge_mk ?gP1 ?gP2 ?gP3 ?gP4 ?gP5 ?gP6 ?gP7 ?gP8 ?gP9 ?gP10 ?gP11 ?gP12 ?gP13 ?gP14 ?gP15, LA.fac ?ngP_given, LA.fac ?sPP, LA.fac ?sNP, LA.fac ?sNN, LA.gn_mk ?aL, LA.gc_mk ?qc1 ?qc2 ?qc3 ?qc4 ?qc5 ?qc6 ?qc7 ?qc8 ?qc9 ?qc10 ?qc11 ?qc12, LA.fac ?qt, LA.fac ?qm, LA.fac ?qy, LA.gp_mk ?pm1 ?pm2 ?pm3 ?pm4 ?pm5 ?pm6 ?pm7, LA.gm_mk ?mc1 ?mc2 ?mc3 ?mc4 ?mc5, LA.gm_mk ?mr1 ?mr2 ?mr3 ?mr4 ?mr5, LA.gm_mk ?mk1 ?mk2 ?mk3 ?mk4 ?mk5⟩
      (case gT1 => k_is)
      (case gT2 => k_is)
      (case gT3 => decide +kernel)
      (case gT4 => k_is)
      (case gT5 => k_is)
      (case gT6 => k_is)
      (case gT7 => k_is)
      (case gT8 => k_is)
      (case gT9 => k_is)
      (case gT10 => k_is)
      (case gT11 => k_is)
      (case gT12 => k_is)
      (case gT13 => k_is)
      (case gT14 => k_is)
      (case gT15 => k_is)
      (case ngT_given => k_is)
      (case gI1 => k_is)
      (case gI2 => k_is)
      (case gI3 => decide +kernel)
      (case gI4 => k_is)
      (case gI5 => k_is)
      (case gI6 => k_is)
      (case gI7 => k_is)
      (case gI8 => k_is)
      (case gI9 => k_is)
      (case gI10 => k_is)
      (case gI11 => k_is)
      (case gI12 => k_is)
      (case gI13 => k_is)
      (case gI14 => k_is)
      (case gI15 => k_is)
      (case ngI_given => k_is)
      (case gN1 => k_is)
      (case gN2 => k_is)
      (case gN3 => decide +kernel)
      (case gN4 => k_is)
      (case gN5 => k_is)
      (case gN6 => k_is)
      (case gN7 => k_is)
      (case gN8 => k_is)
      (case gN9 => k_is)
      (case gN10 => k_is)
      (case gN11 => k_is)
      (case gN12 => k_is)
      (case gN13 => k_is)
      (case gN14 => k_is)
      (case gN15 => k_is)
      (case ngN_given => k_is)
      (case gP1 => k_is)
      (case gP2 => k_is)
      (case gP3 => decide +kernel)
      (case gP4 => k_is)
      (case gP5 => k_is)
      (case gP6 => k_is)
      (case gP7 => k_is)
      (case gP8 => k_is)
      (case gP9 => k_is)
      (case gP10 => k_is)
      (case gP11 => k_is)
      (case gP12 => k_is)
      (case gP13 => k_is)
      (case gP14 => k_is)
      (case gP15 => k_is)
      (case ngP_given => k_is)
      (case sPP => first | rfl | k_is)
      (case sNP => first | rfl | k_is)
      (case sNN => first | rfl | k_is)
      (case aL => k_is)
      (case qc1 => k_is)
      (case qc2 => k_is)
      (case qc3 => k_is)
      (case qc4 => k_is)
      (case qc5 => k_is)
      (case qc6 => k_is)
      (case qc7 => k_is)
      (case qc8 => k_is)
      (case qc9 => k_is)
      (case qc10 => k_is)
      (case qc11 => k_is)
      (case qc12 => k_is)
      (case qt => k_is)
      (case qm => k_is)
      (case qy => k_is)
      (case pm1 => k_is)
      (case pm2 => k_is)
      (case pm3 => k_is)
      (case pm4 => k_is)
      (case pm5 => k_is)
      (case pm6 => k_is)
      (case pm7 => k_is)
      (case mc1 => k_is)
      (case mc2 => k_is)
      (case mc3 => k_is)
      (case mc4 => k_is)
      (case mc5 => k_is)
      (case mr1 => k_is)
      (case mr2 => k_is)
      (case mr3 => k_is)
      (case mr4 => k_is)
      (case mr5 => k_is)
      (case mk1 => k_is)
      (case mk2 => k_is)
      (case mk3 => k_is)
      (case mk4 => k_is)
      (case mk5 => k_is)
    case c12 =>
      refine' LA.gd_mk ?a ?l ?lT ?c ?k
      (case a => k_is); (case l => k_is); (case lT => k_is); (case c => k_is); (case k => k_is)
    case f10 =>
      refine' LA.gf_mk ?a ?l ?c ?k
      (case a => k_is); (case l => k_is); (case c => k_is); (case k => k_is)
    case f11 =>
      refine' LA.gf_mk ?a ?l ?c ?k
      (case a => k_is); (case l => k_is); (case c => k_is); (case k => k_is)
    case f14 =>
      refine' LA.gf_mk ?a ?l ?c ?k
      (case a => k_is); (case l => k_is); (case c => k_is); (case k => k_is)
    case f15 =>
      refine' LA.gf_mk ?a ?l ?c ?k
      (case a => k_is); (case l => k_is); (case c => k_is); (case k => k_is)
    case f16 =>
      refine' LA.gf_mk ?a ?l ?c ?k
      (case a => k_is); (case l => k_is); (case c => k_is); (case k => k_is)
    case f17 =>
      refine' LA.gf_mk ?a ?l ?c ?k
      (case a => k_is); (case l => k_is); (case c => k_is); (case k => k_is)
    case f18 =>
      refine' LA.gf_mk ?a ?l ?c ?k
      (case a => k_is); (case l => k_is); (case c => k_is); (case k => k_is)
    case f19 =>
      refine' LA.gf_mk ?a ?l ?c ?k
      (case a => k_is); (case l => k_is); (case c => k_is); (case k => k_is)
    case f20 =>
      refine' LA.gf_mk ?a ?l ?c ?k
      (case a => k_is); (case l => k_is); (case c => k_is); (case k => k_is)
    case f21 =>
      refine' LA.gf_mk ?a ?l ?c ?k
      (case a => k_is); (case l => k_is); (case c => k_is); (case k => k_is)
    case f22 =>
      refine' LA.gf_mk ?a ?l ?c ?k
      (case a => k_is); (case l => k_is); (case c => k_is); (case k => k_is)
    case f23 =>
      refine' LA.gf_mk ?a ?l ?c ?k
      (case a => k_is); (case l => k_is); (case c => k_is); (case k => k_is)
    case f24 =>
      refine' LA.gf_mk ?a ?l ?c ?k
      (case a => k_is); (case l => k_is); (case c => k_is); (case k => k_is)
    case f25 =>
      refine' LA.gf_mk ?a ?l ?c ?k
      (case a => k_is); (case l => k_is); (case c => k_is); (case k => k_is)
    case f26 =>
      refine' LA.gf_mk ?a ?l ?c ?k
      (case a => k_is); (case l => k_is); (case c => k_is); (case k => k_is)
    case f28 =>
      refine' LA.gf_mk ?a ?l ?c ?k
      (case a => k_is); (case l => k_is); (case c => k_is); (case k => k_is)
    case f30 =>
      refine' LA.gf_mk ?a ?l ?c ?k
      (case a => k_is); (case l => k_is); (case c => k_is); (case k => k_is)
    case f31 =>
      refine' LA.gf_mk ?a ?l ?c ?k
      (case a => k_is); (case l => k_is); (case c => k_is); (case k => k_is)
    case f32 =>
      refine' LA.gf_mk ?a ?l ?c ?k
      (case a => k_is); (case l => k_is); (case c => k_is); (case k => k_is)
    case f33 =>
      refine' LA.gf_mk ?a ?l ?c ?k
      (case a => k_is); (case l => k_is); (case c => k_is); (case k => k_is)
    case f35 =>
      refine' LA.gf_mk ?a ?l ?c ?k
      (case a => k_is); (case l => k_is); (case c => k_is); (case k => k_is)
    case f36 =>
      refine' LA.gf_mk ?a ?l ?c ?k
      (case a => k_is); (case l => k_is); (case c => k_is); (case k => k_is)
    case f37 =>
      refine' LA.gf_mk ?a ?l ?c ?k
      (case a => k_is); (case l => k_is); (case c => k_is); (case k => k_is)
    case f38 =>
      refine' LA.gf_mk ?a ?l ?c ?k
      (case a => k_is); (case l => k_is); (case c => k_is); (case k => k_is)
    case f39 =>
      refine' LA.gf_mk ?a ?l ?c ?k
      (case a => k_is); (case l => k_is); (case c => k_is); (case k => k_is)
    case f40 =>
      refine' LA.gf_mk ?a ?l ?c ?k
      (case a => k_is); (case l => k_is); (case c => k_is); (case k => k_is)
    case f41 =>
      refine' LA.gf_mk ?a ?l ?c ?k
      (case a => k_is); (case l => k_is); (case c => k_is); (case k => k_is)
    case f45 =>
      refine' LA.gf_mk ?a ?l ?c ?k
      (case a => k_is); (case l => k_is); (case c => k_is); (case k => k_is)
    case f47 =>
      refine' LA.gf_mk ?a ?l ?c ?k
      (case a => k_is); (case l => k_is); (case c => k_is); (case k => k_is)
    case f50 =>
      refine' LA.gf_mk ?a ?l ?c ?k
      (case a => k_is); (case l => k_is); (case c => k_is); (case k => k_is)
    case f51 =>
      refine' LA.gf_mk ?a ?l ?c ?k
      (case a => k_is); (case l => k_is); (case c => k_is); (case k => k_is)
    case f52 =>
      refine' LA.gf_mk ?a ?l ?c ?k
      (case a => k_is); (case l => k_is); (case c => k_is); (case k => k_is)
    case f53 =>
      refine' LA.gf_mk ?a ?l ?c ?k
      (case a => k_is); (case l => k_is); (case c => k_is); (case k => k_is)
    case f54 =>
      refine' LA.gf_mk ?a ?l ?c ?k
      (case a => k_is); (case l => k_is); (case c => k_is); (case k => k_is)
    case f55 =>
      refine' LA.gf_mk ?a ?l ?c ?k
      (case a => k_is); (case l => k_is); (case c => k_is); (case k => k_is)
    case f56 =>
      refine' LA.gf_mk ?a ?l ?c ?k
      (case a => k_is); (case l => k_is); (case c => k_is); (case k => k_is)
    case f57 =>
      refine' LA.gf_mk ?a ?l ?c ?k
      (case a => k_is); (case l => k_is); (case c => k_is); (case k => k_is)
    case f58 =>
      refine' LA.gf_mk ?a ?l ?c ?k
      (case a => k_is); (case l => k_is); (case c => k_is); (case k => k_is)
    case f59 =>
      refine' LA.gf_mk ?a ?l ?c ?k
      (case a => k_is); (case l => k_is); (case c => k_is); (case k => k_is)
    case f60 =>
      refine' LA.gf_mk ?a ?l ?c ?k
      (case a => k_is); (case l => k_is); (case c => k_is); (case k => k_is)
    case f61 =>
      refine' LA.gf_mk ?a ?l ?c ?k
      (case a => k_is); (case l => k_is); (case c => k_is); (case k => k_is)
    case f62 =>
      refine' LA.gf_mk ?a ?l ?c ?k
      (case a => k_is); (case l => k_is); (case c => k_is); (case k => k_is)

