import PyProof.Rows.All
import Wide.All
import OpenK.AllK
import Wide.FinOn
import HandS.ForExc
import HandS.Comp
import HandS.Evl
import HandS.Deep
import HandS.IsInst
import HandS.ExcIs
import HandS.Set
import HandS.Strs
import HandS.SetFor
import HandS.SetBool
import KE.KDictKeyed
import KE.KDictWalk
import KE.KDictLaw
import KE.KDictDisplayH
import HandS.ForDict
import HandS.TupAny
import HandS.Iter
import HandS.TryMany
import HandS.Zip
import HandS.Sort
import HandS.FStr
import HandS.Small
import HandS.Text
import KE.SortData
import PyProof.MinMaxWalk
import PyProof.WalksMore
import PySem.Challenge.RW_mazeguide_k10_the_least_walk
set_option Elab.async false
set_option linter.all false
set_option maxRecDepth 100000
set_option maxHeartbeats 1000000
/-! What a piece of a body does to data: an evaluation over a known part of the heap. -/
namespace Pf
open PySem PySem.Spec PyProof.Rows L2

/-! ### heaps -/
theorem newS {H : Hp} {p : Addr} {o : HO} (h : H p = none) : Same H (upd H p o) := fun b x e => by
  rw [upd_ne (ne_of_none e h)]; exact e
theorem sqt {K : PySem.W.Frag} {H H' : Hp} {a : Addr} {xs : List V} (e : Same H H') (h : SqT K H a xs) : SqT K H' a xs := by
  rcases h with (h | ⟨o, h⟩) | h
  · exact .inl (.inl (e _ _ h))
  · exact .inl (.inr ⟨o, e _ _ h⟩)
  · exact .inr h
mutual
theorem dm {K : PySem.W.Frag} {H H' : Hp} (e : Same H H') : ∀ {v : V} {d : PyData}, Dp K H v d → Dp K H' v d
  | _, _, .non => .non
  | _, _, .bl b => .bl b
  | _, _, .int i => .int i
  | _, _, .str x => .str x
  | _, _, .lst a b => .lst (e.seq a) (dms e b)
  | _, _, .tup a b => .tup (sqt e a) (dms e b)
theorem dms {K : PySem.W.Frag} {H H' : Hp} (e : Same H H') : ∀ {vs : List V} {ds : List PyData}, DpAll K H vs ds → DpAll K H' vs ds
  | _, _, .nil => .nil
  | _, _, .cons a b => .cons (dm e a) (dms e b)
end
section
variable {K : PySem.W.Frag} {H : Hp}
theorem dpa_len : ∀ {vs : List V} {ds : List PyData}, DpAll K H vs ds → vs.length = ds.length
  | _, _, .nil => rfl
  | _, _, .cons _ b => congrArg Nat.succ (dpa_len b)
theorem dpa_get : ∀ {vs : List V} {ds : List PyData} {i : Nat} {v : V}, DpAll K H vs ds → vs[i]? = some v → ∃ d, ds[i]? = some d ∧ Dp K H v d
  | _, _, _, _, .nil, e => by simp at e
  | _, _, 0, _, .cons a _, e => by simp at e; subst e; exact ⟨_, rfl, a⟩
  | _, _, i + 1, v, .cons _ b, e => dpa_get (i := i) (v := v) b (by simpa using e)
theorem dpa_at : ∀ {vs : List V} {ds : List PyData} {i : Nat} {d : PyData}, DpAll K H vs ds → ds[i]? = some d → ∃ v, vs[i]? = some v ∧ Dp K H v d
  | _, _, _, _, .nil, e => by simp at e
  | _, _, 0, _, .cons a _, e => by simp at e; subst e; exact ⟨_, rfl, a⟩
  | _, _, i + 1, d, .cons _ b, e => dpa_at (i := i) (d := d) b (by simpa using e)
theorem dpa_app : ∀ {vs ws : List V} {ds es : List PyData}, DpAll K H vs ds → DpAll K H ws es → DpAll K H (vs ++ ws) (ds ++ es)
  | _, _, _, _, .nil, s => s
  | _, _, _, _, .cons a b, s => .cons a (dpa_app b s)
theorem dpa_drop : ∀ {vs : List V} {ds : List PyData} (n : Nat), DpAll K H vs ds → DpAll K H (vs.drop n) (ds.drop n)
  | _, _, 0, r => r
  | _, _, _ + 1, .nil => .nil
  | _, _, n + 1, .cons _ b => dpa_drop n b
theorem dpa_take : ∀ {vs : List V} {ds : List PyData} (n : Nat), DpAll K H vs ds → DpAll K H (vs.take n) (ds.take n)
  | _, _, 0, _ => .nil
  | _, _, _ + 1, .nil => .nil
  | _, _, n + 1, .cons a b => .cons a (dpa_take n b)
theorem dpa_ints : ∀ {ns : List Int} {vs : List V}, DpAll K H vs (ns.map PyData.int) → vs = ns.map V.int
  | [], _, h => by cases h; rfl
  | n :: r, _, h => by
    cases h with
    | cons a b => cases a; rw [dpa_ints b]; rfl
theorem dpa_of_ints : ∀ (ns : List Int), DpAll K H (ns.map V.int) (ns.map PyData.int)
  | [] => .nil
  | n :: r => .cons (.int n) (dpa_of_ints r)
theorem dp_list {a : Addr} {xs : List V} {ds : List PyData} (h : H a = some (.lst xs)) (d : DpAll K H xs ds) : Dp K H (.ref a) (.list ds) := .lst (.inl (.inl h)) d
end

/-- from what is known (H) and what stands (H1), to the same behind a step: W, what may be written -/
structure Fr (W : Addr → Prop) (H H1 G H2 : Hp) : Prop where
  g : Same H G
  r : Same G H2
  s : ∀ p o, ¬ W p → H1 p = some o → H2 p = some o
  n : ∀ p, ¬ W p → H p = none → H1 p ≠ none → G p = none
  m : ∀ p, H2 p = none → H1 p = none
abbrev Fr0 : Hp → Hp → Hp → Hp → Prop := Fr fun _ => False
theorem Fr.refl {W : Addr → Prop} {H H1 : Hp} (e : Same H H1) : Fr W H H1 H H1 := ⟨Same.refl _, e, fun _ _ _ h => h, fun _ _ h _ => h, fun _ h => h⟩
theorem Fr.trans {W W' : Addr → Prop} {H H1 G H2 G' H3 : Hp} (a : Fr W H H1 G H2) (b : Fr W' G H2 G' H3) (w : ∀ p, W' p → W p ∨ H1 p = none) : Fr W H H1 G' H3 := by
  refine ⟨a.g.trans b.g, b.r, fun p o hw h => ?_, fun p hw h1 h2 => ?_, fun p h => a.m p (b.m p h)⟩
  · refine b.s p o (fun z => ?_) (a.s p o hw h)
    rcases w p z with z | z
    · exact hw z
    · rw [z] at h; cases h
  · have g0 := a.n p hw h1 h2
    refine b.n p (fun z => ?_) g0 ?_
    · rcases w p z with z | z
      · exact hw z
      · exact h2 z
    · cases e : H1 p with
      | none => exact absurd e h2
      | some o => rw [a.s p o hw e]; exact fun z => nomatch z
theorem Fr.mono {W W' : Addr → Prop} {H H1 G H2 : Hp} (a : Fr W H H1 G H2) (w : ∀ p, W p → W' p) : Fr W' H H1 G H2 :=
  ⟨a.g, a.r, fun p o h => a.s p o fun z => h (w p z), fun p h => a.n p fun z => h (w p z), a.m⟩
theorem Fr.tr0 {W : Addr → Prop} {H H1 G H2 G' H3 : Hp} (a : Fr W H H1 G H2) (b : Fr0 G H2 G' H3) : Fr W H H1 G' H3 := a.trans b fun _ z => z.elim
theorem Fr.a {H H1 G H2 : Hp} (f : Fr0 H H1 G H2) : Same H1 H2 := fun p o h => f.s p o (fun z => z) h
theorem upd_none {H : Hp} {p b : Addr} {o : HO} (h : upd H p o b = none) : H b = none := by
  by_cases c : b = p
  · subst c; rw [upd_same] at h; cases h
  · rw [upd_ne c] at h; exact h
/-- a new object, known from now on -/
theorem Fr.new {W : Addr → Prop} {H H1 : Hp} {p : Addr} {o : HO} (e : Same H H1) (hp : H1 p = none) : Fr W H H1 (upd H p o) (upd H1 p o) := by
  have hH : H p = none := e.free hp
  refine ⟨newS hH, fun b x h => ?_, fun b x _ h => newS hp b x h, fun b _ h1 h2 => ?_, fun b h => upd_none h⟩
  · by_cases c : b = p
    · subst c; rw [upd_same] at h ⊢; exact h
    · rw [upd_ne c] at h ⊢; exact e b x h
  · have c : b ≠ p := fun z => h2 (by rw [z]; exact hp)
    rw [upd_ne c]; exact h1
/-- a new object, not known -/
theorem Fr.hid {W : Addr → Prop} {H H1 : Hp} {p : Addr} {o : HO} (e : Same H H1) (hp : H1 p = none) : Fr W H H1 H (upd H1 p o) :=
  ⟨Same.refl _, fun b x h => newS hp b x (e b x h), fun b x _ h => newS hp b x h, fun b _ h1 _ => h1, fun b h => upd_none h⟩

/-- the tuple at a is the key k -/
def KeyIn (K : PySem.W.Frag) (H : Hp) (a : Addr) (k : NestedKey) : Prop := Dp K H (.ref a) k.data ∧ k.depth ≤ 8
theorem KeyIn.mono {K : PySem.W.Frag} {H H' : Hp} {a : Addr} {k : NestedKey} (e : Same H H') (h : KeyIn K H a k) : KeyIn K H' a k := ⟨dm e h.1, h.2⟩
abbrev Ent := NestedKey × Addr × Value
/-- what the dict at D is -/
def DX (P : Program) (w : World) (D : Addr) (xs : List Ent) : Heap → Prop := fun h => (D == sysModules) = false ∧ ∃ o es ep, h.get? D = some o ∧ o.ExactDict ∧ o.data = .dict es ep ∧ es.toList = xs.map (entryOfKey (nestedKind P w)) ∧ (xs.map (·.1)).Nodup
/-- a dict, at D, free to change or held as it is -/
def DAt (P : Program) (w : World) (H : Hp) (D : Addr) (xs : List Ent) : Prop := H D = some (.ext (DX P w D xs)) ∨ ∃ o, H D = some (.frz o (.ext (DX P w D xs)))
/-- as data; a list stands by itself -/
def Dv (K : PySem.W.Frag) (H : Hp) (v : V) (d : PyData) : Prop := Dp K H v d ∧ ∀ ds, d = .list ds → ∃ p vs, v = .ref p ∧ H p = some (.lst vs) ∧ DpAll K H vs ds
theorem Dv.mono {K : PySem.W.Frag} {H H' : Hp} {v : V} {d : PyData} (e : Same H H') (h : Dv K H v d) : Dv K H' v d := ⟨dm e h.1, fun ds q => by
  obtain ⟨p, vs, a, b, c⟩ := h.2 ds q
  exact ⟨p, vs, a, e _ _ b, dms e c⟩⟩
/-- the entries as data -/
inductive KvOk (K : PySem.W.Frag) (H : Hp) : List Ent → List (NestedKey × PyData) → Prop where
  | nil : KvOk K H [] []
  | cons {k : NestedKey} {a : Addr} {u : Value} {v : V} {d : PyData} {xs : List Ent} {kvs : List (NestedKey × PyData)} : KeyIn K H a k → L2.RelV v u → Dv K H v d → KvOk K H xs kvs → KvOk K H ((k, a, u) :: xs) ((k, d) :: kvs)
theorem KvOk.mono {K : PySem.W.Frag} {H H' : Hp} (e : Same H H') : ∀ {xs : List Ent} {kvs : List (NestedKey × PyData)}, KvOk K H xs kvs → KvOk K H' xs kvs
  | _, _, .nil => .nil
  | _, _, .cons a b c d => .cons (a.mono e) b (c.mono e) (d.mono e)
/-! ### slots -/
inductive SV where
  /-- nothing is known -/
  | no
  /-- data that stays -/
  | dat (d : PyData)
  /-- a list of one's own, that may change -/
  | own (xs : List PyData)
  /-- an object of one's own -/
  | obj (o : HO)
  /-- this value -/
  | raw (v : V)
  /-- this value, as data -/
  | rd (v : V) (d : PyData)
  /-- a tuple of these values -/
  | tupv (vs : List V)
  /-- a dict of one's own; one that is held as it is -/
  | dct (P : Program) (w : World) (kvs : List (NestedKey × PyData))
  | dcf (P : Program) (w : World) (kvs : List (NestedKey × PyData))
  /-- a tuple of a whole number and two lists that stay as they are -/
  | kep (n : Int) (xs ys : List PyData)
  /-- a tuple of a text, a list that stands by itself, data -/
  | kpg (k : Str) (xs rs : List PyData)
  /-- a list that stands by itself, known -/
  | kl (xs : List PyData)
  /-- a list of one's own, there -/
  | ownA (l : Addr) (xs : List PyData)
def OkS (K : PySem.W.Frag) (H H1 : Hp) (ov : Option V) : SV → Prop
  | .no => True
  | .dat d => ∃ v, ov = some v ∧ Dp K H v d
  | .own xs => ∃ l vs, ov = some (.ref l) ∧ H l = none ∧ H1 l = some (.lst vs) ∧ DpAll K H vs xs
  | .obj o => ∃ l, ov = some (.ref l) ∧ H l = none ∧ H1 l = some o
  | .raw v => ov = some v
  | .rd v d => ov = some v ∧ Dp K H v d
  | .tupv vs => ∃ t, ov = some (.ref t) ∧ SqT K H t vs
  | .dct P w kvs => ∃ l xs, ov = some (.ref l) ∧ H l = none ∧ H1 l = some (.ext (DX P w l xs)) ∧ KvOk K H xs kvs
  | .dcf P w kvs => ∃ l o xs, ov = some (.ref l) ∧ H l = some (.frz o (.ext (DX P w l xs))) ∧ KvOk K H xs kvs
  | .kl xs => ∃ a vs, ov = some (.ref a) ∧ H a = some (.lst vs) ∧ DpAll K H vs xs
  | .kpg k xs rs => ∃ t a vs us, ov = some (.ref t) ∧ SqT K H t (.str k :: .ref a :: us) ∧ H a = some (.lst vs) ∧ DpAll K H vs xs ∧ DpAll K H us rs
  | .kep n xs ys => ∃ t a b vs ws, ov = some (.ref t) ∧ SqT K H t [.int n, .ref a, .ref b] ∧ H a = some (.lst vs) ∧ DpAll K H vs xs ∧ H b = some (.lst ws) ∧ DpAll K H ws ys
  | .ownA l xs => ov = some (.ref l) ∧ ∃ vs, H l = none ∧ H1 l = some (.lst vs) ∧ DpAll K H vs xs
def SV.isOwn : SV → Bool
  | .own _ => true
  | .obj _ => true
  | .ownA _ _ => true
  | .dct _ _ _ => true
  | _ => false
/-- what the slots own -/
def Ow (σ : L2.St) (env : List SV) : Addr → Prop := fun l => ∃ (i : Nat) (s : SV), env[i]? = some s ∧ s.isOwn = true ∧ σ[i]? = some (some (.ref l))
structure Stt (K : PySem.W.Frag) (H H1 : Hp) (σ : L2.St) (env : List SV) : Prop where
  e : Same H H1
  l : σ.length = env.length
  ok : ∀ (i : Nat) (o : Option V) (s : SV), σ[i]? = some o → env[i]? = some s → OkS K H H1 o s
  ne : ∀ (i j : Nat) (s t : SV) (l : Addr), i ≠ j → env[i]? = some s → env[j]? = some t → s.isOwn = true → t.isOwn = true → σ[i]? = some (some (.ref l)) → σ[j]? ≠ some (some (.ref l))
section
variable {K : PySem.W.Frag} {H H1 G H2 : Hp} {σ : L2.St} {env : List SV}
theorem OkS.mono {o : Option V} {s : SV} (h : OkS K H H1 o s) (f : Fr0 H H1 G H2) : OkS K G H2 o s := by
  cases s with
  | no => trivial
  | dat d => obtain ⟨v, a, b⟩ := h; exact ⟨v, a, dm f.g b⟩
  | own xs =>
    obtain ⟨l, vs, a, b, c, d⟩ := h
    exact ⟨l, vs, a, f.n l (fun z => z) b (by rw [c]; exact fun z => nomatch z), f.a _ _ c, dms f.g d⟩
  | obj x =>
    obtain ⟨l, a, b, c⟩ := h
    exact ⟨l, a, f.n l (fun z => z) b (by rw [c]; exact fun z => nomatch z), f.a _ _ c⟩
  | raw v => exact h
  | dct P w kvs =>
    obtain ⟨l, xs, a, b, c, d⟩ := h
    exact ⟨l, xs, a, f.n l (fun z => z) b (by rw [c]; exact fun z => nomatch z), f.a _ _ c, d.mono f.g⟩
  | dcf P w kvs => obtain ⟨l, o, xs, a, b, c⟩ := h; exact ⟨l, o, xs, a, f.g _ _ b, c.mono f.g⟩
  | kl xs => obtain ⟨a, vs, e0, e1, e2⟩ := h; exact ⟨a, vs, e0, f.g _ _ e1, dms f.g e2⟩
  | kpg k xs rs => obtain ⟨t, a, vs, us, e0, e1, e2, e3, e4⟩ := h; exact ⟨t, a, vs, us, e0, sqt f.g e1, f.g _ _ e2, dms f.g e3, dms f.g e4⟩
  | kep n xs ys => obtain ⟨t, a, b, vs, ws, e0, e1, e2, e3, e4, e5⟩ := h; exact ⟨t, a, b, vs, ws, e0, sqt f.g e1, f.g _ _ e2, dms f.g e3, f.g _ _ e4, dms f.g e5⟩
  | rd v d => exact ⟨h.1, dm f.g h.2⟩
  | tupv vs => obtain ⟨t, a, b⟩ := h; exact ⟨t, a, sqt f.g b⟩
  | ownA l xs =>
    obtain ⟨a, vs, b, c, d⟩ := h
    exact ⟨a, vs, f.n l (fun z => z) b (by rw [c]; exact fun z => nomatch z), f.a _ _ c, dms f.g d⟩
theorem Stt.mono (h : Stt K H H1 σ env) (f : Fr0 H H1 G H2) : Stt K G H2 σ env :=
  ⟨f.r, h.l, fun i o s a b => (h.ok i o s a b).mono f, h.ne⟩
theorem Stt.get (h : Stt K H H1 σ env) {i : Nat} {s : SV} (e : env[i]? = some s) : ∃ o, σ[i]? = some o ∧ OkS K H H1 o s := by
  have hi : i < env.length := (List.getElem?_eq_some_iff.mp e).1
  rw [← h.l] at hi
  exact ⟨σ[i], List.getElem?_eq_getElem hi, h.ok i _ s (List.getElem?_eq_getElem hi) e⟩
theorem Stt.dat (h : Stt K H H1 σ env) {i : Nat} {d : PyData} (e : env[i]? = some (.dat d)) : ∃ v, σ[i]? = some (some v) ∧ Dp K H v d := by
  obtain ⟨o, a, v, rfl, b⟩ := h.get e
  exact ⟨v, a, b⟩
theorem Stt.own (h : Stt K H H1 σ env) {i : Nat} {xs : List PyData} (e : env[i]? = some (.own xs)) : ∃ l vs, σ[i]? = some (some (.ref l)) ∧ H l = none ∧ H1 l = some (.lst vs) ∧ DpAll K H vs xs := by
  obtain ⟨o, a, l, vs, rfl, b⟩ := h.get e
  exact ⟨l, vs, a, b⟩
/-- a slot takes data -/
theorem Stt.setD (h : Stt K H H1 σ env) {i : Nat} {v : V} {d : PyData} (hd : Dp K H v d) : Stt K H H1 (σ.set i (some v)) (env.set i (.dat d)) := by
  refine ⟨h.e, by rw [List.length_set, List.length_set]; exact h.l, fun j o s a b => ?_, fun j k s t l hjk b1 b2 o1 o2 a1 => ?_⟩
  · by_cases c : i = j
    · subst c
      have hi : i < σ.length := by have := (List.getElem?_eq_some_iff.mp a).1; rwa [List.length_set] at this
      have hi' : i < env.length := by rw [← h.l]; exact hi
      rw [List.getElem?_set_self hi] at a
      rw [List.getElem?_set_self hi'] at b
      cases a; cases b
      exact ⟨v, rfl, hd⟩
    · rw [List.getElem?_set_ne c] at a b
      exact h.ok j o s a b
  · have c1 : i ≠ j := fun c => by
      subst c
      have hi' : i < env.length := by have := (List.getElem?_eq_some_iff.mp b1).1; rwa [List.length_set] at this
      rw [List.getElem?_set_self hi'] at b1
      cases b1; cases o1
    have c2 : i ≠ k := fun c => by
      subst c
      have hi' : i < env.length := by have := (List.getElem?_eq_some_iff.mp b2).1; rwa [List.length_set] at this
      rw [List.getElem?_set_self hi'] at b2
      cases b2; cases o2
    rw [List.getElem?_set_ne c1] at a1 b1
    rw [List.getElem?_set_ne c2] at b2 ⊢
    exact h.ne j k s t l hjk b1 b2 o1 o2 a1
/-- an object that no slot owns and that is not known is given to a slot -/
theorem Stt.setO (h : Stt K H H1 σ env) {i : Nat} {p : Addr} {s₀ : SV} (ho : OkS K H H1 (some (.ref p)) s₀) (hw : ∀ (j : Nat) s, env[j]? = some s → s.isOwn = true → j ≠ i → σ[j]? ≠ some (some (.ref p))) : Stt K H H1 (σ.set i (some (.ref p))) (env.set i s₀) := by
  refine ⟨h.e, by rw [List.length_set, List.length_set]; exact h.l, fun j o s a b => ?_, fun j k s t l hjk b1 b2 o1 o2 a1 => ?_⟩
  · by_cases c : i = j
    · subst c
      have hi : i < σ.length := by have := (List.getElem?_eq_some_iff.mp a).1; rwa [List.length_set] at this
      have hi' : i < env.length := by rw [← h.l]; exact hi
      rw [List.getElem?_set_self hi] at a
      rw [List.getElem?_set_self hi'] at b
      cases a; cases b
      exact ho
    · rw [List.getElem?_set_ne c] at a b
      exact h.ok j o s a b
  · by_cases c1 : i = j
    · subst c1
      have hi : i < σ.length := by have := (List.getElem?_eq_some_iff.mp a1).1; rwa [List.length_set] at this
      rw [List.getElem?_set_self hi] at a1
      cases a1
      rw [List.getElem?_set_ne hjk] at b2 ⊢
      exact hw k t b2 o2 (Ne.symm hjk)
    · rw [List.getElem?_set_ne c1] at a1 b1
      by_cases c2 : i = k
      · subst c2
        intro z
        have hi : i < σ.length := by have := (List.getElem?_eq_some_iff.mp z).1; rwa [List.length_set] at this
        rw [List.getElem?_set_self hi] at z
        cases z
        exact hw j s b1 o1 hjk a1
      · rw [List.getElem?_set_ne c2] at b2 ⊢
        exact h.ne j k s t l hjk b1 b2 o1 o2 a1
theorem Stt.owned (h : Stt K H H1 σ env) {l : Addr} (w : Ow σ env l) : H l = none ∧ H1 l ≠ none := by
  obtain ⟨i, s, a, b, c⟩ := w
  have ok := h.ok i _ s c a
  cases s with
  | no => cases b
  | dat d => cases b
  | own xs => obtain ⟨l', vs, e, h1, h2, _⟩ := ok; cases e; exact ⟨h1, by rw [h2]; exact fun z => nomatch z⟩
  | obj o => obtain ⟨l', e, h1, h2⟩ := ok; cases e; exact ⟨h1, by rw [h2]; exact fun z => nomatch z⟩
  | raw v => cases b
  | dct P w kvs => obtain ⟨l', xs, e, h1, h2, _⟩ := ok; cases e; exact ⟨h1, by rw [h2]; exact fun z => nomatch z⟩
  | dcf P w kvs => cases b
  | kl xs => cases b
  | kpg k xs rs => cases b
  | kep n xs ys => cases b
  | rd v d => cases b
  | tupv vs => cases b
  | ownA l' xs => obtain ⟨e, vs, h1, h2, _⟩ := ok; cases e; exact ⟨h1, by rw [h2]; exact fun z => nomatch z⟩
/-- a new object is given to a slot -/
theorem Stt.setN (h : Stt K H H1 σ env) {i : Nat} {p : Addr} {xs : List PyData} {vs : List V} (f : Fr0 H H1 G H2) (hp : H1 p = none) (hg : G p = none) (h2 : H2 p = some (.lst vs)) (hd : DpAll K G vs xs) :
    Stt K G H2 (σ.set i (some (.ref p))) (env.set i (.own xs)) :=
  (h.mono f).setO ⟨p, vs, rfl, hg, h2, hd⟩ fun j s a b _ z => (h.owned ⟨j, s, a, b, z⟩).2 hp
theorem Ow.set {i : Nat} {s₀ : SV} {v : Option V} {l : Addr} (w : Ow (σ.set i v) (env.set i s₀) l) : Ow σ env l ∨ (s₀.isOwn = true ∧ v = some (.ref l)) := by
  obtain ⟨j, s, a, b, c⟩ := w
  by_cases e : i = j
  · subst e
    have hi : i < σ.length := by have := (List.getElem?_eq_some_iff.mp c).1; rwa [List.length_set] at this
    have hi' : i < env.length := by have := (List.getElem?_eq_some_iff.mp a).1; rwa [List.length_set] at this
    rw [List.getElem?_set_self hi] at c
    rw [List.getElem?_set_self hi'] at a
    cases a; cases c
    exact .inr ⟨b, rfl⟩
  · rw [List.getElem?_set_ne e] at a c
    exact .inl ⟨j, s, a, b, c⟩
end
end Pf

namespace Pf
open PySem PySem.Spec PyProof.Rows L2

/-! ### expressions -/
/-- te gives the data d -/
def Ev (K : PySem.W.Frag) (te : TE) (env : List SV) (d : PyData) : Prop := ∀ σ H H1, Stt K H H1 σ env → ∀ Q : VK, (∀ v G H2, Fr0 H H1 G H2 → Dp K G v d → Q v H2) → te σ H1 Q
/-- te gives a new list -/
def EvO (K : PySem.W.Frag) (te : TE) (env : List SV) (xs : List PyData) : Prop := ∀ σ H H1, Stt K H H1 σ env → ∀ Q : VK, (∀ p vs G H2, Fr0 H H1 G H2 → H1 p = none → G p = none → H2 p = some (.lst vs) → DpAll K G vs xs → Q (.ref p) H2) → te σ H1 Q
/-- te gives a list that stands (new, or one's own) -/
def EvL (K : PySem.W.Frag) (te : TE) (env : List SV) (xs : List PyData) : Prop := ∀ σ H H1, Stt K H H1 σ env → ∀ Q : VK, (∀ p vs G H2, Fr0 H H1 G H2 → H2 p = some (.lst vs) → DpAll K G vs xs → Q (.ref p) H2) → te σ H1 Q
def EvT (K : PySem.W.Frag) (tt : TT) (env : List SV) (b : Bool) : Prop := ∀ σ H H1, Stt K H H1 σ env → ∀ Q : Bool → Hp → Prop, (∀ G H2, Fr0 H H1 G H2 → Q b H2) → tt σ H1 Q
def EvA (K : PySem.W.Frag) (ta : TA) (env : List SV) (ds : List PyData) : Prop := ∀ σ H H1, Stt K H H1 σ env → ∀ Q : List V → Hp → Prop, (∀ vs G H2, Fr0 H H1 G H2 → DpAll K G vs ds → Q vs H2) → ta σ H1 Q
def EvP (K : PySem.W.Frag) (to : TO) (env : List SV) (o : Option Int) : Prop := ∀ σ H H1, Stt K H H1 σ env → ∀ Q : Option Int → Hp → Prop, (∀ G H2, Fr0 H H1 G H2 → Q o H2) → to σ H1 Q
/-- flat data as a value -/
def fv : PyData → Option V
  | .none => some .non
  | .bool b => some (.bl b)
  | .int i => some (.int i)
  | .str x => some (.str x)
  | _ => none
def vd : V → Option PyData
  | .non => some .none
  | .bl b => some (.bool b)
  | .int i => some (.int i)
  | .str x => some (.str x)
  | _ => none
section
variable {K : PySem.W.Frag} {env : List SV} {ta tb tc te : TE} {t u : TT} {d e : PyData} {i j : Int} {H H1 G H2 : Hp} {xs ys ds : List PyData}
theorem dp_fv {d : PyData} {v w : V} (h : fv d = some w) (k : Dp K H v d) : v = w := by
  cases k <;> first
    | exact Option.some.inj h
    | cases h
theorem vd_dp {v : V} {d : PyData} (h : vd v = some d) : Dp K H v d := by
  cases v <;> first
    | (cases h; exact Dp.non)
    | (cases h; exact Dp.bl _)
    | (cases h; exact Dp.int _)
    | (cases h; exact Dp.str _)
    | cases h
theorem Ev.is (h : Ev K te env d) (q : d = e) : Ev K te env e := q ▸ h
theorem EvT.is {b c : Bool} (h : EvT K t env b) (q : b = c) : EvT K t env c := q ▸ h
theorem EvO.is (h : EvO K te env xs) (q : xs = ys) : EvO K te env ys := q ▸ h
theorem ev_var {i : Nat} (h : env[i]? = some (.dat d)) : Ev K (tVar i) env d := fun σ H H1 st Q q => by
  obtain ⟨v, a, b⟩ := st.dat h
  exact ⟨v, a, q v H H1 (Fr.refl st.e) b⟩
theorem ev_c {v : V} (h : vd v = some d) : Ev K (tC v) env d := fun σ H H1 st Q q => q v H H1 (Fr.refl st.e) (vd_dp h)
theorem ev_op {r : R2} (ha : Ev K ta env d) (hb : Ev K tb env e) {f : PyData} (hr : ∀ x y H H1 (Q : VK), Same H H1 → Dp K H x d → Dp K H y e → (∀ v G H2, Fr0 H H1 G H2 → Dp K G v f → Q v H2) → r x y H1 Q) : Ev K (tOp r ta tb) env f := fun σ H H1 st Q q =>
  ha σ H H1 st _ fun x G1 H2 f1 d1 => hb σ G1 H2 (st.mono f1) _ fun y G2 H3 f2 d2 => hr x y G2 H3 _ f2.r (dm f2.g d1) d2 fun v G3 H4 f3 d3 => q v G3 H4 ((f1.tr0 f2).tr0 f3) d3
theorem ev_un {r : V → Hp → VK → Prop} (ha : Ev K ta env d) {f : PyData} (hr : ∀ x H H1 (Q : VK), Same H H1 → Dp K H x d → (∀ v G H2, Fr0 H H1 G H2 → Dp K G v f → Q v H2) → r x H1 Q) : Ev K (tUn r ta) env f := fun σ H H1 st Q q =>
  ha σ H H1 st _ fun x G1 H2 f1 d1 => hr x G1 H2 _ f1.r d1 fun v G3 H4 f3 d3 => q v G3 H4 (f1.tr0 f3) d3
theorem ev_I0 {g : Int → Int → V} (ha : Ev K ta env (.int i)) (hb : Ev K tb env (.int j)) (hd : vd (g i j) = some d) : Ev K (tOp (rI0 g) ta tb) env d :=
  ev_op ha hb fun x y H H1 Q s d1 d2 q => by
    cases d1; cases d2
    exact ⟨i, j, rfl, rfl, q _ H H1 (Fr.refl s) (vd_dp hd)⟩
theorem ev_I {C : Int → Int → Prop} {g : Int → Int → V} (ha : Ev K ta env (.int i)) (hb : Ev K tb env (.int j)) (hc : C i j) (hd : vd (g i j) = some d) : Ev K (tOp (rI C g) ta tb) env d :=
  ev_op ha hb fun x y H H1 Q s d1 d2 q => by
    cases d1; cases d2
    exact ⟨i, j, rfl, rfl, hc, q _ H H1 (Fr.refl s) (vd_dp hd)⟩
theorem ev_U {g : Int → V} (ha : Ev K ta env (.int i)) (hd : vd (g i) = some d) : Ev K (tUn (rU g) ta) env d :=
  ev_un ha fun x H H1 Q s d1 q => by
    cases d1
    exact ⟨i, rfl, q _ H H1 (Fr.refl s) (vd_dp hd)⟩
theorem ev_eq {v w : V} (ha : Ev K ta env d) (hb : Ev K tb env e) (hv : fv d = some v) (hw : fv e = some w) (hs : scal v w = true) : Ev K (tOp rEq ta tb) env (.bool (decide (v = w))) :=
  ev_op ha hb fun x y H H1 Q s d1 d2 q => by
    cases dp_fv hv d1; cases dp_fv hw d2
    exact ⟨hs, q _ H H1 (Fr.refl s) (.bl _)⟩
theorem ev_ne {v w : V} (ha : Ev K ta env d) (hb : Ev K tb env e) (hv : fv d = some v) (hw : fv e = some w) (hs : scal v w = true) : Ev K (tOp rNe ta tb) env (.bool (!decide (v = w))) :=
  ev_op ha hb fun x y H H1 Q s d1 d2 q => by
    cases dp_fv hv d1; cases dp_fv hw d2
    exact ⟨hs, q _ H H1 (Fr.refl s) (.bl _)⟩
theorem dec_i (i j : Int) : decide (V.int i = V.int j) = decide (i = j) := by
  by_cases h : i = j
  · subst h; simp
  · rw [decide_eq_false h, decide_eq_false fun z => h (V.int.inj z)]
theorem dec_s (i j : Str) : decide (V.str i = V.str j) = decide (i = j) := by
  by_cases h : i = j
  · subst h; simp
  · rw [decide_eq_false h, decide_eq_false fun z => h (V.str.inj z)]
theorem dec_b (i j : Bool) : decide (V.bl i = V.bl j) = decide (i = j) := by
  by_cases h : i = j
  · subst h; simp
  · rw [decide_eq_false h, decide_eq_false fun z => h (V.bl.inj z)]
theorem ev_eqI (ha : Ev K ta env (.int i)) (hb : Ev K tb env (.int j)) : Ev K (tOp rEq ta tb) env (.bool (decide (i = j))) := (ev_eq ha hb rfl rfl rfl).is (by rw [dec_i])
theorem ev_neI (ha : Ev K ta env (.int i)) (hb : Ev K tb env (.int j)) : Ev K (tOp rNe ta tb) env (.bool (!decide (i = j))) := (ev_ne ha hb rfl rfl rfl).is (by rw [dec_i])
theorem ev_eqS {i j : Str} (ha : Ev K ta env (.str i)) (hb : Ev K tb env (.str j)) : Ev K (tOp rEq ta tb) env (.bool (decide (i = j))) := (ev_eq ha hb rfl rfl rfl).is (by rw [dec_s])
theorem ev_neS {i j : Str} (ha : Ev K ta env (.str i)) (hb : Ev K tb env (.str j)) : Ev K (tOp rNe ta tb) env (.bool (!decide (i = j))) := (ev_ne ha hb rfl rfl rfl).is (by rw [dec_s])
theorem ev_neB {i j : Bool} (ha : Ev K ta env (.bool i)) (hb : Ev K tb env (.bool j)) : Ev K (tOp rNe ta tb) env (.bool (!decide (i = j))) := (ev_ne ha hb rfl rfl rfl).is (by rw [dec_b])
/-- == of data -/
theorem ev_eqD (ha : Ev K ta env d) (hb : Ev K tb env e) (h1 : SeqAt.shaped d = true) (h2 : SeqAt.shaped e = true) : Ev K (tOp (rEqD K) ta tb) env (.bool (PyData.eqv d e)) :=
  ev_op ha hb fun x y H H1 Q s d1 d2 q => ⟨d, e, dm s d1, dm s d2, h1, h2, q _ H H1 (Fr.refl s) (.bl _)⟩
theorem ev_neD (ha : Ev K ta env d) (hb : Ev K tb env e) (h1 : SeqAt.shaped d = true) (h2 : SeqAt.shaped e = true) : Ev K (tOp (rNeD K) ta tb) env (.bool (!PyData.eqv d e)) :=
  ev_op ha hb fun x y H H1 Q s d1 d2 q => ⟨d, e, dm s d1, dm s d2, h1, h2, q _ H H1 (Fr.refl s) (.bl _)⟩
/-- x is None -/
def isN : PyData → Bool
  | .none => true
  | _ => false
theorem dp_isN {v : V} (h : Dp K H v d) : decide (v = .non) = isN d := by cases h <;> rfl
theorem ev_isN (ha : Ev K ta env d) : Ev K (tOp (fun x y H Q => y = .non ∧ Q (.bl (decide (x = .non))) H) ta (tC .non)) env (.bool (isN d)) :=
  ev_op ha (ev_c rfl) fun x y H H1 Q s d1 d2 q => by
    cases d2
    refine ⟨rfl, ?_⟩
    rw [dp_isN d1]
    exact q _ H H1 (Fr.refl s) (.bl _)
theorem ev_notN (ha : Ev K ta env d) : Ev K (tOp (fun x y H Q => y = .non ∧ Q (.bl (!decide (x = .non))) H) ta (tC .non)) env (.bool (!isN d)) :=
  ev_op ha (ev_c rfl) fun x y H H1 Q s d1 d2 q => by
    cases d2
    refine ⟨rfl, ?_⟩
    rw [dp_isN d1]
    exact q _ H H1 (Fr.refl s) (.bl _)
/-! a list's, a tuple's item -/
theorem ixN_lt {n : Nat} {i : Int} {j : Nat} (h : ixN n i = some j) : j < n := by
  unfold ixN at h
  split at h
  · split at h
    · cases h; omega
    · cases h
  · split at h
    · cases h; omega
    · cases h
theorem dpa_atI {vs : List V} (h : DpAll K H vs ds) (e : atI ds i = some d) : ∃ v, atI vs i = some v ∧ Dp K H v d := by
  unfold atI at e ⊢
  rw [dpa_len h]
  cases c : ixN ds.length i with
  | none => rw [c] at e; cases e
  | some j => rw [c] at e; exact dpa_at h e
theorem ev_ixL (ha : Ev K ta env (.list ds)) (hb : Ev K tb env (.int i)) (h : atI ds i = some d) : Ev K (tOp (rIxL K) ta tb) env d :=
  ev_op ha hb fun x y H H1 Q s d1 d2 q => by
    cases d2
    cases d1 with
    | lst hl ha =>
      obtain ⟨v, e1, e2⟩ := dpa_atI ha h
      exact ⟨_, _, i, v, rfl, rfl, s.seq hl, e1, q _ H H1 (Fr.refl s) e2⟩
theorem ev_ixT (ha : Ev K ta env (.tuple ds)) (hb : Ev K tb env (.int i)) (h : atI ds i = some d) : Ev K (tOp (rIxT K) ta tb) env d :=
  ev_op ha hb fun x y H H1 Q s d1 d2 q => by
    cases d2
    cases d1 with
    | tup hl ha =>
      obtain ⟨v, e1, e2⟩ := dpa_atI ha h
      exact ⟨_, _, i, v, rfl, rfl, sqt s hl, e1, q _ H H1 (Fr.refl s) e2⟩
/-- an item of a list that stands, flat -/
theorem ev_ixO (ha : EvL K ta env ds) (hb : Ev K tb env (.int i)) (h : atI ds i = some d) (he : ∀ σ H H1, Stt K H H1 σ env → True) : Ev K (tOp (rIxL K) ta tb) env d := fun σ H H1 st Q q =>
  ha σ H H1 st _ fun p vs G H2 f h2 dv => hb σ G H2 (st.mono f) _ fun y G3 H3 f3 dy => by
    cases dy
    obtain ⟨v, e1, e2⟩ := dpa_atI dv h
    exact ⟨_, _, i, v, rfl, rfl, .inl (.inl (f3.a _ _ h2)), e1, q _ G3 H3 (f.tr0 f3) (dm f3.g e2)⟩
theorem ea_nil : EvA K tNil env [] := fun σ H H1 st Q q => q [] H H1 (Fr.refl st.e) .nil
theorem ea_cons {tr : TA} (ha : Ev K ta env d) (hr : EvA K tr env ds) : EvA K (tCons ta tr) env (d :: ds) := fun σ H H1 st Q q =>
  ha σ H H1 st _ fun v G H2 f d1 => hr σ G H2 (st.mono f) _ fun vs G3 H3 f3 d3 => q (v :: vs) G3 H3 (f.tr0 f3) (.cons (dm f3.g d1) d3)
theorem sz_ok {n : Nat} (h : n ≤ 100000) : n ≤ sizeLine := Nat.le_trans h (by decide)
theorem sz_lt {m : Nat} (h : m < 100000) : m < sizeLine := Nat.lt_of_lt_of_le h (by decide)
theorem ev_tup {t : TA} (h : EvA K t env ds) (hl : ds.length ≤ 100000) : Ev K (tTup t) env (.tuple ds) := fun σ H H1 st Q q =>
  h σ H H1 st _ fun vs G H2 f dv => ⟨by rw [dpa_len dv]; exact sz_ok hl, fun p hp => by
    have n : Fr0 G H2 (upd G p (.tup vs)) (upd H2 p (.tup vs)) := Fr.new f.r hp
    exact q _ _ _ (f.tr0 n) (.tup (.inl (.inl upd_same)) (dms n.g dv))⟩
theorem eo_lst {t : TA} (h : EvA K t env ds) (hl : ds.length ≤ 100000) : EvO K (tLst t) env ds := fun σ H H1 st Q q =>
  h σ H H1 st _ fun vs G H2 f dv => ⟨by rw [dpa_len dv]; exact sz_ok hl, fun p hp => by
    have n : Fr0 G H2 G (upd H2 p (.lst vs)) := Fr.hid f.r hp
    exact q p vs _ _ (f.tr0 n) (f.a.free hp) (f.r.free hp) upd_same dv⟩
/-- a new list, from now on known -/
theorem EvO.ev (h : EvO K te env xs) : Ev K te env (.list xs) := fun σ H H1 st Q q =>
  h σ H H1 st _ fun p vs G H2 f h1 hg h2 dv => by
    refine q _ (upd G p (.lst vs)) H2 ⟨f.g.trans (newS hg), fun b x z => ?_, f.s, fun b hw c1 c2 => ?_, f.m⟩ (.lst (.inl (.inl upd_same)) (dms (newS hg) dv))
    · by_cases c : b = p
      · subst c; rw [upd_same] at z; cases z; exact h2
      · rw [upd_ne c] at z; exact f.r b x z
    · have c : b ≠ p := fun z => c2 (by rw [z]; exact h1)
      rw [upd_ne c]; exact f.n b hw c1 c2
theorem EvO.l (h : EvO K te env xs) : EvL K te env xs := fun σ H H1 st Q q =>
  h σ H H1 st _ fun p vs G H2 f h1 hg h2 dv => q p vs G H2 f h2 dv
theorem el_var {i : Nat} (h : env[i]? = some (.own xs)) : EvL K (tVar i) env xs := fun σ H H1 st Q q => by
  obtain ⟨l, vs, a, b, c, dv⟩ := st.own h
  exact ⟨_, a, q l vs H H1 (Fr.refl st.e) c dv⟩
theorem ev_lst {t : TA} (h : EvA K t env ds) (hl : ds.length ≤ 100000) : Ev K (tLst t) env (.list ds) := (eo_lst h hl).ev
/-- list + list -/
theorem eo_cat (ha : EvL K ta env xs) (hb : EvL K tb env ys) (hl : xs.length + ys.length ≤ 100000) : EvO K (tOp rCat ta tb) env (xs ++ ys) := fun σ H H1 st Q q =>
  ha σ H H1 st _ fun p vs G H2 f h2 dv => hb σ G H2 (st.mono f) _ fun p2 vs2 G3 H3 f3 h3 dv2 => by
    refine ⟨p, p2, vs, vs2, rfl, rfl, f3.a _ _ h2, h3, sz_ok (by rw [dpa_len dv, dpa_len dv2]; exact hl), fun p4 h4 => ?_⟩
    have n : Fr0 G3 H3 G3 (upd H3 p4 (.lst (vs ++ vs2))) := Fr.hid f3.r h4
    exact q p4 _ G3 _ ((f.tr0 f3).tr0 n) ((f.tr0 f3).a.free h4) (f3.r.free h4) upd_same (dpa_app (dms f3.g dv) dv2)
theorem dpa_rep {vs : List V} (h : DpAll K H vs xs) : ∀ n : Nat, DpAll K H (List.replicate n vs).flatten (List.replicate n xs).flatten
  | 0 => .nil
  | n + 1 => by rw [List.replicate_succ, List.replicate_succ, List.flatten_cons, List.flatten_cons]; exact dpa_app h (dpa_rep h n)
/-- list * int -/
theorem eo_rep (ha : EvL K ta env xs) (hb : Ev K tb env (.int i)) (h1 : -100000 ≤ i ∧ i ≤ 100000) (hl : xs.length * i.toNat ≤ 100000) : EvO K (tOp rRep ta tb) env (List.replicate i.toNat xs).flatten := fun σ H H1 st Q q =>
  ha σ H H1 st _ fun p vs G H2 f h2 dv => hb σ G H2 (st.mono f) _ fun y G3 H3 f3 dy => by
    cases dy
    refine ⟨p, i, vs, rfl, rfl, f3.a _ _ h2, by omega, by omega, sz_ok (by rw [dpa_len dv]; exact hl), fun p4 h4 => ?_⟩
    have n : Fr0 G3 H3 G3 (upd H3 p4 (.lst (List.replicate i.toNat vs).flatten)) := Fr.hid f3.r h4
    exact q p4 _ G3 _ ((f.tr0 f3).tr0 n) ((f.tr0 f3).a.free h4) (f3.r.free h4) upd_same (dpa_rep (dms f3.g dv) _)

/-! ### tests -/
theorem et_test {b : Bool} (h : Ev K te env (.bool b)) : EvT K (tTest te) env b := fun σ H H1 st Q q => h σ H H1 st _ fun v G H2 f d => by cases d; exact ⟨b, rfl, q G H2 f⟩
theorem et_B {b : Bool} (h : Ev K te env (.bool b)) : EvT K (tB te) env b := fun σ H H1 st Q q => h σ H H1 st _ fun v G H2 f d => by cases d; exact ⟨b, rfl, q G H2 f⟩
theorem et_and {a b : Bool} (h1 : EvT K t env a) (h2 : a = true → EvT K u env b) : EvT K (tAnd t u) env (a && b) := fun σ H H1 st Q q => h1 σ H H1 st _ fun G H2 f => by
  cases a with
  | true => exact h2 rfl σ G H2 (st.mono f) Q fun G3 H3 f3 => q G3 H3 (f.tr0 f3)
  | false => exact q G H2 f
theorem et_or {a b : Bool} (h1 : EvT K t env a) (h2 : a = false → EvT K u env b) : EvT K (tOr t u) env (a || b) := fun σ H H1 st Q q => h1 σ H H1 st _ fun G H2 f => by
  cases a with
  | true => exact q G H2 f
  | false => exact h2 rfl σ G H2 (st.mono f) Q fun G3 H3 f3 => q G3 H3 (f.tr0 f3)
theorem et_not {a : Bool} (h1 : EvT K t env a) : EvT K (tNot t) env (!a) := fun σ H H1 st Q q => h1 σ H H1 st _ fun G H2 f => q G H2 f
theorem ev_andV {a b : Bool} (h1 : Ev K ta env (.bool a)) (h2 : a = true → Ev K tb env (.bool b)) : Ev K (tAndV ta tb) env (.bool (a && b)) := fun σ H H1 st Q q => h1 σ H H1 st _ fun v G H2 f d => by
  cases d
  refine ⟨a, rfl, ?_⟩
  cases a with
  | true => exact h2 rfl σ G H2 (st.mono f) Q fun v G3 H3 f3 => q v G3 H3 (f.tr0 f3)
  | false => exact q _ G H2 f (.bl _)
theorem ev_orV {a b : Bool} (h1 : Ev K ta env (.bool a)) (h2 : a = false → Ev K tb env (.bool b)) : Ev K (tOrV ta tb) env (.bool (a || b)) := fun σ H H1 st Q q => h1 σ H H1 st _ fun v G H2 f d => by
  cases d
  refine ⟨a, rfl, ?_⟩
  cases a with
  | true => exact q _ G H2 f (.bl _)
  | false => exact h2 rfl σ G H2 (st.mono f) Q fun v G3 H3 f3 => q v G3 H3 (f.tr0 f3)
theorem ev_notV {a : Bool} (h1 : Ev K ta env (.bool a)) : Ev K (tNotV ta) env (.bool (!a)) := fun σ H H1 st Q q => h1 σ H H1 st _ fun v G H2 f d => by
  cases d
  exact ⟨a, rfl, q _ G H2 f (.bl _)⟩
theorem ev_if {b : Bool} (h : EvT K t env b) (h1 : b = true → Ev K ta env d) (h2 : b = false → Ev K tb env d) : Ev K (tIf t ta tb) env d := fun σ H H1 st Q q => h σ H H1 st _ fun G H2 f => by
  cases b with
  | true => exact h1 rfl σ G H2 (st.mono f) Q fun v G3 H3 f3 => q v G3 H3 (f.tr0 f3)
  | false => exact h2 rfl σ G H2 (st.mono f) Q fun v G3 H3 f3 => q v G3 H3 (f.tr0 f3)

/-! ### calls of what is built in -/
theorem ev_cb {r : List V → Hp → VK → Prop} {t : TA} (ha : EvA K t env ds) {f : PyData} (hr : ∀ vs H H1 (Q : VK), Same H H1 → DpAll K H vs ds → (∀ v G H2, Fr0 H H1 G H2 → Dp K G v f → Q v H2) → r vs H1 Q) : Ev K (tCB r t) env f := fun σ H H1 st Q q =>
  ha σ H H1 st _ fun vs G1 H2 f1 d1 => hr vs G1 H2 _ f1.r d1 fun v G3 H4 f3 d3 => q v G3 H4 (f1.tr0 f3) d3
theorem ev_len (ha : Ev K ta env (.list xs)) : Ev K (tCB (fun xs H Q => ∃ p ys, xs = [.ref p] ∧ (SqL K H p ys ∨ SqT K H p ys) ∧ Q (.int ys.length) H) (tCons ta tNil)) env (.int xs.length) :=
  ev_cb (ea_cons ha ea_nil) fun vs H H1 Q s d q => by
    cases d with
    | cons a b =>
      cases b
      cases a with
      | lst hl ha =>
        refine ⟨_, _, rfl, .inl (s.seq hl), ?_⟩
        rw [dpa_len ha]
        exact q _ H H1 (Fr.refl s) (.int _)
theorem ev_lenT (ha : Ev K ta env (.tuple xs)) : Ev K (tCB (fun xs H Q => ∃ p ys, xs = [.ref p] ∧ (SqL K H p ys ∨ SqT K H p ys) ∧ Q (.int ys.length) H) (tCons ta tNil)) env (.int xs.length) :=
  ev_cb (ea_cons ha ea_nil) fun vs H H1 Q s d q => by
    cases d with
    | cons a b =>
      cases b
      cases a with
      | tup hl ha =>
        refine ⟨_, _, rfl, .inr (sqt s hl), ?_⟩
        rw [dpa_len ha]
        exact q _ H H1 (Fr.refl s) (.int _)
theorem ev_lenO (ha : EvL K ta env xs) : Ev K (tCB (fun xs H Q => ∃ p ys, xs = [.ref p] ∧ (SqL K H p ys ∨ SqT K H p ys) ∧ Q (.int ys.length) H) (tCons ta tNil)) env (.int xs.length) := fun σ H H1 st Q q =>
  ha σ H H1 st _ fun p vs G H2 f h2 dv => by
    refine ⟨p, vs, rfl, .inl (.inl (.inl h2)), ?_⟩
    rw [dpa_len dv]
    exact q _ G H2 f (.int _)
/-- list(x): a new list -/
theorem eo_list (ha : Ev K ta env (.list xs)) : EvO K (tCB (fun xs H Q => ∃ p ys, xs = [.ref p] ∧ (SqL K H p ys ∨ SqT K H p ys) ∧ ∀ l, H l = none → Q (.ref l) (upd H l (.lst ys))) (tCons ta tNil)) env xs := fun σ H H1 st Q q =>
  ha σ H H1 st _ fun v G H2 f d => by
    cases d with
    | lst hl hd =>
      refine ⟨_, _, rfl, .inl (f.r.seq hl), fun l h => ?_⟩
      exact q l _ G _ (f.tr0 (Fr.hid f.r h)) (f.a.free h) (f.r.free h) upd_same hd
theorem eo_listT (ha : Ev K ta env (.tuple xs)) : EvO K (tCB (fun xs H Q => ∃ p ys, xs = [.ref p] ∧ (SqL K H p ys ∨ SqT K H p ys) ∧ ∀ l, H l = none → Q (.ref l) (upd H l (.lst ys))) (tCons ta tNil)) env xs := fun σ H H1 st Q q =>
  ha σ H H1 st _ fun v G H2 f d => by
    cases d with
    | tup hl hd =>
      refine ⟨_, _, rfl, .inr (sqt f.r hl), fun l h => ?_⟩
      exact q l _ G _ (f.tr0 (Fr.hid f.r h)) (f.a.free h) (f.r.free h) upd_same hd
theorem eo_listO (ha : EvL K ta env xs) : EvO K (tCB (fun xs H Q => ∃ p ys, xs = [.ref p] ∧ (SqL K H p ys ∨ SqT K H p ys) ∧ ∀ l, H l = none → Q (.ref l) (upd H l (.lst ys))) (tCons ta tNil)) env xs := fun σ H H1 st Q q =>
  ha σ H H1 st _ fun p vs G H2 f h2 dv => by
    refine ⟨p, vs, rfl, .inl (.inl (.inl h2)), fun l h => ?_⟩
    exact q l _ G _ (f.tr0 (Fr.hid f.r h)) (f.a.free h) (f.r.free h) upd_same dv
/-- tuple(list) -/
theorem ev_tuple (ha : EvL K ta env xs) : Ev K (tCB (fun xs H Q => ∃ p ys, xs = [.ref p] ∧ ((SqL K H p ys ∧ ∀ l, H l = none → Q (.ref l) (upd H l (.tup ys))) ∨ (SqT K H p ys ∧ Q (.ref p) H))) (tCons ta tNil)) env (.tuple xs) := fun σ H H1 st Q q =>
  ha σ H H1 st _ fun p vs G H2 f h2 dv => by
    refine ⟨p, vs, rfl, .inl ⟨.inl (.inl h2), fun l h => ?_⟩⟩
    have n : Fr0 G H2 (upd G l (.tup vs)) (upd H2 l (.tup vs)) := Fr.new f.r h
    exact q _ _ _ (f.tr0 n) (.tup (.inl (.inl upd_same)) (dms n.g dv))
theorem ev_abs (ha : Ev K ta env (.int i)) : Ev K (tCB (fun xs H Q => ∃ i, xs = [.int i] ∧ Q (.int (if i < 0 then -i else i)) H) (tCons ta tNil)) env (.int (if i < 0 then -i else i)) :=
  ev_cb (ea_cons ha ea_nil) fun vs H H1 Q s d q => by
    cases d with
    | cons a b => cases b; cases a; exact ⟨i, rfl, q _ H H1 (Fr.refl s) (.int _)⟩
theorem ev_max2 (ha : Ev K ta env (.int i)) (hb : Ev K tb env (.int j)) : Ev K (tCB (fun xs H Q => ∃ i j, xs = [.int i, .int j] ∧ Q (.int (if j > i then j else i)) H) (tCons ta (tCons tb tNil))) env (.int (if j > i then j else i)) :=
  ev_cb (ea_cons ha (ea_cons hb ea_nil)) fun vs H H1 Q s d q => by
    cases d with
    | cons a b => cases b with | cons b c => cases c; cases a; cases b; exact ⟨i, j, rfl, q _ H H1 (Fr.refl s) (.int _)⟩
theorem ev_min2 (ha : Ev K ta env (.int i)) (hb : Ev K tb env (.int j)) : Ev K (tCB (fun xs H Q => ∃ i j, xs = [.int i, .int j] ∧ Q (.int (if j < i then j else i)) H) (tCons ta (tCons tb tNil))) env (.int (if j < i then j else i)) :=
  ev_cb (ea_cons ha (ea_cons hb ea_nil)) fun vs H H1 Q s d q => by
    cases d with
    | cons a b => cases b with | cons b c => cases c; cases a; cases b; exact ⟨i, j, rfl, q _ H H1 (Fr.refl s) (.int _)⟩
theorem ev_intb {b : Bool} (ha : Ev K ta env (.bool b)) : Ev K (tCB (fun xs H Q => (∃ i, xs = [.int i] ∧ Q (.int i) H) ∨ ∃ k, xs = [.bl k] ∧ Q (.int (if k then 1 else 0)) H) (tCons ta tNil)) env (.int (if b then 1 else 0)) :=
  ev_cb (ea_cons ha ea_nil) fun vs H H1 Q s d q => by
    cases d with
    | cons a c => cases c; cases a; exact .inr ⟨b, rfl, q _ H H1 (Fr.refl s) (.int _)⟩
/-! isinstance -/
def tyD : PyData → Value
  | .none => .type "NoneType"
  | .bool _ => .type "bool"
  | .int _ => .type "int"
  | .str _ => .type "str"
  | .list _ => .type "list"
  | .tuple _ => .type "tuple"
  | .dict _ => .type "dict"
theorem ty_dp {v : V} (h : Dp K H v d) : TyX K H v (tyD d) := by
  cases h with
  | non => exact .base .non
  | bl b => exact .base (.bl b)
  | int i => exact .base (.int i)
  | str x => exact .base (.str x)
  | lst a _ =>
    rcases a with (a | ⟨o, a⟩) | ⟨o, its, n, a, b, _⟩
    · exact .base (.lst a)
    · exact .base (.frz a)
    · exact .kList a b
  | tup a _ =>
    rcases a with (a | ⟨o, a⟩) | ⟨o, its, n, a, b, _⟩
    · exact .base (.tup a)
    · exact .fTuple a
    · exact .kTuple a b
theorem ev_isi {n : String} {b : Bool} (ha : Ev K ta env d) (h : PySem.W.kitOne K (tyD d) (.type n) = some b) : Ev K (tCB (rIsi K) (tCons ta (tCons (tC (.ty n)) tNil))) env (.bool b) := fun σ H H1 st Q q =>
  ha σ H H1 st _ fun v G H2 f d1 => ⟨v, .ty n, _, _, b, rfl, .ty n, ty_dp (dm f.r d1), h, q _ G H2 f (.bl b)⟩
end
end Pf

namespace Pf
open PySem PySem.Spec PyProof.Rows L2

/-! ### statements -/
/-- how a piece of a body ends -/
inductive Oc where
  | nx (env : List SV)
  /-- gives data back -/
  | rt (d : PyData)
  /-- gives a list of its own back -/
  | rl (xs : List PyData)
  | bk (env : List SV)
  | ct (env : List SV)
  /-- an exception of the class c leaves -/
  | ex (c : Value) (env : List SV)
  /-- gives this value back -/
  | rr (v : V)
  /-- gives a new tuple of these values back -/
  | rw (vs : List V) (env : List SV)
  /-- gives a list back that is known and stands by itself -/
  | rk (xs : List PyData)
  /-- gives a tuple back: a text, a list of its own, data -/
  | rg (k : Str) (xs rs : List PyData)
  /-- gives True back, whatever the heap -/
  | rb
def Oc.isNx : Oc → Bool
  | .nx _ => true
  | _ => false
def OcOk (K : PySem.W.Frag) (X : WX) (W : Addr → Prop) (D : Ends) (H H1 : Hp) : Oc → Prop
  | .nx env => ∀ σ G H2, Fr W H H1 G H2 → Stt K G H2 σ env → (∀ l, Ow σ env l → W l ∨ H1 l = none) → D.nx σ H2
  | .bk env => ∀ σ G H2, Fr W H H1 G H2 → Stt K G H2 σ env → (∀ l, Ow σ env l → W l ∨ H1 l = none) → D.bk σ H2
  | .ct env => ∀ σ G H2, Fr W H H1 G H2 → Stt K G H2 σ env → (∀ l, Ow σ env l → W l ∨ H1 l = none) → D.ct σ H2
  | .ex c env => ∀ σ G H2, Fr W H H1 G H2 → Stt K G H2 σ env → (∀ l, Ow σ env l → W l ∨ H1 l = none) → X c none σ H2
  | .rt d => ∀ v G H2, Fr W H H1 G H2 → Dp K G v d → D.rt v H2
  | .rl xs => ∀ p vs G H2, Fr W H H1 G H2 → W p ∨ H1 p = none → G p = none → H2 p = some (.lst vs) → DpAll K G vs xs → D.rt (.ref p) H2
  | .rr v => ∀ G H2, Fr W H H1 G H2 → D.rt v H2
  | .rk xs => ∀ p vs G H2, Fr W H H1 G H2 → G p = some (.lst vs) → DpAll K G vs xs → D.rt (.ref p) H2
  | .rg k xs rs => ∀ t l ws us G H2, Fr W H H1 G H2 → SqT K G t (.str k :: .ref l :: us) → DpAll K G us rs → (W l ∨ H1 l = none) → G l = none → H2 l = some (.lst ws) → DpAll K G ws xs → D.rt (.ref t) H2
  | .rb => ∀ H2, D.rt (.bl true) H2
  | .rw vs env => ∀ t σ G H2, Fr W H H1 G H2 → SqT K G t vs → Stt K G H2 σ env → (∀ l, Ow σ env l → W l ∨ H1 l = none) → D.rt (.ref t) H2
/-- the statements end so -/
def Sx (K : PySem.W.Frag) (X : WX) (ts : TS) (env : List SV) (oc : Oc) : Prop := ∀ σ H H1, Stt K H H1 σ env → ∀ D : Ends, OcOk K X (Ow σ env) D H H1 oc → ts D σ H1
section
variable {K : PySem.W.Frag} {X : WX} {env env1 env2 : List SV} {ta tb tc te : TE} {t u ts : TS} {tt : TT} {d e : PyData} {i j : Int} {xs ys ds : List PyData} {oc : Oc}
theorem OcOk.tr {W W' : Addr → Prop} {D : Ends} {H H1 G H2 : Hp} (h : OcOk K X W D H H1 oc) (f : Fr W H H1 G H2) (w : ∀ p, W' p → W p ∨ H1 p = none) : OcOk K X W' D G H2 oc := by
  have ww : ∀ {p : Addr}, W' p ∨ H2 p = none → W p ∨ H1 p = none := fun {p} z => z.elim (w p) fun z => .inr (f.m p z)
  cases oc with
  | nx env => exact fun σ G' H3 f' st o => h σ G' H3 (f.trans f' w) st fun l z => ww (o l z)
  | bk env => exact fun σ G' H3 f' st o => h σ G' H3 (f.trans f' w) st fun l z => ww (o l z)
  | ct env => exact fun σ G' H3 f' st o => h σ G' H3 (f.trans f' w) st fun l z => ww (o l z)
  | ex c env => exact fun σ G' H3 f' st o => h σ G' H3 (f.trans f' w) st fun l z => ww (o l z)
  | rt d => exact fun v G' H3 f' dv => h v G' H3 (f.trans f' w) dv
  | rl xs => exact fun p vs G' H3 f' a b c dv => h p vs G' H3 (f.trans f' w) (ww a) b c dv
  | rr v => exact fun G' H3 f' => h G' H3 (f.trans f' w)
  | rk xs => exact fun p vs G' H3 f' => h p vs G' H3 (f.trans f' w)
  | rg k xs rs => exact fun t l ws us G' H3 f' a b c => h t l ws us G' H3 (f.trans f' w) a b (ww c)
  | rb => exact h
  | rw vs env => exact fun t σ G' H3 f' a st o => h t σ G' H3 (f.trans f' w) a st fun l z => ww (o l z)
theorem OcOk.tr0 {W : Addr → Prop} {D : Ends} {H H1 G H2 : Hp} (h : OcOk K X W D H H1 oc) (f : Fr0 H H1 G H2) : OcOk K X W D G H2 oc :=
  h.tr (f.mono fun _ z => z.elim) fun _ z => .inl z
theorem Sx.to {oc' : Oc} (h : Sx K X t env oc) (q : oc = oc') : Sx K X t env oc' := q ▸ h

/-! one after another -/
theorem sx_seq (h1 : Sx K X t env (.nx env1)) (h2 : Sx K X u env1 oc) : Sx K X (tSeq t u) env oc := fun σ H H1 st D q =>
  h1 σ H H1 st { D with nx := u D } fun σ' G H2 f st' o => h2 σ' G H2 st' D (q.tr f o)
/-- what ends here -/
theorem sx_end (h1 : Sx K X t env oc) (he : oc.isNx = false) : Sx K X (tSeq t u) env oc := fun σ H H1 st D q =>
  h1 σ H H1 st { D with nx := u D } (by
    cases oc with
    | nx env => cases he
    | bk env => exact q
    | ct env => exact q
    | ex c env => exact q
    | rt d => exact q
    | rl xs => exact q
    | rr v => exact q
    | rw vs e => exact q
    | rk xs => exact q
    | rg k xs rs => exact q
    | rb => exact q)
theorem sx_next : Sx K X tNext env (.nx env) := fun σ H H1 st D q => q σ H H1 (Fr.refl st.e) st fun l z => .inl z
theorem sx_break : Sx K X tBreak env (.bk env) := fun σ H H1 st D q => q σ H H1 (Fr.refl st.e) st fun l z => .inl z
theorem sx_cont : Sx K X tCont env (.ct env) := fun σ H H1 st D q => q σ H H1 (Fr.refl st.e) st fun l z => .inl z
theorem sx_cut (h1 : Sx K X t env (.nx env1)) (h2 : Sx K X u env1 oc) : Sx K X (Evl.tCut t u) env oc := fun σ H H1 st D q =>
  ⟨u D, h1 σ H H1 st { D with nx := u D } fun σ' G H2 f st' o => h2 σ' G H2 st' D (q.tr f o), fun _ _ z => z⟩
theorem sx_set {i : Nat} (h : Ev K te env d) : Sx K X (tAsg te (gName i)) env (.nx (env.set i (.dat d))) := fun σ H H1 st D q =>
  h σ H H1 st _ fun v G H2 f dv => q (σ.set i (some v)) G H2 (f.mono fun _ z => z.elim) ((st.mono f).setD dv) fun l z => by
    rcases Ow.set z with z | ⟨z, _⟩
    · exact .inl z
    · cases z
theorem sx_setO {i : Nat} (h : EvO K te env xs) : Sx K X (tAsg te (gName i)) env (.nx (env.set i (.own xs))) := fun σ H H1 st D q =>
  h σ H H1 st _ fun p vs G H2 f h1 hg h2 dv => q (σ.set i (some (.ref p))) G H2 (f.mono fun _ z => z.elim) (st.setN f h1 hg h2 dv) fun l z => by
    rcases Ow.set z with z | ⟨_, z⟩
    · exact .inl z
    · cases z; exact .inr h1
theorem sx_ret (h : Ev K te env d) : Sx K X (tRet te) env (.rt d) := fun σ H H1 st D q =>
  h σ H H1 st _ fun v G H2 f dv => q v G H2 (f.mono fun _ z => z.elim) dv
theorem sx_retO (h : EvO K te env xs) : Sx K X (tRet te) env (.rl xs) := fun σ H H1 st D q =>
  h σ H H1 st _ fun p vs G H2 f h1 hg h2 dv => q p vs G H2 (f.mono fun _ z => z.elim) (.inr h1) hg h2 dv
/-- one's own list is given back -/
theorem sx_retV {i : Nat} (h : env[i]? = some (.own xs)) : Sx K X (tRet (tVar i)) env (.rl xs) := fun σ H H1 st D q => by
  obtain ⟨l, vs, a, b, c, dv⟩ := st.own h
  exact ⟨_, a, q l vs H H1 (Fr.refl st.e) (.inl ⟨i, _, h, rfl, a⟩) b c dv⟩
theorem sx_drop (h : Ev K te env d) : Sx K X (tDrop te) env (.nx env) := fun σ H H1 st D q =>
  h σ H H1 st _ fun v G H2 f dv => q σ G H2 (f.mono fun _ z => z.elim) (st.mono f) fun l z => .inl z
theorem sx_if {b : Bool} (h : EvT K tt env b) (h1 : b = true → Sx K X t env oc) (h2 : b = false → Sx K X u env oc) : Sx K X (tIfS tt t u) env oc := fun σ H H1 st D q =>
  h σ H H1 st _ fun G H2 f => by
    cases b with
    | true => exact h1 rfl σ G H2 (st.mono f) D (q.tr0 f)
    | false => exact h2 rfl σ G H2 (st.mono f) D (q.tr0 f)
theorem sx_yes (h : EvT K tt env true) (h1 : Sx K X t env oc) : Sx K X (tIfS tt t u) env oc := sx_if h (fun _ => h1) fun z => nomatch z
theorem sx_no (h : EvT K tt env false) (h1 : Sx K X u env oc) : Sx K X (tIfS tt t u) env oc := sx_if h (fun z => nomatch z) fun _ => h1
/-- an if that may end the body, and what follows -/
theorem sx_when {b : Bool} (h : EvT K tt env b) (h1 : b = true → Sx K X t env oc) (he : b = true → oc.isNx = false) (h2 : b = false → Sx K X ts env oc) : Sx K X (tSeq (tIfS tt t tNext) ts) env oc := by
  cases b with
  | true => exact sx_end (sx_yes h (h1 rfl)) (he rfl)
  | false => exact sx_seq (sx_no h sx_next) (h2 rfl)
/-- if c: .. else: .., and what follows from either -/
theorem sx_ifs {b : Bool} (h : EvT K tt env b) (h1 : b = true → Sx K X t env (.nx env1)) (h2 : b = false → Sx K X u env (.nx env1)) (h3 : Sx K X ts env1 oc) : Sx K X (tSeq (tIfS tt t u) ts) env oc := sx_seq (sx_if h h1 h2) h3
/-- xs.append(e) -/
theorem sx_app {i : Nat} (h : env[i]? = some (.own xs)) (he : Ev K te env d) (hz : xs.length < 100000) : Sx K X (tDrop (tBM K "list" rAppend (tVar i) (tCons te tNil))) env (.nx (env.set i (.own (xs ++ [d])))) := fun σ H H1 st D q => by
  obtain ⟨l, vs, a, b, c, dv⟩ := st.own h
  refine ⟨_, a, .inl ⟨rfl, _, .inl (.inl c)⟩, he σ H H1 st _ fun v G H2 f dv2 => ?_⟩
  have st2 := st.mono f
  obtain ⟨l', vs', a', b', c', dv'⟩ := st2.own h
  rw [a] at a'; cases a'
  have hw : Ow σ env l := ⟨i, _, h, rfl, a⟩
  refine ⟨l, vs', v, rfl, rfl, c', sz_lt (by rw [dpa_len dv']; exact hz), ?_⟩
  have e2 : Same G (upd H2 l (.lst (vs' ++ [v]))) := fun p o z => by
    rw [upd_ne (ne_of_none z b')]; exact f.r p o z
  refine q σ G _ ⟨f.g, e2, fun p o nw z => ?_, fun p nw => f.n p (fun z => z), fun p z => f.m p (upd_none z)⟩ ?_ fun l z => ?_
  · have n : p ≠ l := fun z => nw (z ▸ hw)
    rw [upd_ne n]; exact f.s p o (fun z => z) z
  · refine ⟨e2, by rw [List.length_set]; exact st2.l, fun j o s ea eb => ?_, fun j k s s' p hjk b1 b2 o1 o2 a1 => ?_⟩
    · by_cases ej : i = j
      · subst ej
        rw [a] at ea; cases ea
        have hi : i < env.length := (List.getElem?_eq_some_iff.mp h).1
        rw [List.getElem?_set_self hi] at eb; cases eb
        exact ⟨l, _, rfl, b', upd_same, dpa_app dv' (.cons dv2 .nil)⟩
      · rw [List.getElem?_set_ne ej] at eb
        have ok := st2.ok j o s ea eb
        cases s with
        | no => trivial
        | dat d => exact ok
        | own zs =>
          obtain ⟨l2, ws, q1, q2, q3, q4⟩ := ok
          subst q1
          have n : l2 ≠ l := fun z => st2.ne i j _ _ l ej h eb rfl rfl a (z ▸ ea)
          exact ⟨l2, ws, rfl, q2, by rw [upd_ne n]; exact q3, q4⟩
        | obj x =>
          obtain ⟨l2, q1, q2, q3⟩ := ok
          subst q1
          have n : l2 ≠ l := fun z => st2.ne i j _ _ l ej h eb rfl rfl a (z ▸ ea)
          exact ⟨l2, rfl, q2, by rw [upd_ne n]; exact q3⟩
        | raw v => exact ok
        | dct P w kvs =>
          obtain ⟨l2, ws, q1, q2, q3, q4⟩ := ok
          subst q1
          have n : l2 ≠ l := fun z => st2.ne i j _ _ l ej h eb rfl rfl a (z ▸ ea)
          exact ⟨l2, ws, rfl, q2, by rw [upd_ne n]; exact q3, q4⟩
        | dcf P w kvs => exact ok
        | kl xs => exact ok
        | kpg k xs rs => exact ok
        | kep n xs ys => exact ok
        | rd v d => exact ok
        | tupv ws => exact ok
        | ownA l2 zs =>
          obtain ⟨q1, ws, q2, q3, q4⟩ := ok
          subst q1
          have n : l2 ≠ l := fun z => st2.ne i j _ _ l ej h eb rfl rfl a (z ▸ ea)
          exact ⟨rfl, ws, q2, by rw [upd_ne n]; exact q3, q4⟩
    · by_cases e1 : i = j
      · subst e1
        rw [List.getElem?_set_ne hjk] at b2
        exact st2.ne i k _ s' p hjk h b2 rfl o2 a1
      · rw [List.getElem?_set_ne e1] at b1
        by_cases e2 : i = k
        · subst e2
          exact st2.ne j i s _ p hjk b1 h o1 rfl a1
        · rw [List.getElem?_set_ne e2] at b2
          exact st2.ne j k s s' p hjk b1 b2 o1 o2 a1
  · obtain ⟨j, s, z1, z2, z3⟩ := z
    by_cases e1 : i = j
    · subst e1
      rw [a] at z3; cases z3
      exact .inl hw
    · rw [List.getElem?_set_ne e1] at z1
      exact .inl ⟨j, s, z1, z2, z3⟩
/-- one's own list is from now on data that stays -/
theorem Stt.freeze {H H1 : Hp} {σ : L2.St} {i : Nat} (st : Stt K H H1 σ env) (h : env[i]? = some (.own xs)) : ∃ (l : Addr) (vs : List V), σ[i]? = some (some (.ref l)) ∧ H l = none ∧ H1 l = some (.lst vs) ∧ Stt K (upd H l (.lst vs)) H1 σ (env.set i (.dat (.list xs))) := by
  obtain ⟨l, vs, a, b, c, dv⟩ := st.own h
  refine ⟨l, vs, a, b, c, fun p o z => ?_, by rw [List.length_set]; exact st.l, fun j o s ea eb => ?_, fun j k s s' p hjk b1 b2 o1 o2 a1 => ?_⟩
  · by_cases e : p = l
    · subst e; rw [upd_same] at z; cases z; exact c
    · rw [upd_ne e] at z; exact st.e p o z
  · by_cases ej : i = j
    · subst ej
      rw [a] at ea; cases ea
      have hi : i < env.length := (List.getElem?_eq_some_iff.mp h).1
      rw [List.getElem?_set_self hi] at eb; cases eb
      exact ⟨_, rfl, dp_list upd_same (dms (newS b) dv)⟩
    · rw [List.getElem?_set_ne ej] at eb
      have ok := st.ok j o s ea eb
      cases s with
      | no => trivial
      | dat d => obtain ⟨v, q1, q2⟩ := ok; exact ⟨v, q1, dm (newS b) q2⟩
      | own zs =>
        obtain ⟨l2, ws, q1, q2, q3, q4⟩ := ok
        subst q1
        have n : l2 ≠ l := fun z => st.ne i j _ _ l ej h eb rfl rfl a (z ▸ ea)
        exact ⟨l2, ws, rfl, by rw [upd_ne n]; exact q2, q3, dms (newS b) q4⟩
      | obj x =>
        obtain ⟨l2, q1, q2, q3⟩ := ok
        subst q1
        have n : l2 ≠ l := fun z => st.ne i j _ _ l ej h eb rfl rfl a (z ▸ ea)
        exact ⟨l2, rfl, by rw [upd_ne n]; exact q2, q3⟩
      | raw v => exact ok
      | dct P w kvs =>
        obtain ⟨l2, ws, q1, q2, q3, q4⟩ := ok
        subst q1
        have n : l2 ≠ l := fun z => st.ne i j _ _ l ej h eb rfl rfl a (z ▸ ea)
        exact ⟨l2, ws, rfl, by rw [upd_ne n]; exact q2, q3, q4.mono (newS b)⟩
      | dcf P w kvs => obtain ⟨l2, o, ws, q1, q2, q3⟩ := ok; exact ⟨l2, o, ws, q1, newS b _ _ q2, q3.mono (newS b)⟩
      | kl xs => obtain ⟨p1, vs, e0, e1, e2⟩ := ok; exact ⟨p1, vs, e0, newS b _ _ e1, dms (newS b) e2⟩
      | kpg k xs rs => obtain ⟨t, p1, vs, us, e0, e1, e2, e3, e4⟩ := ok; exact ⟨t, p1, vs, us, e0, sqt (newS b) e1, newS b _ _ e2, dms (newS b) e3, dms (newS b) e4⟩
      | kep n xs ys => obtain ⟨t, p1, p2, vs, ws, e0, e1, e2, e3, e4, e5⟩ := ok; exact ⟨t, p1, p2, vs, ws, e0, sqt (newS b) e1, newS b _ _ e2, dms (newS b) e3, newS b _ _ e4, dms (newS b) e5⟩
      | rd v d => exact ⟨ok.1, dm (newS b) ok.2⟩
      | tupv ws => obtain ⟨t, q1, q2⟩ := ok; exact ⟨t, q1, sqt (newS b) q2⟩
      | ownA l2 zs =>
        obtain ⟨q1, ws, q2, q3, q4⟩ := ok
        subst q1
        have n : l2 ≠ l := fun z => st.ne i j _ _ l ej h eb rfl rfl a (z ▸ ea)
        exact ⟨rfl, ws, by rw [upd_ne n]; exact q2, q3, dms (newS b) q4⟩
  · have e1 : i ≠ j := fun z => by
      subst z
      have hi : i < env.length := (List.getElem?_eq_some_iff.mp h).1
      rw [List.getElem?_set_self hi] at b1; cases b1; cases o1
    have e2 : i ≠ k := fun z => by
      subst z
      have hi : i < env.length := (List.getElem?_eq_some_iff.mp h).1
      rw [List.getElem?_set_self hi] at b2; cases b2; cases o2
    rw [List.getElem?_set_ne e1] at b1
    rw [List.getElem?_set_ne e2] at b2
    exact st.ne j k s s' p hjk b1 b2 o1 o2 a1
theorem Ow.freeze {σ : L2.St} {i : Nat} {l : Addr} (w : Ow σ (env.set i (.dat d)) l) : Ow σ env l := by
  obtain ⟨j, s, a, b, c⟩ := w
  by_cases e : i = j
  · subst e
    have hi : i < env.length := by have := (List.getElem?_eq_some_iff.mp a).1; rwa [List.length_set] at this
    rw [List.getElem?_set_self hi] at a
    cases a; cases b
  · rw [List.getElem?_set_ne e] at a
    exact ⟨j, s, a, b, c⟩
theorem sx_fix (i : Nat) (h : env[i]? = some (.own xs)) (k : Sx K X t (env.set i (.dat (.list xs))) oc) : Sx K X t env oc := fun σ H H1 st D q => by
  obtain ⟨l, vs, a, b, c, st'⟩ := st.freeze h
  refine k σ _ H1 st' D (q.tr ⟨newS b, st'.e, fun _ _ _ z => z, fun p nw hp _ => ?_, fun _ z => z⟩ fun p z => .inl (Ow.freeze z))
  have n : p ≠ l := fun z => nw ⟨i, _, h, rfl, by rw [z]; exact a⟩
  rw [upd_ne n]; exact hp
/-- within an expression whose answer is flat, one's own list may be read as data -/
theorem ev_fix {w : V} (i : Nat) (h : env[i]? = some (.own xs)) (hd : fv d = some w) (k : Ev K te (env.set i (.dat (.list xs))) d) : Ev K te env d := fun σ H H1 st Q q => by
  obtain ⟨l, vs, a, b, c, st'⟩ := st.freeze h
  refine k σ _ H1 st' Q fun v G H2 f dv => ?_
  cases dp_fv hd dv
  refine q _ H H2 ⟨Same.refl _, (newS b).trans (f.g.trans f.r), f.s, fun _ _ z _ => z, f.m⟩ ?_
  revert hd
  cases dv <;> intro hd
  · exact .non
  · exact .bl _
  · exact .int _
  · exact .str _
  · cases hd
  · cases hd
/-- less is known -/
theorem Stt.less {H H1 : Hp} {σ : L2.St} (st : Stt K H H1 σ env) (hl : env1.length = env.length) (h : ∀ (i : Nat) s, env1[i]? = some s → s = .no ∨ env[i]? = some s) : Stt K H H1 σ env1 := by
  refine ⟨st.e, by rw [hl]; exact st.l, fun i o s a b => ?_, fun i j s s' l hij b1 b2 o1 o2 a1 => ?_⟩
  · rcases h i s b with z | z
    · subst z; trivial
    · exact st.ok i o s a z
  · rcases h i s b1 with z | z
    · subst z; cases o1
    · rcases h j s' b2 with y | y
      · subst y; cases o2
      · exact st.ne i j s s' l hij z y o1 o2 a1
end
end Pf

namespace Pf
open PySem PySem.Spec PyProof.Rows L2

section
variable {K : PySem.W.Frag} {X : WX} {env env1 env2 : List SV} {ta tb tc te tl : TE} {t u ts : TS} {tt : TT} {d e : PyData} {i j : Int} {xs ys ds : List PyData} {oc : Oc}
/-! ### targets -/
/-- the data d given to a target -/
def Tg (K : PySem.W.Frag) (g : TG) (env : List SV) (d : PyData) (env' : List SV) : Prop := ∀ σ H H1 v, Stt K H H1 σ env → Dp K H v d → ∀ Q : L2.St → Hp → Prop, (∀ σ', Stt K H H1 σ' env' → (∀ l, Ow σ' env' l → Ow σ env l) → Q σ' H1) → g v σ H1 Q
def Tgs (K : PySem.W.Frag) (g : TGs) (env : List SV) (ds : List PyData) (env' : List SV) : Prop := ∀ σ H H1 vs, Stt K H H1 σ env → DpAll K H vs ds → ∀ Q : L2.St → Hp → Prop, (∀ σ', Stt K H H1 σ' env' → (∀ l, Ow σ' env' l → Ow σ env l) → Q σ' H1) → g vs σ H1 Q
theorem tg_name {n : Nat} : Tg K (gName n) env d (env.set n (.dat d)) := fun σ H H1 v st dv Q q =>
  q _ (st.setD dv) fun l z => by
    rcases Ow.set z with z | ⟨z, _⟩
    · exact z
    · cases z
theorem tgs_nil : Tgs K gNil env [] env := fun σ H H1 vs st dv Q q => by cases dv; exact ⟨rfl, q _ st fun _ z => z⟩
theorem tgs_cons {g : TG} {gs : TGs} (h : Tg K g env d env1) (hs : Tgs K gs env1 ds env2) : Tgs K (gCons g gs) env (d :: ds) env2 := fun σ H H1 vs st dv Q q => by
  cases dv with
  | cons a b => exact ⟨_, _, rfl, h σ H H1 _ st a _ fun σ' st' o => hs σ' H H1 _ st' b _ fun σ2 st2 o2 => q σ2 st2 fun l z => o l (o2 l z)⟩
theorem tg_tup {n : Nat} {gs : TGs} (h : Tgs K gs env ds env1) (hn : ds.length = n) : Tg K (gTup K n gs) env (.tuple ds) env1 := fun σ H H1 v st dv Q q => by
  cases dv with
  | tup a b => exact ⟨_, _, rfl, sqt st.e a, by rw [dpa_len b]; exact hn, h σ H H1 _ st b Q q⟩
theorem sx_asg {g : TG} (h : Ev K te env d) (hg : Tg K g env d env1) : Sx K X (tAsg te g) env (.nx env1) := fun σ H H1 st D q =>
  h σ H H1 st _ fun v G H2 f dv => hg σ G H2 v (st.mono f) dv _ fun σ' st' o => q σ' G H2 (f.mono fun _ z => z.elim) st' fun l z => .inl (o l z)

/-! ### for -/
/-- what stands between two turns: from the loop's own start -/
def Pt (K : PySem.W.Frag) (W : Addr → Prop) (H H1 : Hp) (Inv : Nat → List SV) : Nat → L2.St → Hp → Prop := fun i σ' H' => ∃ G, Fr W H H1 G H' ∧ Stt K G H' σ' (Inv i) ∧ ∀ l, Ow σ' (Inv i) l → W l ∨ H1 l = none
theorem Pt.turn {W : Addr → Prop} {H H1 H' G : Hp} {Inv : Nat → List SV} {i : Nat} {σ' : L2.St} {D : Ends} (f : Fr W H H1 G H') (st : Stt K G H' σ' (Inv i)) (ow : ∀ l, Ow σ' (Inv i) l → W l ∨ H1 l = none) {D' : Ends} (hD : D'.nx = Pt K W H H1 Inv (i + 1)) (hc : D'.ct = Pt K W H H1 Inv (i + 1)) :
    OcOk K X (Ow σ' (Inv i)) D' G H' (.nx (Inv (i + 1))) ∧ OcOk K X (Ow σ' (Inv i)) D' G H' (.ct (Inv (i + 1))) := by
  have z : ∀ σ G2 H2, Fr (Ow σ' (Inv i)) G H' G2 H2 → Stt K G2 H2 σ (Inv (i + 1)) → (∀ l, Ow σ (Inv (i + 1)) l → Ow σ' (Inv i) l ∨ H' l = none) → Pt K W H H1 Inv (i + 1) σ H2 := fun σ G2 H2 f2 st2 o2 =>
    ⟨G2, f.trans f2 ow, st2, fun l z => (o2 l z).elim (ow l) fun z => .inr (f.m l z)⟩
  exact ⟨fun σ G2 H2 f2 st2 o2 => by rw [hD]; exact z σ G2 H2 f2 st2 o2, fun σ G2 H2 f2 st2 o2 => by rw [hc]; exact z σ G2 H2 f2 st2 o2⟩
/-- a body's turn: on to the next, by its end or by continue -/
def Go (K : PySem.W.Frag) (X : WX) (t : TS) (env env' : List SV) : Prop := Sx K X t env (.nx env') ∨ Sx K X t env (.ct env')
/-- for over a list of data; o i: how the turn i ends the whole, if it does -/
theorem sx_forE {g : TG} (h : Ev K tl env (.list ds)) (Inv : Nat → List SV) (h0 : Inv 0 = env) (o : Nat → Bool) (ex : Oc) (hx : ex.isNx = false) (hb : ∀ e, ex ≠ .bk e) (hc : ∀ e, ex ≠ .ct e)
    (go : ∀ (i : Nat) (d : PyData), ds[i]? = some d → (∀ j, j < i → o j = false) → ∃ env', Tg K g (Inv i) d env' ∧ ((o i = false → Go K X t env' (Inv (i + 1))) ∧ (o i = true → oc = ex ∧ Sx K X t env' ex)))
    (rest : (∀ j, j < ds.length → o j = false) → Sx K X u (Inv ds.length) oc) : Sx K X (tSeq (tFor (iList K tl) g t) u) env oc := fun σ H H1 st D q => by
  refine h σ H H1 st _ fun v G0 H2 f dv => ?_
  cases dv with
  | @lst a vs _ hl hd =>
    have f' : Fr (Ow σ env) H H1 G0 H2 := f.mono fun _ z => z.elim
    have stay : ∀ {G H' : Hp}, Fr (Ow σ env) G0 H2 G H' → SqL K H' a vs := fun {G H'} f2 => f2.r.seq (f2.g.seq hl)
    refine ⟨a, rfl, ⟨vs, f.r.seq hl⟩, for_list (K := K) (a := a) (xs := vs) (fun i σ' H' => Pt K (Ow σ env) G0 H2 Inv i σ' H' ∧ ∀ j, j < i → o j = false) ⟨⟨G0, Fr.refl f.r, by rw [h0]; exact st.mono f, fun l z => .inl (by rw [h0] at z; exact z)⟩, fun j hj => absurd hj (Nat.not_lt_zero j)⟩ (fun i σ' H' _ p => ?_) (fun i x σ' H' hi p => ?_) (fun σ' H' p => ?_)⟩
    · obtain ⟨⟨G, f2, _, _⟩, _⟩ := p
      exact stay f2
    · obtain ⟨⟨G, f2, st2, ow⟩, hj⟩ := p
      obtain ⟨d, e1, e2⟩ := dpa_get hd hi
      obtain ⟨env', tg, g1, g2⟩ := go i d e1 hj
      refine tg σ' G H' x st2 (dm f2.g e2) _ fun σ2 st3 o3 => ?_
      have ow3 : ∀ l, Ow σ2 env' l → Ow σ env l ∨ H2 l = none := fun l z => ow l (o3 l z)
      cases hoi : o i with
      | false =>
        have nx : ∀ σ3 G3 H3, Fr (Ow σ2 env') G H' G3 H3 → Stt K G3 H3 σ3 (Inv (i + 1)) → (∀ l, Ow σ3 (Inv (i + 1)) l → Ow σ2 env' l ∨ H' l = none) → Pt K (Ow σ env) G0 H2 Inv (i + 1) σ3 H3 ∧ ∀ j, j < i + 1 → o j = false := fun σ3 G3 H3 f3 st4 o4 =>
          ⟨⟨G3, f2.trans f3 ow3, st4, fun l z => (o4 l z).elim (ow3 l) fun z => .inr (f2.m l z)⟩, fun j hj' => by
            rcases Nat.lt_succ_iff_lt_or_eq.mp hj' with z | z
            · exact hj j z
            · rw [z]; exact hoi⟩
        rcases g1 hoi with w | w
        · exact w σ2 G H' st3 _ nx
        · exact w σ2 G H' st3 _ nx
      | true =>
        obtain ⟨eo, w⟩ := g2 hoi
        refine w σ2 G H' st3 _ ?_
        have q' : OcOk K X (Ow σ2 env') D G H' ex := by
          rw [eo] at q
          refine (q.tr f' fun l z => .inl z).tr f2 ow3
        cases ex with
        | nx e => cases hx
        | bk e => exact absurd rfl (hb e)
        | ct e => exact absurd rfl (hc e)
        | ex c e => exact q'
        | rt d => exact q'
        | rl x => exact q'
        | rr v => exact q'
        | rw vs e => exact q'
        | rk xs => exact q'
        | rg k xs rs => exact q'
        | rb => exact q'
    · obtain ⟨⟨G, f2, st2, ow⟩, hj⟩ := p
      rw [dpa_len hd] at st2 ow hj
      exact rest hj σ' G H' st2 D ((q.tr f' fun l z => .inl z).tr f2 ow)
/-- for over a list of data, every turn goes on -/
theorem sx_for {g : TG} (h : Ev K tl env (.list ds)) (Inv : Nat → List SV) (h0 : Inv 0 = env) (go : ∀ (i : Nat) (d : PyData), ds[i]? = some d → ∃ env', Tg K g (Inv i) d env' ∧ Go K X t env' (Inv (i + 1))) : Sx K X (tFor (iList K tl) g t) env (.nx (Inv ds.length)) := fun σ H H1 st D q => by
  refine h σ H H1 st _ fun v G0 H2 f dv => ?_
  cases dv with
  | @lst a vs _ hl hd =>
    have f' : Fr (Ow σ env) H H1 G0 H2 := f.mono fun _ z => z.elim
    have stay : ∀ {G H' : Hp}, Fr (Ow σ env) G0 H2 G H' → SqL K H' a vs := fun {G H'} f2 => f2.r.seq (f2.g.seq hl)
    refine ⟨a, rfl, ⟨vs, f.r.seq hl⟩, for_list (K := K) (a := a) (xs := vs) (Pt K (Ow σ env) G0 H2 Inv) ⟨G0, Fr.refl f.r, by rw [h0]; exact st.mono f, fun l z => .inl (by rw [h0] at z; exact z)⟩ (fun i σ' H' _ p => ?_) (fun i x σ' H' hi p => ?_) (fun σ' H' p => ?_)⟩
    · obtain ⟨G, f2, _, _⟩ := p
      exact stay f2
    · obtain ⟨G, f2, st2, ow⟩ := p
      obtain ⟨d, e1, e2⟩ := dpa_get hd hi
      obtain ⟨env', tg, g1⟩ := go i d e1
      refine tg σ' G H' x st2 (dm f2.g e2) _ fun σ2 st3 o3 => ?_
      have ow3 : ∀ l, Ow σ2 env' l → Ow σ env l ∨ H2 l = none := fun l z => ow l (o3 l z)
      have nx : ∀ σ3 G3 H3, Fr (Ow σ2 env') G H' G3 H3 → Stt K G3 H3 σ3 (Inv (i + 1)) → (∀ l, Ow σ3 (Inv (i + 1)) l → Ow σ2 env' l ∨ H' l = none) → Pt K (Ow σ env) G0 H2 Inv (i + 1) σ3 H3 := fun σ3 G3 H3 f3 st4 o4 =>
        ⟨G3, f2.trans f3 ow3, st4, fun l z => (o4 l z).elim (ow3 l) fun z => .inr (f2.m l z)⟩
      rcases g1 with w | w
      · exact w σ2 G H' st3 _ nx
      · exact w σ2 G H' st3 _ nx
    · obtain ⟨G, f2, st2, ow⟩ := p
      rw [dpa_len hd] at st2 ow
      exact q σ' G H' (f'.trans f2 fun l z => .inl z) st2 fun l z => (ow l z).elim .inl fun z => .inr (f.m l z)
/-- for over range(n), range(a, b), every turn goes on -/
theorem sx_forR1 {n : Nat} {ta : TA} {g : TG} {k : Int} (h : EvA K ta env [.int k]) (hk : -100000 ≤ k ∧ k ≤ 100000) (hn : k.toNat = n) (Inv : Nat → List SV) (h0 : Inv 0 = env) (go : ∀ i : Nat, i < n → ∃ env', Tg K g (Inv i) (.int i) env' ∧ Go K X t env' (Inv (i + 1))) :
    Sx K X (tFor (iRng1 ta) g t) env (.nx (Inv n)) := fun σ H H1 st D q => by
  refine h σ H H1 st _ fun vs G0 H2 f dv => ?_
  cases dv with
  | cons a b =>
    cases b; cases a
    have f' : Fr (Ow σ env) H H1 G0 H2 := f.mono fun _ z => z.elim
    refine ⟨k, rfl, by omega, by omega, for_range (lo := 0) (n := k.toNat) (Pt K (Ow σ env) G0 H2 Inv) ⟨G0, Fr.refl f.r, by rw [h0]; exact st.mono f, fun l z => .inl (by rw [h0] at z; exact z)⟩ (fun i σ' H' hi p => ?_) (fun σ' H' p => ?_)⟩
    · obtain ⟨G, f2, st2, ow⟩ := p
      obtain ⟨env', tg, g1⟩ := go i (by omega)
      rw [Int.zero_add]
      refine tg σ' G H' _ st2 (.int _) _ fun σ2 st3 o3 => ?_
      have ow3 : ∀ l, Ow σ2 env' l → Ow σ env l ∨ H2 l = none := fun l z => ow l (o3 l z)
      have nx : ∀ σ3 G3 H3, Fr (Ow σ2 env') G H' G3 H3 → Stt K G3 H3 σ3 (Inv (i + 1)) → (∀ l, Ow σ3 (Inv (i + 1)) l → Ow σ2 env' l ∨ H' l = none) → Pt K (Ow σ env) G0 H2 Inv (i + 1) σ3 H3 := fun σ3 G3 H3 f3 st4 o4 =>
        ⟨G3, f2.trans f3 ow3, st4, fun l z => (o4 l z).elim (ow3 l) fun z => .inr (f2.m l z)⟩
      rcases g1 with w | w
      · exact w σ2 G H' st3 _ nx
      · exact w σ2 G H' st3 _ nx
    · obtain ⟨G, f2, st2, ow⟩ := p
      rw [hn] at st2 ow
      exact q σ' G H' (f'.trans f2 fun l z => .inl z) st2 fun l z => (ow l z).elim .inl fun z => .inr (f.m l z)
/-- a loop's word may forget -/
theorem sx_less (hl : env1.length = env.length) (h : ∀ (i : Nat) s, env1[i]? = some s → s = .no ∨ env[i]? = some s) (k : Sx K X t env1 oc) : Sx K X t env oc := fun σ H H1 st D q =>
  k σ H H1 (st.less hl h) D (q.tr (Fr.refl st.e) fun l z => by
    obtain ⟨j, s, a, b, c⟩ := z
    rcases h j s a with y | y
    · subst y; cases b
    · exact .inl ⟨j, s, y, b, c⟩)
theorem sx_nx_less (hl : env2.length = env1.length) (h : ∀ (i : Nat) s, env2[i]? = some s → s = .no ∨ env1[i]? = some s) (k : Sx K X t env (.nx env1)) : Sx K X t env (.nx env2) := fun σ H H1 st D q =>
  k σ H H1 st D fun σ' G H2 f st' o => q σ' G H2 f (st'.less hl h) fun l z => by
    obtain ⟨j, s, a, b, c⟩ := z
    rcases h j s a with y | y
    · subst y; cases b
    · exact o l ⟨j, s, y, b, c⟩
end
end Pf

namespace Pf
open PySem PySem.Spec PyProof.Rows L2

section
variable {K : PySem.W.Frag} {X : WX} {env env1 env2 : List SV} {ta tb tc te tl : TE} {t u ts : TS} {tt : TT} {d e : PyData} {i j : Int} {xs ys ds : List PyData} {oc : Oc}
theorem Stt.monoW {W : Addr → Prop} {H H1 G H2 : Hp} {σ : L2.St} (h : Stt K H H1 σ env) (f : Fr W H H1 G H2) (hw : ∀ l, Ow σ env l → ¬ W l) : Stt K G H2 σ env := by
  refine ⟨f.r, h.l, fun i o s a b => ?_, h.ne⟩
  have ok := h.ok i o s a b
  cases s with
  | no => trivial
  | dat d => obtain ⟨v, e1, e2⟩ := ok; exact ⟨v, e1, dm f.g e2⟩
  | own xs =>
    obtain ⟨l, vs, e1, e2, e3, e4⟩ := ok
    subst e1
    have nw := hw l ⟨i, _, b, rfl, a⟩
    exact ⟨l, vs, rfl, f.n l nw e2 (by rw [e3]; exact fun z => nomatch z), f.s _ _ nw e3, dms f.g e4⟩
  | obj x =>
    obtain ⟨l, e1, e2, e3⟩ := ok
    subst e1
    have nw := hw l ⟨i, _, b, rfl, a⟩
    exact ⟨l, rfl, f.n l nw e2 (by rw [e3]; exact fun z => nomatch z), f.s _ _ nw e3⟩
  | raw v => exact ok
  | dct P w kvs =>
    obtain ⟨l, vs, e1, e2, e3, e4⟩ := ok
    subst e1
    have nw := hw l ⟨i, _, b, rfl, a⟩
    exact ⟨l, vs, rfl, f.n l nw e2 (by rw [e3]; exact fun z => nomatch z), f.s _ _ nw e3, e4.mono f.g⟩
  | dcf P w kvs => obtain ⟨l, o, xs, q1, q2, q3⟩ := ok; exact ⟨l, o, xs, q1, f.g _ _ q2, q3.mono f.g⟩
  | kl xs => obtain ⟨p1, vs, e0, e1, e2⟩ := ok; exact ⟨p1, vs, e0, f.g _ _ e1, dms f.g e2⟩
  | kpg k xs rs => obtain ⟨t, p1, vs, us, e0, e1, e2, e3, e4⟩ := ok; exact ⟨t, p1, vs, us, e0, sqt f.g e1, f.g _ _ e2, dms f.g e3, dms f.g e4⟩
  | kep n xs ys => obtain ⟨t, p1, p2, vs, ws, e0, e1, e2, e3, e4, e5⟩ := ok; exact ⟨t, p1, p2, vs, ws, e0, sqt f.g e1, f.g _ _ e2, dms f.g e3, f.g _ _ e4, dms f.g e5⟩
  | rd v d => exact ⟨ok.1, dm f.g ok.2⟩
  | tupv ws => obtain ⟨t, q1, q2⟩ := ok; exact ⟨t, q1, sqt f.g q2⟩
  | ownA l xs =>
    obtain ⟨e1, vs, e2, e3, e4⟩ := ok
    subst e1
    have nw := hw l ⟨i, _, b, rfl, a⟩
    exact ⟨rfl, vs, f.n l nw e2 (by rw [e3]; exact fun z => nomatch z), f.s _ _ nw e3, dms f.g e4⟩

/-! ### comprehensions -/
def wipeE (env : List SV) : List Nat → List SV
  | [] => env
  | v :: vs => (wipeE env vs).set v .no
theorem Stt.forget {H H1 : Hp} {σ : L2.St} (h : Stt K H H1 σ env) (v : Nat) : Stt K H H1 (σ.set v none) (env.set v .no) := by
  refine ⟨h.e, by rw [List.length_set, List.length_set]; exact h.l, fun j o s a b => ?_, fun j k s t l hjk b1 b2 o1 o2 a1 => ?_⟩
  · by_cases c : v = j
    · subst c
      have hi : v < env.length := by have := (List.getElem?_eq_some_iff.mp b).1; rwa [List.length_set] at this
      rw [List.getElem?_set_self hi] at b; cases b; trivial
    · rw [List.getElem?_set_ne c] at a b
      exact h.ok j o s a b
  · have c1 : v ≠ j := fun c => by
      subst c
      have hi : v < env.length := by have := (List.getElem?_eq_some_iff.mp b1).1; rwa [List.length_set] at this
      rw [List.getElem?_set_self hi] at b1; cases b1; cases o1
    have c2 : v ≠ k := fun c => by
      subst c
      have hi : v < env.length := by have := (List.getElem?_eq_some_iff.mp b2).1; rwa [List.length_set] at this
      rw [List.getElem?_set_self hi] at b2; cases b2; cases o2
    rw [List.getElem?_set_ne c1] at a1 b1
    rw [List.getElem?_set_ne c2] at b2 ⊢
    exact h.ne j k s t l hjk b1 b2 o1 o2 a1
theorem Stt.wipe {H H1 : Hp} {σ : L2.St} (h : Stt K H H1 σ env) : ∀ vs : List Nat, Stt K H H1 (L2.wipe σ vs) (wipeE env vs)
  | [] => h
  | v :: vs => (h.wipe vs).forget v
theorem Ow.wipe {σ : L2.St} {l : Addr} : ∀ {vs : List Nat}, Ow (L2.wipe σ vs) (wipeE env vs) l → Ow σ env l
  | [], z => z
  | v :: vs, z => by
    have z' : Ow ((L2.wipe σ vs).set v none) ((wipeE env vs).set v .no) l := z
    rcases Ow.set z' with y | ⟨y, _⟩
    · exact Ow.wipe y
    · cases y
theorem wipe_set {σ : L2.St} {x : Option V} {n : Nat} : ∀ {vs : List Nat}, n ∈ vs → L2.wipe (σ.set n x) vs = L2.wipe σ vs
  | v :: vs, h => by
    show (L2.wipe (σ.set n x) vs).set v none = (L2.wipe σ vs).set v none
    by_cases e : n ∈ vs
    · rw [wipe_set e]
    · have ev : n = v := by
        rcases List.mem_cons.mp h with z | z
        · exact z
        · exact absurd z e
      subst ev
      have : ∀ {ws : List Nat}, n ∉ ws → L2.wipe (σ.set n x) ws = (L2.wipe σ ws).set n x := by
        intro ws
        induction ws with
        | nil => intro _; rfl
        | cons w ws ih =>
          intro hw
          show (L2.wipe (σ.set n x) ws).set w none = ((L2.wipe σ ws).set w none).set n x
          rw [ih fun z => hw (List.mem_cons_of_mem _ z), List.set_comm _ _ fun z => hw (by rw [z]; exact List.mem_cons_self)]
      rw [this e, List.set_set]
theorem wipe_wipe {σ : L2.St} : ∀ {vs ws : List Nat}, (∀ v ∈ vs, v ∈ ws) → L2.wipe (L2.wipe σ vs) ws = L2.wipe σ ws
  | [], _, _ => rfl
  | v :: vs, ws, h => by
    show L2.wipe ((L2.wipe σ vs).set v none) ws = _
    rw [wipe_set (h v List.mem_cons_self)]
    exact wipe_wipe fun z hz => h z (List.mem_cons_of_mem _ hz)
/-- as Tg, the slots vs alone changed -/
def Tgw (K : PySem.W.Frag) (vs : List Nat) (g : TG) (env : List SV) (d : PyData) (env' : List SV) : Prop := ∀ σ H H1 v, Stt K H H1 σ env → Dp K H v d → ∀ Q : L2.St → Hp → Prop, (∀ σ', Stt K H H1 σ' env' → (∀ l, Ow σ' env' l → Ow σ env l) → L2.wipe σ' vs = L2.wipe σ vs → Q σ' H1) → g v σ H1 Q
def Tgsw (K : PySem.W.Frag) (vs : List Nat) (g : TGs) (env : List SV) (ds : List PyData) (env' : List SV) : Prop := ∀ σ H H1 ws, Stt K H H1 σ env → DpAll K H ws ds → ∀ Q : L2.St → Hp → Prop, (∀ σ', Stt K H H1 σ' env' → (∀ l, Ow σ' env' l → Ow σ env l) → L2.wipe σ' vs = L2.wipe σ vs → Q σ' H1) → g ws σ H1 Q
theorem tgw_name {n : Nat} {vs : List Nat} (hn : n ∈ vs) : Tgw K vs (gName n) env d (env.set n (.dat d)) := fun σ H H1 v st dv Q q =>
  q _ (st.setD dv) (fun l z => by
    rcases Ow.set z with z | ⟨z, _⟩
    · exact z
    · cases z) (wipe_set hn)
theorem tgsw_nil {vs : List Nat} : Tgsw K vs gNil env [] env := fun σ H H1 ws st dv Q q => by cases dv; exact ⟨rfl, q _ st (fun _ z => z) rfl⟩
theorem tgsw_cons {g : TG} {gs : TGs} {vs : List Nat} (h : Tgw K vs g env d env1) (hs : Tgsw K vs gs env1 ds env2) : Tgsw K vs (gCons g gs) env (d :: ds) env2 := fun σ H H1 ws st dv Q q => by
  cases dv with
  | cons a b => exact ⟨_, _, rfl, h σ H H1 _ st a _ fun σ' st' o w1 => hs σ' H H1 _ st' b _ fun σ2 st2 o2 w2 => q σ2 st2 (fun l z => o l (o2 l z)) (w2.trans w1)⟩
theorem tgw_tup {n : Nat} {gs : TGs} {vs : List Nat} (h : Tgsw K vs gs env ds env1) (hn : ds.length = n) : Tgw K vs (gTup K n gs) env (.tuple ds) env1 := fun σ H H1 v st dv Q q => by
  cases dv with
  | tup a b => exact ⟨_, _, rfl, sqt st.e a, by rw [dpa_len b]; exact hn, h σ H H1 _ st b Q q⟩
/-- what has been made behind some turns -/
def Mk (K : PySem.W.Frag) (G0 H2 : Hp) (D : Addr) (ds : List PyData) (H' : Hp) : Prop := ∃ G ac, Fr (fun p => p = D) G0 H2 G H' ∧ G D = none ∧ H' D = some (.lst ac) ∧ DpAll K G ac ds
theorem mk_turn {H2 H' G G0 : Hp} {D : Addr} {ac : List V} {b : Bool} {σ2 : L2.St} (f : Fr (fun p => p = D) G0 H2 G H') (hG : G D = none) (ha : H' D = some (.lst ac)) (dv : DpAll K G ac ds) (hz : ds.length < 100000)
    (st : Stt K G H' σ2 env1) (ht : EvT K tt env1 b) (he : b = true → Ev K te env1 d) :
    tt σ2 H' fun k H3 => if k = true then te σ2 H3 fun y H4 => ∃ acc, H4 D = some (.lst acc) ∧ acc.length < sizeLine ∧ Mk K G0 H2 D (ds ++ (if b = true then [d] else [])) (upd H4 D (.lst (acc ++ [y]))) else Mk K G0 H2 D (ds ++ (if b = true then [d] else [])) H3 := by
  refine ht σ2 G H' st _ fun G1 H3 f1 => ?_
  have D1 : G1 D = none := f1.n D (fun z => z) hG (by rw [ha]; exact fun z => nomatch z)
  cases b with
  | true =>
    show te σ2 H3 _
    refine he rfl σ2 G1 H3 (st.mono f1) _ fun y G2 H4 f2 d2 => ?_
    have a3 := f1.a _ _ ha
    have D2 : G2 D = none := f2.n D (fun z => z) D1 (by rw [a3]; exact fun z => nomatch z)
    have f3 := (f.tr0 f1).tr0 f2
    refine ⟨ac, f2.a _ _ a3, sz_lt (by rw [dpa_len dv]; exact hz), G2, ac ++ [y], ⟨f3.g, fun p o z => ?_, fun p o nw z => ?_, f3.n, fun p z => f3.m p (upd_none z)⟩, D2, upd_same, dpa_app (dms (f1.g.trans f2.g) dv) (.cons d2 .nil)⟩
    · rw [upd_ne (ne_of_none z D2)]; exact f3.r p o z
    · rw [upd_ne (show p ≠ D from nw)]; exact f3.s p o nw z
  | false =>
    show Mk K G0 H2 D (ds ++ []) H3
    rw [List.append_nil]
    exact ⟨G1, ac, f.tr0 f1, D1, f1.a _ _ ha, dms f1.g dv⟩
theorem mk_start {G0 H2 : Hp} {D : Addr} (e : Same G0 H2) (hD : H2 D = none) : Mk K G0 H2 D [] (upd H2 D (.lst [])) :=
  ⟨G0, [], Fr.hid e hD, e.free hD, upd_same, .nil⟩
theorem filter_next {α : Type} {f : α → Bool} {w : α → PyData} {xs : List α} {i : Nat} {x : α} (h : xs[i]? = some x) : ((xs.take (i + 1)).filter f).map w = ((xs.take i).filter f).map w ++ (if f x = true then [w x] else []) := by
  rw [List.take_add_one, h, List.filter_append, List.map_append]
  show _ ++ List.map w (List.filter f [x]) = _
  cases e : f x with
  | true => rw [List.filter_cons, if_pos e]; rfl
  | false => rw [List.filter_cons, if_neg (by rw [e]; decide)]; rfl
theorem take_short {α : Type} {f : α → Bool} {w : α → PyData} {xs : List α} {i : Nat} (h : xs.length < 100000) : (((xs.take i).filter f).map w).length < 100000 := by
  rw [List.length_map]
  refine Nat.lt_of_le_of_lt (List.length_filter_le _ _) ?_
  rw [List.length_take]; omega
/-- [e for target in a list of data if ..] -/
theorem eo_lcL {α : Type} (xs : List α) (en : α → PyData) (f : α → Bool) (w : α → PyData) {g : TG} {vs : List Nat} (h : Ev K tl env (.list (xs.map en))) (hz : xs.length < 100000) (turn : ∀ x ∈ xs, ∃ env', Tgw K vs g (wipeE env vs) (en x) env' ∧ EvT K tt env' (f x) ∧ (f x = true → Ev K te env' (w x))) :
    EvO K (tLc (iList K tl) g tt te vs) env ((xs.filter f).map w) := fun σ H H1 st Q q => by
  refine h σ H H1 st _ fun v G0 H2 f0 dv => ?_
  cases dv with
  | @lst a as _ hl hd =>
    refine ⟨a, rfl, ⟨as, f0.r.seq hl⟩, fun D hD => ?_⟩
    have st0 := st.mono f0
    have nD : ∀ l, Ow (L2.wipe σ vs) (wipeE env vs) l → ¬ l = D := fun l z e => by
      have := (st0.owned (Ow.wipe z)).2
      exact this (by rw [e]; exact hD)
    have hlen : as.length = xs.length := by rw [dpa_len hd, List.length_map]
    refine lc_list (K := K) (a := a) (xs := as) (fun i H' => Mk K G0 H2 D (((xs.take i).filter f).map w) H') (mk_start f0.r hD) (fun i H' _ p => ?_) (fun i x H' hi p => ?_) (fun H' p => ?_)
    · obtain ⟨G, ac, f1, _⟩ := p
      exact f1.r.seq (f1.g.seq hl)
    · obtain ⟨G, ac, f1, hG, ha, da⟩ := p
      obtain ⟨d, e1, e2⟩ := dpa_get hd hi
      rw [List.getElem?_map] at e1
      cases ex : xs[i]? with
      | none => rw [ex] at e1; cases e1
      | some x' =>
        rw [ex] at e1
        obtain rfl : en x' = d := Option.some.inj e1
        obtain ⟨env', tg, ht, he⟩ := turn x' (List.mem_of_getElem? ex)
        refine tg _ G H' x ((st0.wipe vs).monoW f1 nD) (dm f1.g e2) _ fun σ' st' o hw => ⟨?_, ?_⟩
        · rw [hw]; exact wipe_wipe fun _ z => z
        · rw [filter_next ex]
          exact mk_turn f1 hG ha da (take_short hz) st' ht he
    · obtain ⟨G, ac, f1, hG, ha, da⟩ := p
      have ff : Fr0 H H1 G H' := f0.trans f1 fun p z => .inr (by rw [z]; exact f0.a.free hD)
      rw [hlen, List.take_length] at da
      exact q D ac G H' ff (f0.a.free hD) hG ha da
theorem range_get {n i : Nat} (h : i < n) : (List.range n)[i]? = some i := by simp [h]
/-- [e for k in range(n) if ..] -/
theorem eo_lcR {n : Nat} {k : Int} {ta : TA} (f : Nat → Bool) (w : Nat → PyData) {g : TG} {vs : List Nat} (h : EvA K ta env [.int k]) (hk : -100000 < k ∧ k < 100000) (hn : k.toNat = n) (turn : ∀ i : Nat, i < n → ∃ env', Tgw K vs g (wipeE env vs) (.int i) env' ∧ EvT K tt env' (f i) ∧ (f i = true → Ev K te env' (w i))) :
    EvO K (tLc (iRng1 ta) g tt te vs) env (((List.range n).filter f).map w) := fun σ H H1 st Q q => by
  refine h σ H H1 st _ fun ws G0 H2 f0 dv => ?_
  cases dv with
  | cons a b =>
    cases b; cases a
    refine ⟨k, rfl, by omega, by omega, fun D hD => ?_⟩
    have st0 := st.mono f0
    have nD : ∀ l, Ow (L2.wipe σ vs) (wipeE env vs) l → ¬ l = D := fun l z e => by
      have := (st0.owned (Ow.wipe z)).2
      exact this (by rw [e]; exact hD)
    have hz : (List.range n).length < 100000 := by rw [List.length_range]; omega
    refine lc_range (lo := 0) (n := k.toNat) (fun i H' => Mk K G0 H2 D ((((List.range n).take i).filter f).map w) H') (mk_start f0.r hD) (fun i H' hi p => ?_) (fun H' p => ?_)
    · obtain ⟨G, ac, f1, hG, ha, da⟩ := p
      have ex : (List.range n)[i]? = some i := range_get (by omega)
      obtain ⟨env', tg, ht, he⟩ := turn i (by omega)
      rw [Int.zero_add]
      refine tg _ G H' _ ((st0.wipe vs).monoW f1 nD) (.int _) _ fun σ' st' o hw => ⟨?_, ?_⟩
      · rw [hw]; exact wipe_wipe fun _ z => z
      · rw [filter_next ex]
        exact mk_turn f1 hG ha da (take_short hz) st' ht he
    · obtain ⟨G, ac, f1, hG, ha, da⟩ := p
      have ff : Fr0 H H1 G H' := f0.trans f1 fun p z => .inr (by rw [z]; exact f0.a.free hD)
      rw [hn, List.take_of_length_le (by rw [List.length_range]; exact Nat.le_refl _)] at da
      exact q D ac G H' ff (f0.a.free hD) hG ha da

/-! ### calls of defs -/
/-- a def that gives data back -/
def spG (K : PySem.W.Frag) (R : List PyData → PyData → Prop) : Sp := fun vs H1 Q _ => ∃ H ds d, Same H H1 ∧ DpAll K H vs ds ∧ R ds d ∧ ∀ v G H2, Fr0 H H1 G H2 → Dp K G v d → Q v H2
/-- .. a new list -/
def spL (K : PySem.W.Frag) (R : List PyData → List PyData → Prop) : Sp := fun vs H1 Q _ => ∃ H ds xs, Same H H1 ∧ DpAll K H vs ds ∧ R ds xs ∧ ∀ p ws G H2, Fr0 H H1 G H2 → H1 p = none → G p = none → H2 p = some (.lst ws) → DpAll K G ws xs → Q (.ref p) H2
/-- .. data, or raises -/
def spX (K : PySem.W.Frag) (R : List PyData → PyData → Prop) (B : List PyData → Value → Prop) : Sp := fun vs H1 Q E => ∃ H ds, Same H H1 ∧ DpAll K H vs ds ∧ ((∃ d, R ds d ∧ ∀ v G H2, Fr0 H H1 G H2 → Dp K G v d → Q v H2) ∨ ∃ c, B ds c ∧ ∀ G H2, Fr0 H H1 G H2 → E c none H2)
/-- .. a new list, or raises -/
def spXL (K : PySem.W.Frag) (R : List PyData → List PyData → Prop) (B : List PyData → Value → Prop) : Sp := fun vs H1 Q E => ∃ H ds, Same H H1 ∧ DpAll K H vs ds ∧
  ((∃ xs, R ds xs ∧ ∀ p ws G H2, Fr0 H H1 G H2 → H1 p = none → G p = none → H2 p = some (.lst ws) → DpAll K G ws xs → Q (.ref p) H2) ∨ ∃ c, B ds c ∧ ∀ G H2, Fr0 H H1 G H2 → E c none H2)
variable {R : List PyData → PyData → Prop} {RL : List PyData → List PyData → Prop} {B : List PyData → Value → Prop} {E : L2.St → XK} {aa : TA}
theorem ev_call (ha : EvA K aa env ds) (hr : R ds d) : Ev K (tCallS (spG K R) E aa) env d := fun σ H H1 st Q q =>
  ha σ H H1 st _ fun vs G H2 f dv => ⟨G, ds, d, f.r, dv, hr, fun v G3 H3 f3 d3 => q v G3 H3 (f.tr0 f3) d3⟩
theorem eo_call (ha : EvA K aa env ds) (hr : RL ds xs) : EvO K (tCallS (spL K RL) E aa) env xs := fun σ H H1 st Q q =>
  ha σ H H1 st _ fun vs G H2 f dv => ⟨G, ds, xs, f.r, dv, hr, fun p ws G3 H3 f3 h1 h2 h3 d3 => q p ws G3 H3 (f.tr0 f3) (f.a.free h1) h2 h3 d3⟩
theorem ev_callX (ha : EvA K aa env ds) (hr : R ds d) : Ev K (tCallS (spX K R B) E aa) env d := fun σ H H1 st Q q =>
  ha σ H H1 st _ fun vs G H2 f dv => ⟨G, ds, f.r, dv, .inl ⟨d, hr, fun v G3 H3 f3 d3 => q v G3 H3 (f.tr0 f3) d3⟩⟩
theorem eo_callX (ha : EvA K aa env ds) (hr : RL ds xs) : EvO K (tCallS (spXL K RL B) E aa) env xs := fun σ H H1 st Q q =>
  ha σ H H1 st _ fun vs G H2 f dv => ⟨G, ds, f.r, dv, .inl ⟨xs, hr, fun p ws G3 H3 f3 h1 h2 h3 d3 => q p ws G3 H3 (f.tr0 f3) (f.a.free h1) h2 h3 d3⟩⟩
/-- an exception leaves the expression -/
def EvX (K : PySem.W.Frag) (X : WX) (te : TE) (env : List SV) (c : Value) : Prop := ∀ σ H H1, Stt K H H1 σ env → ∀ Q : VK, (∀ G H2, Fr0 H H1 G H2 → X c none σ H2) → te σ H1 Q
def EvXA (K : PySem.W.Frag) (X : WX) (ta : TA) (env : List SV) (c : Value) : Prop := ∀ σ H H1, Stt K H H1 σ env → ∀ Q : List V → Hp → Prop, (∀ G H2, Fr0 H H1 G H2 → X c none σ H2) → ta σ H1 Q
variable {c : Value}
theorem evx_call (ha : EvA K aa env ds) (hb : B ds c) : EvX K X (tCallS (spX K R B) (WE X) aa) env c := fun σ H H1 st Q q =>
  ha σ H H1 st _ fun vs G H2 f dv => ⟨G, ds, f.r, dv, .inr ⟨c, hb, fun G3 H3 f3 => q G3 H3 (f.tr0 f3)⟩⟩
theorem evx_callL (ha : EvA K aa env ds) (hb : B ds c) : EvX K X (tCallS (spXL K RL B) (WE X) aa) env c := fun σ H H1 st Q q =>
  ha σ H H1 st _ fun vs G H2 f dv => ⟨G, ds, f.r, dv, .inr ⟨c, hb, fun G3 H3 f3 => q G3 H3 (f.tr0 f3)⟩⟩
theorem evx_op2 {r : R2} (ha : Ev K ta env d) (hb : EvX K X tb env c) : EvX K X (tOp r ta tb) env c := fun σ H H1 st Q q =>
  ha σ H H1 st _ fun v G H2 f dv => hb σ G H2 (st.mono f) _ fun G3 H3 f3 => q G3 H3 (f.tr0 f3)
theorem evx_op1 {r : R2} (ha : EvX K X ta env c) : EvX K X (tOp r ta tb) env c := fun σ H H1 st Q q => ha σ H H1 st _ q
theorem evx_head {tr : TA} (ha : EvX K X ta env c) : EvXA K X (tCons ta tr) env c := fun σ H H1 st Q q => ha σ H H1 st _ q
theorem evx_tail {tr : TA} (ha : Ev K ta env d) (hr : EvXA K X tr env c) : EvXA K X (tCons ta tr) env c := fun σ H H1 st Q q =>
  ha σ H H1 st _ fun v G H2 f dv => hr σ G H2 (st.mono f) _ fun G3 H3 f3 => q G3 H3 (f.tr0 f3)
theorem evx_cb {r : List V → Hp → VK → Prop} (ha : EvXA K X aa env c) : EvX K X (tCB r aa) env c := fun σ H H1 st Q q => ha σ H H1 st _ q
theorem evx_tup (ha : EvXA K X aa env c) : EvX K X (tTup aa) env c := fun σ H H1 st Q q => ha σ H H1 st _ q
theorem evx_args {sp : Sp} (ha : EvXA K X aa env c) : EvX K X (tCallS sp E aa) env c := fun σ H H1 st Q q => ha σ H H1 st _ q
theorem sx_outD (h : EvX K X te env c) : Sx K X (tDrop te) env (.ex c env) := fun σ H H1 st D q => h σ H H1 st _ fun G H2 f => q σ G H2 (f.mono fun _ z => z.elim) (st.mono f) fun l z => .inl z
theorem sx_outR (h : EvX K X te env c) : Sx K X (tRet te) env (.ex c env) := fun σ H H1 st D q => h σ H H1 st _ fun G H2 f => q σ G H2 (f.mono fun _ z => z.elim) (st.mono f) fun l z => .inl z
theorem sx_outS {g : TG} (h : EvX K X te env c) : Sx K X (tAsg te g) env (.ex c env) := fun σ H H1 st D q => h σ H H1 st _ fun G H2 f => q σ G H2 (f.mono fun _ z => z.elim) (st.mono f) fun l z => .inl z

/-! ### try -/
def Oc.isEx : Oc → Bool
  | .ex _ _ => true
  | _ => false
theorem OcOk.wx {X' : WX} {W : Addr → Prop} {D : Ends} {H H1 : Hp} (h : OcOk K X W D H H1 oc) (e : oc.isEx = false) : OcOk K X' W D H H1 oc := by
  cases oc <;> first | exact h | cases e
theorem sx_try_ok {cl : Value} {tbb : WX → TS} {tss : Addr → Value → Option Addr → TS} (h : ∀ X', Sx K X' (tbb X') env oc) (e : oc.isEx = false) : Sx K X (fun D σ H => tbb (wOnly K cl tss X D) D σ H) env oc := fun σ H H1 st D q =>
  h _ σ H H1 st D (q.wx e)
theorem sx_try_ex {cl c : Value} {tbb : WX → TS} {tss : Addr → Value → Option Addr → TS} (h : ∀ X', Sx K X' (tbb X') env (.ex c env1)) (hm : PySem.W.exmOne K c cl = some true) (hs : ∀ a, Sx K X (tss a c none) env1 oc) : Sx K X (fun D σ H => tbb (wOnly K cl tss X D) D σ H) env oc := fun σ H H1 st D q =>
  h _ σ H H1 st D fun σ' G H2 f st' o => ⟨true, hm, fun _ a _ => hs a σ' G H2 st' D (q.tr f o), fun z => nomatch z⟩
theorem sx_try_by {cl c : Value} {tbb : WX → TS} {tss : Addr → Value → Option Addr → TS} (h : ∀ X', Sx K X' (tbb X') env (.ex c env1)) (hm : PySem.W.exmOne K c cl = some false) : Sx K X (fun D σ H => tbb (wOnly K cl tss X D) D σ H) env (.ex c env1) := fun σ H H1 st D q =>
  h _ σ H H1 st D fun σ' G H2 f st' o => ⟨false, hm, (fun z => nomatch z), fun _ => q σ' G H2 f st' o⟩

/-! ### a def's whole body -/
theorem ow_none {σ : L2.St} (h : ∀ s ∈ env, s.isOwn = false) {l : Addr} (w : Ow σ env l) : False := by
  obtain ⟨i, s, a, b, _⟩ := w
  rw [h s (List.mem_of_getElem? a)] at b
  cases b
theorem stt_start {H H1 : Hp} {N : List Str} {vs : List V} {n : Nat} (s : Same H H1) (dv : DpAll K H vs ds) (hn : N.length - ds.length = n) : Stt K H H1 (L2.start N vs) (ds.map .dat ++ List.replicate n .no) := by
  have e0 : N.length - vs.length = n := by rw [dpa_len dv]; exact hn
  refine ⟨s, ?_, fun i o sv a b => ?_, fun i j s1 s2 l _ b1 _ o1 _ _ => ?_⟩
  · unfold L2.start
    rw [e0, List.length_append, List.length_append, List.length_map, List.length_map, List.length_replicate, List.length_replicate, dpa_len dv]
  · by_cases hi : i < ds.length
    · rw [List.getElem?_append_left (by rw [List.length_map]; exact hi), List.getElem?_map, List.getElem?_eq_getElem hi] at b
      obtain rfl := Option.some.inj b
      obtain ⟨v, e1, e2⟩ := dpa_at dv (List.getElem?_eq_getElem hi)
      unfold L2.start at a
      rw [List.getElem?_append_left (by rw [List.length_map, dpa_len dv]; exact hi), List.getElem?_map, e1] at a
      obtain rfl := Option.some.inj a
      exact ⟨v, rfl, e2⟩
    · rw [List.getElem?_append_right (by rw [List.length_map]; omega)] at b
      obtain ⟨_, rfl⟩ := List.mem_replicate.mp (List.mem_of_getElem? b)
      trivial
  · have m := List.mem_of_getElem? b1
    rcases List.mem_append.mp m with m | m
    · obtain ⟨d, _, rfl⟩ := List.mem_map.mp m; cases o1
    · obtain ⟨_, rfl⟩ := List.mem_replicate.mp m; cases o1
theorem run {H H1 : Hp} {N : List Str} {vs : List V} {n : Nat} {D : Ends} (s : Same H H1) (dv : DpAll K H vs ds) (hn : N.length - ds.length = n) (h : Sx K X t (ds.map .dat ++ List.replicate n .no) oc) (q : OcOk K X (fun _ => False) D H H1 oc) : t D (L2.start N vs) H1 := by
  have st := stt_start (N := N) s dv hn
  refine h _ H H1 st D (q.tr (Fr.refl s) fun p z => (ow_none (fun sv m => ?_) z).elim)
  rcases List.mem_append.mp m with m | m
  · obtain ⟨d, _, rfl⟩ := List.mem_map.mp m; rfl
  · obtain ⟨_, rfl⟩ := List.mem_replicate.mp m; rfl
end
theorem pass0S {X : Cx} {σ : L2.St} {E : XK} : PassesAt CX0 X σ E := fun _ _ _ _ _ _ h => h.elim
end Pf

namespace Pf
open PySem PySem.Spec PyProof.Rows L2

section
variable {X : Cx}
/-! ### sets of whole numbers: a comprehension; set(a tuple) -/
/-- {e for target in source if ..} -/
def tSi (w : World) (wi : TI) (g : TG) (tt : TT) (te : TE) (vs : List Nat) : TE := fun σ H Q => wi σ H fun J G =>
  ∀ D, G D = none → ∃ W : Nat → Nat → Hp → Prop, (∃ k, W 0 k (upd G D (SetO w D (fun _ => false) 0))) ∧
    ∀ i k H, W i k H → (J.stop i H ∧ Q (.ref D) H) ∨ (J.go i H ∧ ∃ Nx : Hp → Prop, (∀ H', Nx H' → ∃ k', k' < k ∧ W (i + 1) k' H') ∧
      ∀ x H', J.yld i H x H' → g x (wipe σ vs) H' fun σ' Ha => wipe σ' vs = wipe σ vs ∧
        tt σ' Ha fun b Hb => if b = true then te σ' Hb fun y Hc => ∃ (z : Int) (S : Int → Bool) (n : Nat), y = .int z ∧ Hc D = some (SetO w D S n) ∧ n + 1 < scanBound ∧
          Nx (upd Hc D (SetO w D (fun j => S j || decide (j = z)) (if S z = true then n else n + 1))) else Nx Hb)
theorem add_si {pins : List (Addr × Obj)} {σ : L2.St} {H : Hp} {s : Shared} {E : Value → Shared → Prop} {D : Addr} {S : Int → Bool} {n : Nat} {z : Int} {tk : Tok} {Q : Value → Shared → Prop}
    (I : Inv X pins σ H s) (hD : H D = some (SetO X.w D S n)) (room : n + 1 < scanBound)
    (k : ∀ s', Inv X pins σ (upd H D (SetO X.w D (fun j => S j || decide (j = z)) (if S z = true then n else n + 1))) s' → Q .none s') :
    wpAny (model X.prog X.w) X.A (call (.builtin "set.add") [.ref D, .int z tk]) Q E s :=
  setR_add (setO_get I hD) room fun h' same R => by
    obtain ⟨o, _, _, _, eo, _⟩ := id R
    exact k _ (I.write (e := D) (t' := s.toks + 1) (by rw [hD]; trivial) (.inl rfl) (fun b u nb e => (same.2 b nb).trans e) ⟨o, eo⟩ (setO_new R))
set_option maxHeartbeats 4000000 in
theorem pe_si {elt tg iter : Expr} {ifs : List Expr} {scope : Scope} {own : List (PySem.Str × Nat)} {pos : Pos} {wi : TI} {g : TG} {tt : TT} {te : TE}
    (hc : X.calm = true) (hN : X.N.Nodup) (src : PI X tg iter wi) (bk : BlkOk X.N X.env.scope scope own)
    (pgs : ∀ (s : Shared) (H : Hp) (C : Addr) (cl : List (PySem.Str × Addr)) (fp : List Addr), PG (X.blk s H scope (compEnvC scope cl C X.env) fp) tg g)
    (pts : ∀ (s : Shared) (H : Hp) (C : Addr) (cl : List (PySem.Str × Addr)) (fp : List Addr), PTs (X.blk s H scope (compEnvC scope cl C X.env) fp) ifs tt)
    (pes : ∀ (s : Shared) (H : Hp) (C : Addr) (cl : List (PySem.Str × Addr)) (fp : List Addr), PE (X.blk s H scope (compEnvC scope cl C X.env) fp) elt te)
    (nofold : ∀ x, foldedSetIterable iter X.env x = pure x := by intro _; rfl) :
    PE X (.SetComp elt [⟨tg, iter, ifs, 0⟩] scope pos) (tSi X.w wi g tt te (own.map (·.2))) := by
  refine ⟨fun pins s σ H Q I rd => ?_⟩
  rw [PpSet.eval_SetComp]
  have caught : ∀ y ∈ scope.names, y.2 = .free → ∃ c, X.env.cells.lookup y.1 = some c := fun y my ey =>
    (bk.free y my ey).elim (fun z => I.ok.has _ (.inl z)) fun z => I.ok.has _ (.inr z)
  refine wpAny_comprehension_free (use := none) rfl nofold (closure_ok caught) bk.kind (fun y my ey => by rw [bk.uniq y my, ey]) (thn (src.run pins s σ H _ I rd) fun v0 s1 r1 => thn r1 fun v1 s2 r2 => ?_)
  obtain ⟨it, fp, tn, J, Ha, rfl, Ia, Tn, tn0, fpa, more⟩ := r2
  refine PpSet.newSet_ok (newEnv_comp ?_)
  generalize eD : s2.heap.objs.size = D
  obtain ⟨W, ⟨k0, w0⟩, turns⟩ := more D (Ia.hok.fresh (Nat.le_of_eq eD))
  generalize e3 : ({ s2 with heap := s2.heap.push { cls := .type "set", dict := none, data := .set #[] 0 (.fresh 0 0 (!X.w.params.followText "set-order")) } } : Shared) = s3
  have Ib : Inv X pins σ (upd Ha D (SetO X.w D (fun _ => false) 0)) s3 := by
    subst e3
    refine Ia.laid (t' := s2.toks) (fun b o q => Heap.get?_push_of_some _ q) (Nat.le_of_eq eD) ?_
    subst eD
    exact setO_new (setR_fresh X.w)
  have q3 : s3.heap = s2.heap.push { cls := .type "set", dict := none, data := .set #[] 0 (.fresh 0 0 (!X.w.params.followText "set-order")) } := by subst e3; rfl
  have young : ∀ b ∈ fp, b < s2.heap.objs.size := fun b mb => by
    obtain ⟨o, eo, _⟩ := Tn.obj _ _ tn0 b mb
    exact Heap.lt_size eo
  have fpb : ∀ b ∈ fp, FpOk X pins (upd Ha D (SetO X.w D (fun _ => false) 0)) b ∧ b < s3.heap.objs.size := fun b mb => by
    have lt := young b mb
    have nb : b ≠ D := by rw [← eD]; exact Nat.ne_of_lt lt
    exact ⟨⟨by rw [upd_ne nb]; exact (fpa b mb).1, (fpa b mb).2⟩, by rw [q3, Heap.size_push]; exact Nat.lt_succ_of_lt lt⟩
  have tn3 : tn 0 s3.heap := Tn.keep _ _ _ tn0 fun b _ o eo => by rw [q3]; exact Heap.get?_push_of_some _ eo
  have Ic := block_start Ib bk hN fpb
  have kg := pgs s3 (upd Ha D (SetO X.w D (fun _ => false) 0)) s3.heap.objs.size (cellsFrom (s3.heap.objs.size + 1) scope.names (cloFrom X.env.cells scope.names [])) fp
  have kt := pts s3 (upd Ha D (SetO X.w D (fun _ => false) 0)) s3.heap.objs.size (cellsFrom (s3.heap.objs.size + 1) scope.names (cloFrom X.env.cells scope.names [])) fp
  have ke := pes s3 (upd Ha D (SetO X.w D (fun _ => false) 0)) s3.heap.objs.size (cellsFrom (s3.heap.objs.size + 1) scope.names (cloFrom X.env.cells scope.names [])) fp
  have nfp : ∀ b ∈ fp, (upd Ha D (SetO X.w D (fun _ => false) 0)) b = none := fun b mb => (fpb b mb).1.1
  show codeAny _ _ (.compStart (.SetComp elt [⟨tg, iter, ifs, 0⟩] scope pos) 0 (.ref it) (.ref D) (compEnvC scope (cellsFrom (s3.heap.objs.size + 1) scope.names (cloFrom X.env.cells scope.names [])) s3.heap.objs.size X.env))
    (compPost (model X.prog X.w) X.A X.xe none (EP X pins σ Q) (.ref D) s3.heap.objs.size) { s3 with heap := pushCells (s3.heap.push { cls := .type "dict", data := .dict #[] }) scope.names }
  generalize ec : compEnvC scope (cellsFrom (s3.heap.objs.size + 1) scope.names (cloFrom X.env.cells scope.names [])) s3.heap.objs.size X.env = cenv at Ic kg kt ke ⊢
  have locs : cenv.locals = s3.heap.objs.size := by subst ec; rfl
  generalize eH : upd Ha D (SetO X.w D (fun _ => false) 0) = Hs at Ib Ic kg kt ke w0 nfp fpb
  generalize e4 : ({ s3 with heap := pushCells (s3.heap.push { cls := .type "dict", data := .dict #[] }) scope.names } : Shared) = s4 at Ic ⊢
  have tn4 : tn 0 s4.heap := Tn.keep _ _ _ tn3 fun b _ o eo => by subst e4; exact pushCells_keeps _ _ _ _ (Heap.get?_push_of_some _ eo)
  have still : ∀ {τ : L2.St} {Hx : Hp} {sx : Shared}, Inv (X.blk s3 Hs scope cenv fp) [] τ Hx sx → (∀ b ∈ fp, Hx b = none) → ∀ b ∈ fp, FpOk (X.blk s3 Hs scope cenv fp) [] Hx b := fun {τ Hx sx} Ix nx b mb =>
    ⟨nx b mb, (Ix.ok.exf b mb).1, Ix.ok.exfs b mb, .inl mb, (fun x c ex => (Ix.ok.exf b mb).2 x c ex), fun p mp => absurd (show p ∈ ([] : List (Addr × Obj)) ++ [] from mp) (by simp)⟩
  have walk : codeAny (model X.prog X.w) X.A (.compLoop (.SetComp elt [⟨tg, iter, ifs, 0⟩] scope pos) 0 (.ref it) (.ref D) cenv) (compPost (model X.prog X.w) X.A X.xe none (EP X pins σ Q) (.ref D) s3.heap.objs.size) s4 := by
    refine PpSet.compLoopS_any (fun k sx => ∃ i Hx, Inv (X.blk s3 Hs scope cenv fp) [] (wipe σ (own.map (·.2))) Hx sx ∧ tn i sx.heap ∧ (∀ b ∈ fp, Hx b = none) ∧ W i k Hx) ?_ k0 ⟨0, Hs, Ic, tn4, nfp, w0⟩
    rintro k s5 ⟨i, H5, I5, tn5, n5, w5⟩
    rcases turns i k H5 w5 with ⟨stop, q⟩ | ⟨go, Nx, down, step⟩
    · refine thnF (Tn.done (X.blk s3 Hs scope cenv fp) rfl rfl rfl hc i [] s5 _ H5 (fun _ _ => False) I5 (still I5 n5) tn5 stop) fun r s6 ⟨er, I6⟩ => ?_
      subst er
      have I7 : Inv X pins σ H5 s6 := Ib.call' (ch := fp) I6.os I6.base I6.hok I6.bare fun b mb => ⟨(fpb b mb).1.2.2.2.1, (fpb b mb).1.2.1, (fpb b mb).1.2.2.2.2.1, (fpb b mb).1.2.2.2.2.2⟩
      have gone : H5 s3.heap.objs.size = none := by
        have z : H5 cenv.locals = none := I6.free
        rw [locs] at z; exact z
      obtain ⟨mm, ns, _⟩ := I6.loc
      have ns : s6.heap.Ns cenv.locals mm := ns
      rw [locs] at ns
      obtain ⟨f0, f1, f2, f3, f4, f5⟩ := Ib.fpOk (Nat.le_refl _) gone
      exact ⟨mm, ns, fun h'' sb => ⟨.ref D, H5, I7.turned (t' := s6.toks) (fun b o nb eo => (sb.2 b nb).trans eo) f0 f1 f3 f4 f5, rfl, q⟩⟩
    · refine thnF (Tn.item (X.blk s3 Hs scope cenv fp) rfl rfl rfl hc i [] s5 _ H5 (fun _ _ => False) I5 (still I5 n5) tn5 go) fun r s6 ⟨u, er, r6⟩ => ?_
      subst er
      refine thnF r6 fun _ s7 ⟨x, H7, I7, r7, y7, tn7, n7⟩ => ?_
      refine thnF (kg.run _ s7 _ H7 x u _ (I7.pinned (still I7 n7) (Tn.obj _ _ tn7)) r7 (step x H7 y7)) fun _ s8 ⟨σ8, H8, I8, ew, q8⟩ => ?_
      refine thnF (kt.run _ s8 σ8 H8 _ I8 q8) fun b s9 ⟨H9, I9, q9⟩ => ?_
      have back : ∀ {sx : Shared} {Hx : Hp}, Inv (X.blk s3 Hs scope cenv fp) ([] ++ pinsAt fp s7.heap) σ8 Hx sx → Nx Hx → ∃ k', k' < k ∧ ∃ i Hx, Inv (X.blk s3 Hs scope cenv fp) [] (wipe σ (own.map (·.2))) Hx sx ∧ tn i sx.heap ∧ (∀ b ∈ fp, Hx b = none) ∧ W i k' Hx := fun {sx Hx} Ix nx => by
        obtain ⟨k', lt, w'⟩ := down Hx nx
        have pinned : ∀ b ∈ fp, ∀ o, s7.heap.get? b = some o → sx.heap.get? b = some o ∧ Hx b = none := fun b mb o eo =>
          let z := Ix.pin (b, o) (List.mem_append_right _ (List.mem_append_right _ (mem_pinsAt mb eo)))
          ⟨z.1, z.2.1⟩
        have len : (wipe σ (own.map (·.2))).length = σ8.length := by rw [← ew, wipe_length]
        refine ⟨k', lt, i + 1, Hx, (Ix.unpinned (pins := [])).weak len (fun j v ej => ?_), Tn.keep _ _ _ tn7 fun b mb o eo => (pinned b mb o eo).1, fun b mb => ?_, w'⟩
        · rw [← ew] at ej; exact (wipe_some ej).1
        · obtain ⟨o, eo, _⟩ := Tn.obj _ _ tn7 b mb
          exact (pinned b mb o eo).2
      cases b with
      | false => exact back I9 q9
      | true =>
        refine thnF (ke.run _ s9 σ8 H9 _ I9 q9) fun uv s10 ⟨yv, H10, I10, r10, z, S0, m0, ey, hD10, room, nx⟩ => ?_
        subst ey
        obtain ⟨tk, rfl⟩ := r10
        exact add_si (X := X.blk s3 Hs scope cenv fp) I10 hD10 room fun s11 I11 => back I11 nx
  exact PpSet.codeAny_compStart_set walk (Tn.self X.A 0 _ _ _ tn4 walk)
/-- set(a tuple of whole numbers) -/
def rSetT (K : PySem.W.Frag) (w : World) : List V → Hp → VK → Prop := fun vs H Q => ∃ (p : Addr) (ns : List Int), vs = [.ref p] ∧ SqT K H p (ns.map V.int) ∧ ns.length ≤ 1000 ∧
  ∀ (q : Addr) (c : Nat), H q = none → c ≤ ns.length → Q (.ref q) (upd H q (SetO w q (fun j => decide (j ∈ ns)) c))
theorem ints_are : ∀ {ns : List Int} {us : List Value}, Vals (ns.map V.int) us → IntsAre us ns
  | [], _, .nil => .nil
  | n :: r, _, .cons ⟨t, e⟩ b => by subst e; exact .cons n t (ints_are b)
theorem cr_setT (hc : X.calm = true) : CallR X (.type "set") (rSetT X.K X.w) := by
  intro pins s σ H vs us Q I rv rd
  obtain ⟨p, ns, rfl, ht, hz, q⟩ := rd
  rw [Vals.ref1 rv]
  obtain ⟨its, r, tp, _⟩ := I.tuple ht
  have bound : ns.length + 1 < scanBound := Nat.lt_of_le_of_lt (Nat.succ_le_succ hz) (by decide)
  refine call_set_tupI ns (I.ok.hd hc) tp (by exact ints_are r) bound fun h' tk c R hcn keep => ?_
  exact ⟨.ref _, _, I.laid (t' := tk) keep (Nat.le_refl _) (setO_new R), rfl, q _ c (I.hok.fresh (Nat.le_refl _)) hcn⟩
end

section
variable {K : PySem.W.Frag} {w : World} {X : WX} {env env1 : List SV} {ta tb te tl : TE} {tt : TT} {d e : PyData} {xs ys ds : List PyData} {S : Int → Bool} {m : Nat}
/-- te gives a set of whole numbers, of at most m -/
def EvS (K : PySem.W.Frag) (w : World) (te : TE) (env : List SV) (S : Int → Bool) (m : Nat) : Prop := ∀ σ H H1, Stt K H H1 σ env → ∀ Q : VK, (∀ p n G H2, Fr0 H H1 G H2 → H2 p = some (SetO w p S n) → n ≤ m → Q (.ref p) H2) → te σ H1 Q
theorem es_setT {ns : List Int} (ha : Ev K ta env (.tuple (ns.map .int))) (hz : ns.length ≤ 1000) : EvS K w (tCB (rSetT K w) (tCons ta tNil)) env (fun j => decide (j ∈ ns)) ns.length := fun σ H H1 st Q q =>
  ha σ H H1 st _ fun v G H2 f d => by
    cases d with
    | @tup a vs _ ht hd =>
      have e := dpa_ints hd
      subst e
      exact ⟨a, ns, rfl, sqt f.r ht, hz, fun p c hp hcn => q p c G _ (f.tr0 (Fr.hid f.r hp)) upd_same hcn⟩
/-- two rising lists of the same members -/
theorem rising_one : ∀ {a b : List Int}, a.Pairwise (· < ·) → b.Pairwise (· < ·) → (∀ k, k ∈ a ↔ k ∈ b) → a = b
  | [], [], _, _, _ => rfl
  | [], y :: b, _, _, h => by have := (h y).2 List.mem_cons_self; cases this
  | x :: a, [], _, _, h => by have := (h x).1 List.mem_cons_self; cases this
  | x :: a, y :: b, ha, hb, h => by
    have ha' := List.pairwise_cons.mp ha
    have hb' := List.pairwise_cons.mp hb
    have exy : x = y := by
      rcases List.mem_cons.mp ((h x).1 List.mem_cons_self) with z | z
      · exact z
      · rcases List.mem_cons.mp ((h y).2 List.mem_cons_self) with u | u
        · exact u.symm
        · have := hb'.1 x z; have := ha'.1 y u; omega
    subst exy
    refine congrArg (x :: ·) (rising_one ha'.2 hb'.2 fun k => ⟨fun z => ?_, fun z => ?_⟩)
    · rcases List.mem_cons.mp ((h k).1 (List.mem_cons_of_mem _ z)) with u | u
      · have := ha'.1 k z; omega
      · exact u
    · rcases List.mem_cons.mp ((h k).2 (List.mem_cons_of_mem _ z)) with u | u
      · have := hb'.1 k z; omega
      · exact u
theorem eo_sortedS {L : List Int} (ha : EvS K w ta env S m) (hm : m < 64) (hp : L.Pairwise (· < ·)) (hL : ∀ k, k ∈ L ↔ S k = true) : EvO K (tCB (rSortedSet w) (tCons ta tNil)) env (L.map .int) := fun σ H H1 st Q q =>
  ha σ H H1 st _ fun p n G H2 f h2 hn => ⟨p, S, n, rfl, h2, by omega, fun ns r h3 h4 _ hr => by
    have e : ns = L := rising_one h3 hp fun k => (h4 k).trans (hL k).symm
    subst e
    exact q r _ G _ (f.tr0 (Fr.hid f.r hr)) (f.a.free hr) (f.r.free hr) upd_same (dpa_of_ints ns)⟩
/-- what a set comprehension has found behind some turns -/
def Fd (K : PySem.W.Frag) (w : World) (G0 H2 : Hp) (D : Addr) (ns : List Int) (H' : Hp) : Prop := ∃ G S n, Fr (fun p => p = D) G0 H2 G H' ∧ G D = none ∧ H' D = some (SetO w D S n) ∧ n ≤ ns.length ∧ ∀ k, S k = decide (k ∈ ns)
theorem take_next {α β : Type} {f : α → Bool} {v : α → β} {xs : List α} {i : Nat} {x : α} (h : xs[i]? = some x) : ((xs.take (i + 1)).filter f).map v = ((xs.take i).filter f).map v ++ (if f x = true then [v x] else []) := by
  rw [List.take_add_one, h, List.filter_append, List.map_append]
  show _ ++ List.map v (List.filter f [x]) = _
  cases e : f x with
  | true => rw [List.filter_cons, if_pos e]; rfl
  | false => rw [List.filter_cons, if_neg (by rw [e]; decide)]; rfl
theorem fd_turn {H2 H' G G0 : Hp} {D : Addr} {S : Int → Bool} {n : Nat} {ns : List Int} {z₀ : Int} {b : Bool} {σ2 : L2.St} (f : Fr (fun p => p = D) G0 H2 G H') (hG : G D = none) (ha : H' D = some (SetO w D S n)) (hn : n ≤ ns.length) (hS : ∀ k, S k = decide (k ∈ ns)) (hz : ns.length < 1000)
    (st : Stt K G H' σ2 env1) (ht : EvT K tt env1 b) (he : b = true → Ev K te env1 (.int z₀)) :
    tt σ2 H' fun k H3 => if k = true then te σ2 H3 fun y H4 => ∃ (z : Int) (S : Int → Bool) (n : Nat), y = .int z ∧ H4 D = some (SetO w D S n) ∧ n + 1 < scanBound ∧ Fd K w G0 H2 D (ns ++ (if b = true then [z₀] else [])) (upd H4 D (SetO w D (fun j => S j || decide (j = z)) (if S z = true then n else n + 1))) else Fd K w G0 H2 D (ns ++ (if b = true then [z₀] else [])) H3 := by
  refine ht σ2 G H' st _ fun G1 H3 f1 => ?_
  have D1 : G1 D = none := f1.n D (fun z => z) hG (by rw [ha]; exact fun z => nomatch z)
  cases b with
  | true =>
    show te σ2 H3 _
    refine he rfl σ2 G1 H3 (st.mono f1) _ fun y G2 H4 f2 d2 => ?_
    cases d2
    have a3 := f1.a _ _ ha
    have D2 : G2 D = none := f2.n D (fun z => z) D1 (by rw [a3]; exact fun z => nomatch z)
    have f3 := (f.tr0 f1).tr0 f2
    refine ⟨z₀, S, n, rfl, f2.a _ _ a3, Nat.lt_of_lt_of_le (by omega : n + 1 < 1002) (by decide), G2, _, _, ⟨f3.g, fun p o e => ?_, fun p o nw e => ?_, f3.n, fun p e => f3.m p (upd_none e)⟩, D2, upd_same, ?_, fun k => ?_⟩
    · rw [upd_ne (ne_of_none e D2)]; exact f3.r p o e
    · rw [upd_ne (show p ≠ D from nw)]; exact f3.s p o nw e
    · show _ ≤ (ns ++ [z₀]).length
      rw [List.length_append]
      split <;> (simp only [List.length_cons, List.length_nil]; omega)
    · show (S k || decide (k = z₀)) = decide (k ∈ ns ++ [z₀])
      rw [hS k, Bool.eq_iff_iff]
      simp only [Bool.or_eq_true, decide_eq_true_eq, List.mem_append, List.mem_singleton]
  | false =>
    show Fd K w G0 H2 D (ns ++ []) H3
    rw [List.append_nil]
    exact ⟨G1, S, n, f.tr0 f1, D1, f1.a _ _ ha, hn, hS⟩
theorem es_si {α : Type} (xs : List α) (en : α → PyData) (f : α → Bool) (v : α → Int) {g : TG} {vs : List Nat} (h : Ev K tl env (.list (xs.map en))) (hz : xs.length < 1000) (turn : ∀ x ∈ xs, ∃ env', Tgw K vs g (wipeE env vs) (en x) env' ∧ EvT K tt env' (f x) ∧ (f x = true → Ev K te env' (.int (v x)))) :
    EvS K w (tSi w (iList K tl) g tt te vs) env (fun k => decide (k ∈ (xs.filter f).map v)) xs.length := fun σ H H1 st Q q => by
  refine h σ H H1 st _ fun v0 G0 H2 f0 dv => ?_
  cases dv with
  | @lst a as _ hl hd =>
    refine ⟨a, rfl, ⟨as, f0.r.seq hl⟩, fun D hD => ?_⟩
    have st0 := st.mono f0
    have nD : ∀ l, Ow (L2.wipe σ vs) (wipeE env vs) l → ¬ l = D := fun l z e => by
      have := (st0.owned (Ow.wipe z)).2
      exact this (by rw [e]; exact hD)
    have hlen : as.length = xs.length := by rw [dpa_len hd, List.length_map]
    have short : ∀ i, (((xs.take i).filter f).map v).length ≤ xs.length := fun i => by
      rw [List.length_map]
      exact Nat.le_trans (List.length_filter_le _ _) (by rw [List.length_take]; omega)
    refine ⟨fun i k H' => k = xs.length - i ∧ i ≤ xs.length ∧ Fd K w G0 H2 D (((xs.take i).filter f).map v) H', ⟨xs.length, rfl, Nat.zero_le _, G0, _, 0, Fr.hid f0.r hD, f0.r.free hD, upd_same, Nat.zero_le _, fun k => by simp⟩, ?_⟩
    rintro i k H' ⟨rfl, hi, G, S, n, f1, hG, ha, hn, hS⟩
    have hq : SqL K H' a as := f1.r.seq (f1.g.seq hl)
    by_cases hlt : i < xs.length
    · have hia : i < as.length := by omega
      refine .inr ⟨⟨as, as[i], hq, List.getElem?_eq_getElem hia⟩, Fd K w G0 H2 D (((xs.take (i + 1)).filter f).map v), fun Hx p => ⟨xs.length - (i + 1), by omega, rfl, hlt, p⟩, fun x Hx y => ?_⟩
      obtain ⟨rfl, yx⟩ := y
      obtain ⟨d, e1, e2⟩ := dpa_get hd (yx as hq)
      rw [List.getElem?_map, List.getElem?_eq_getElem hlt] at e1
      obtain rfl := Option.some.inj e1
      obtain ⟨env', tg, ht, he⟩ := turn xs[i] (List.getElem_mem hlt)
      refine tg _ G Hx x ((st0.wipe vs).monoW f1 nD) (dm f1.g e2) _ fun σ' st' o hw => ⟨?_, ?_⟩
      · rw [hw]; exact wipe_wipe fun _ z => z
      · rw [take_next (List.getElem?_eq_getElem hlt)]
        exact fd_turn f1 hG ha hn hS (Nat.lt_of_le_of_lt (short i) hz) st' ht he
    · have ei : i = xs.length := by omega
      subst ei
      refine .inl ⟨⟨as, hq, by omega⟩, ?_⟩
      rw [List.take_length] at hn hS
      have ff : Fr0 H H1 G H' := f0.trans f1 fun p z => .inr (by rw [z]; exact f0.a.free hD)
      have eS : S = fun k => decide (k ∈ (xs.filter f).map v) := funext hS
      subst eS
      refine q D n G H' ff ha (Nat.le_trans hn ?_)
      have := short xs.length
      rwa [List.take_length] at this
end
end Pf

namespace Pf
open PySem PySem.Spec PyProof.Rows L2

section
variable {K : PySem.W.Frag} {X : WX} {env env1 env2 : List SV} {ta tb tc te tl th : TE} {t u ts : TS} {tt : TT} {d e : PyData} {i j : Int} {xs ys ds : List PyData} {oc : Oc}
/-! ### slices of lists -/
theorem ep_no : EvP K tNoPart env none := fun σ H H1 st Q q => q H H1 (Fr.refl st.e)
theorem ep_at (h : Ev K te env (.int i)) : EvP K (tPart te) env (some i) := fun σ H H1 st Q q => h σ H H1 st _ fun v G H2 f d => by cases d; exact ⟨i, rfl, q G H2 f⟩
def cutD (xs : List PyData) (lo hi : Option Int) : List PyData := (xs.drop (HT.sIx xs.length 0 lo)).take (HT.sIx xs.length xs.length hi - HT.sIx xs.length 0 lo)
theorem eo_slice {a b : TO} {lo hi : Option Int} (h : Ev K te env (.list xs)) (ha : EvP K a env lo) (hb : EvP K b env hi) : EvO K (tSl (rSlL K) te a b) env (cutD xs lo hi) := fun σ H H1 st Q q =>
  h σ H H1 st _ fun v G H2 f d => ha σ G H2 (st.mono f) _ fun G2 H3 f2 => hb σ G2 H3 ((st.mono f).mono f2) _ fun G3 H4 f3 => by
    cases d with
    | @lst a vs _ hl hd =>
      have ff := (f.tr0 f2).tr0 f3
      refine ⟨a, vs, rfl, f3.r.seq ((f2.g.trans f3.g).seq hl), fun p hp => ?_⟩
      refine q p _ G3 _ (ff.tr0 (Fr.hid f3.r hp)) (ff.a.free hp) (f3.r.free hp) upd_same ?_
      unfold cutV cutD
      rw [dpa_len hd]
      exact dpa_take _ (dpa_drop _ (dms (f2.g.trans f3.g) hd))
/-! ### in -/
def flatD : PyData → Bool
  | .none => true
  | .int _ => true
  | .str _ => true
  | _ => false
def eqF : PyData → PyData → Bool
  | .none, .none => true
  | .int i, .int j => decide (i = j)
  | .str x, .str y => decide (x = y)
  | _, _ => false
theorem flat_dp {H : Hp} {v : V} (h : Dp K H v d) (f : flatD d = true) : flatV v = true := by cases h <;> first | rfl | exact absurd f Bool.false_ne_true
theorem eqf_dp {H : Hp} {v w : V} (h : Dp K H v d) (k : Dp K H w e) (f : flatD d = true) (g : flatD e = true) : eqV v w = eqF d e := by
  cases h <;> cases k <;> first
    | exact absurd f Bool.false_ne_true
    | exact absurd g Bool.false_ne_true
    | rfl
    | (show (_ == _) = decide (_ = _); rw [Bool.eq_iff_iff]; simp)
theorem in_dp {H : Hp} {v : V} : ∀ {vs : List V} {ds : List PyData}, Dp K H v d → DpAll K H vs ds → flatD d = true → ds.all flatD = true → vs.all flatV = true ∧ inV v vs = ds.any fun z => eqF z d
  | _, _, _, .nil, _, _ => ⟨rfl, rfl⟩
  | _, _, h, .cons a b, f, g => by
    rw [List.all_cons, Bool.and_eq_true] at g
    obtain ⟨e1, e2⟩ := in_dp h b f g.2
    refine ⟨?_, ?_⟩
    · rw [List.all_cons, flat_dp a g.1, e1]; rfl
    · unfold inV at e2 ⊢
      rw [List.any_cons, List.any_cons, e2, eqf_dp a h g.1 f]
theorem ev_inT (ha : Ev K ta env d) (hb : Ev K tb env (.tuple ds)) (f : flatD d = true) (g : ds.all flatD = true) : Ev K (tOp (rIn K false) ta tb) env (.bool (ds.any fun z => eqF z d)) :=
  ev_op ha hb fun x y H H1 Q s d1 d2 q => by
    cases d2 with
    | tup hl hd =>
      obtain ⟨e1, e2⟩ := in_dp d1 hd f g
      refine ⟨_, _, rfl, .inr (sqt s hl), flat_dp d1 f, e1, ?_⟩
      show Q (.bl (inV x _)) H1
      rw [e2]; exact q _ H H1 (Fr.refl s) (.bl _)
theorem ev_inL (ha : Ev K ta env d) (hb : Ev K tb env (.list ds)) (f : flatD d = true) (g : ds.all flatD = true) : Ev K (tOp (rIn K false) ta tb) env (.bool (ds.any fun z => eqF z d)) :=
  ev_op ha hb fun x y H H1 Q s d1 d2 q => by
    cases d2 with
    | lst hl hd =>
      obtain ⟨e1, e2⟩ := in_dp d1 hd f g
      refine ⟨_, _, rfl, .inl (s.seq hl), flat_dp d1 f, e1, ?_⟩
      show Q (.bl (inV x _)) H1
      rw [e2]; exact q _ H H1 (Fr.refl s) (.bl _)
theorem ev_niT (ha : Ev K ta env d) (hb : Ev K tb env (.tuple ds)) (f : flatD d = true) (g : ds.all flatD = true) : Ev K (tOp (rIn K true) ta tb) env (.bool (!ds.any fun z => eqF z d)) :=
  ev_op ha hb fun x y H H1 Q s d1 d2 q => by
    cases d2 with
    | tup hl hd =>
      obtain ⟨e1, e2⟩ := in_dp d1 hd f g
      refine ⟨_, _, rfl, .inr (sqt s hl), flat_dp d1 f, e1, ?_⟩
      show Q (.bl (!inV x _)) H1
      rw [e2]; exact q _ H H1 (Fr.refl s) (.bl _)
theorem ev_niL (ha : Ev K ta env d) (hb : Ev K tb env (.list ds)) (f : flatD d = true) (g : ds.all flatD = true) : Ev K (tOp (rIn K true) ta tb) env (.bool (!ds.any fun z => eqF z d)) :=
  ev_op ha hb fun x y H H1 Q s d1 d2 q => by
    cases d2 with
    | lst hl hd =>
      obtain ⟨e1, e2⟩ := in_dp d1 hd f g
      refine ⟨_, _, rfl, .inl (s.seq hl), flat_dp d1 f, e1, ?_⟩
      show Q (.bl (!inV x _)) H1
      rw [e2]; exact q _ H H1 (Fr.refl s) (.bl _)
/-- data in a list of data -/
theorem ev_inD (ha : Ev K ta env d) (hb : Ev K tb env (.list ds)) (f : SeqAt.shaped d = true) (g : SeqAt.shaped (.list ds) = true) : Ev K (tOp (rInD K) ta tb) env (.bool (ds.any fun z => PyData.eqv z d)) :=
  ev_op ha hb fun x y H H1 Q s d1 d2 q => ⟨d, ds, dm s d1, dm s d2, f, g, q _ H H1 (Fr.refl s) (.bl _)⟩
/-- tuple + tuple -/
theorem ev_catT (ha : Ev K ta env (.tuple xs)) (hb : Ev K tb env (.tuple ys)) (hl : xs.length + ys.length ≤ 100000) : Ev K (tOp (rCatA K) ta tb) env (.tuple (xs ++ ys)) :=
  ev_op ha hb fun x y H H1 Q s d1 d2 q => by
    cases d1 with
    | @tup a vs _ l1 h1 =>
      cases d2 with
      | @tup b ws _ l2 h2 =>
        refine ⟨a, b, vs, ws, rfl, rfl, sqt s l1, sqt s l2, sz_ok (by rw [dpa_len h1, dpa_len h2]; exact hl), fun e => ?_, fun _ e => ?_, fun _ _ p hp => ?_⟩
        · subst e
          cases h1
          exact q _ H H1 (Fr.refl s) (.tup l2 h2)
        · subst e
          cases h2
          rw [List.append_nil] at q
          exact q _ H H1 (Fr.refl s) (.tup l1 h1)
        · have n : Fr0 H H1 (upd H p (.tup (vs ++ ws))) (upd H1 p (.tup (vs ++ ws))) := Fr.new s hp
          exact q _ _ _ n (.tup (.inl (.inl upd_same)) (dms n.g (dpa_app h1 h2)))
/-! ### for over a tuple -/
theorem sx_forT {g : TG} (h : Ev K tl env (.tuple ds)) (Inv : Nat → List SV) (h0 : Inv 0 = env) (go : ∀ (i : Nat) (d : PyData), ds[i]? = some d → ∃ env', Tg K g (Inv i) d env' ∧ Go K X t env' (Inv (i + 1))) : Sx K X (tFor (iTup K tl) g t) env (.nx (Inv ds.length)) := fun σ H H1 st D q => by
  refine h σ H H1 st _ fun v G0 H2 f dv => ?_
  cases dv with
  | @tup a vs _ hl hd =>
    have f' : Fr (Ow σ env) H H1 G0 H2 := f.mono fun _ z => z.elim
    have stay : ∀ {G H' : Hp}, Fr (Ow σ env) G0 H2 G H' → SqT K H' a vs := fun {G H'} f2 => sqt f2.r (sqt f2.g hl)
    refine ⟨a, rfl, ⟨vs, sqt f.r hl⟩, for_tup (K := K) (a := a) (xs := vs) (Pt K (Ow σ env) G0 H2 Inv) ⟨G0, Fr.refl f.r, by rw [h0]; exact st.mono f, fun l z => .inl (by rw [h0] at z; exact z)⟩ (fun i σ' H' _ p => ?_) (fun i x σ' H' hi p => ?_) (fun σ' H' p => ?_)⟩
    · obtain ⟨G, f2, _, _⟩ := p
      exact stay f2
    · obtain ⟨G, f2, st2, ow⟩ := p
      obtain ⟨d, e1, e2⟩ := dpa_get hd hi
      obtain ⟨env', tg, g1⟩ := go i d e1
      refine tg σ' G H' x st2 (dm f2.g e2) _ fun σ2 st3 o3 => ?_
      have ow3 : ∀ l, Ow σ2 env' l → Ow σ env l ∨ H2 l = none := fun l z => ow l (o3 l z)
      have nx : ∀ σ3 G3 H3, Fr (Ow σ2 env') G H' G3 H3 → Stt K G3 H3 σ3 (Inv (i + 1)) → (∀ l, Ow σ3 (Inv (i + 1)) l → Ow σ2 env' l ∨ H' l = none) → Pt K (Ow σ env) G0 H2 Inv (i + 1) σ3 H3 := fun σ3 G3 H3 f3 st4 o4 =>
        ⟨G3, f2.trans f3 ow3, st4, fun l z => (o4 l z).elim (ow3 l) fun z => .inr (f2.m l z)⟩
      rcases g1 with w | w
      · exact w σ2 G H' st3 _ nx
      · exact w σ2 G H' st3 _ nx
    · obtain ⟨G, f2, st2, ow⟩ := p
      rw [dpa_len hd] at st2 ow
      exact q σ' G H' (f'.trans f2 fun l z => .inl z) st2 fun l z => (ow l z).elim .inl fun z => .inr (f.m l z)
/-! ### try .. except X as n -/
theorem sx_tryas_ok {cl : Value} {n : Nat} {tbb : WX → TS} {tss : Addr → Value → Option Addr → TS} (h : ∀ X', Sx K X' (tbb X') env oc) (e : oc.isEx = false) : Sx K X (fun D σ H => tbb (wAs K cl n tss X D) D σ H) env oc := fun σ H H1 st D q =>
  h _ σ H H1 st D (q.wx e)
/-- the suite gives data back; its own name holds the exception -/
theorem sx_tryas_ret {cl c : Value} {n : Nat} {tbb : WX → TS} {tss : Addr → Value → Option Addr → TS} (h : ∀ X', Sx K X' (tbb X') env (.ex c env1)) (hm : PySem.W.exmOne K c cl = some true)
    (hs : ∀ a σ G H2, Stt K G H2 σ env1 → H2 a = none → ∀ (D : Ends), (∀ v G3 H3, Fr0 G H2 G3 H3 → Dp K G3 v d → D.rt v H3) → tss a c none D (σ.set n (some (.ref a))) H2) : Sx K X (fun D σ H => tbb (wAs K cl n tss X D) D σ H) env (.rt d) := fun σ H H1 st D q =>
  h _ σ H H1 st D fun σ' G H2 f st' o => ⟨true, hm, fun _ a ha => hs a σ' G H2 st' ha _ fun v G3 H3 f3 d3 => q v G3 H3 (f.tr0 f3) d3, fun z => nomatch z⟩
end
/-- steps of an evaluation -/
theorem cm1 {i j : Int} (h : -(2 ^ 64) < j ∧ j < 2 ^ 64) : CMul i j := .inr h
theorem cm0 {i j : Int} (h : -(2 ^ 64) < i ∧ i < 2 ^ 64) : CMul i j := .inl h
end Pf

namespace Pf
open PySem PySem.Spec PyProof.Rows L2
/-! ### data that == compares as it is -/
mutual
/-- no truth value, no dict within; texts as they may be -/
def nb : PyData → Bool
  | .none => true
  | .int _ => true
  | .str x => PyData.canLay0 (.str x)
  | .list xs => nbs xs
  | .tuple xs => nbs xs
  | _ => false
def nbs : List PyData → Bool
  | [] => true
  | x :: r => nb x && nbs r
end
mutual
theorem nb_lay : ∀ d : PyData, nb d = true → d.canLay0 = true
  | .none, _ => by simp [PyData.canLay0]
  | .int _, _ => by simp [PyData.canLay0]
  | .str x, h => by simpa [nb] using h
  | .list xs, h => by simp only [PyData.canLay0]; exact nbs_lay xs (by simpa [nb] using h)
  | .tuple xs, h => by simp only [PyData.canLay0]; exact nbs_lay xs (by simpa [nb] using h)
  | .bool _, h => by simp [nb] at h
  | .dict _, h => by simp [nb] at h
theorem nbs_lay : ∀ xs : List PyData, nbs xs = true → PyData.canLayAll0 xs = true
  | [], _ => by simp [PyData.canLayAll0]
  | x :: r, h => by
    have h' : nb x = true ∧ nbs r = true := by simpa [nbs] using h
    simp only [PyData.canLayAll0, nb_lay x h'.1, nbs_lay r h'.2, Bool.and_self]
end
mutual
theorem eqv_iff : ∀ d e : PyData, nb d = true → nb e = true → (PyData.eqv d e = true ↔ d = e)
  | .none, e, _, h => by cases e <;> simp_all [PyData.eqv, nb]
  | .int i, e, _, h => by cases e <;> simp_all [PyData.eqv, nb]
  | .str x, e, _, h => by cases e <;> simp_all [PyData.eqv, nb]
  | .list xs, e, g, h => by
    cases e with
    | list ys =>
      rw [PyData.eqv, eqvs_iff xs ys (by simpa [nb] using g) (by simpa [nb] using h)]
      simp
    | _ => simp_all [PyData.eqv, nb]
  | .tuple xs, e, g, h => by
    cases e with
    | tuple ys =>
      rw [PyData.eqv, eqvs_iff xs ys (by simpa [nb] using g) (by simpa [nb] using h)]
      simp
    | _ => simp_all [PyData.eqv, nb]
  | .bool _, _, g, _ => by simp [nb] at g
  | .dict _, _, g, _ => by simp [nb] at g
theorem eqvs_iff : ∀ xs ys : List PyData, nbs xs = true → nbs ys = true → (PyData.eqvAll xs ys = true ↔ xs = ys)
  | [], [], _, _ => by simp [PyData.eqvAll]
  | [], _ :: _, _, _ => by simp [PyData.eqvAll]
  | _ :: _, [], _, _ => by simp [PyData.eqvAll]
  | x :: xs, y :: ys, g, h => by
    have g' : nb x = true ∧ nbs xs = true := by simpa [nbs] using g
    have h' : nb y = true ∧ nbs ys = true := by simpa [nbs] using h
    rw [PyData.eqvAll, Bool.and_eq_true, eqv_iff x y g'.1 h'.1, eqvs_iff xs ys g'.2 h'.2]
    simp
end
/-- such data of at most this depth -/
def Sh (n : Nat) (d : PyData) : Prop := nb d = true ∧ d.depth ≤ n
theorem nbs_all : ∀ {xs : List PyData}, (∀ x ∈ xs, nb x = true) → nbs xs = true
  | [], _ => by simp [nbs]
  | x :: r, h => by
    simp only [nbs, Bool.and_eq_true]
    exact ⟨h x List.mem_cons_self, nbs_all fun y hy => h y (List.mem_cons_of_mem _ hy)⟩
theorem depths_all {n : Nat} : ∀ {xs : List PyData}, (∀ x ∈ xs, x.depth ≤ n) → PyData.depthAll xs ≤ n
  | [], _ => by simp [PyData.depthAll]
  | x :: r, h => by
    simp only [PyData.depthAll]
    have h1 := h x List.mem_cons_self
    have h2 := depths_all (n := n) (xs := r) fun y hy => h y (List.mem_cons_of_mem _ hy)
    omega
theorem sh_none {n : Nat} : Sh n .none := ⟨by simp [nb], by simp [PyData.depth]⟩
theorem sh_int {n : Nat} {i : Int} : Sh n (.int i) := ⟨by simp [nb], by simp [PyData.depth]⟩
theorem sh_tup {n : Nat} {xs : List PyData} (h : ∀ x ∈ xs, Sh n x) : Sh (n + 1) (.tuple xs) :=
  ⟨by simp only [nb]; exact nbs_all fun x hx => (h x hx).1, by simp only [PyData.depth]; exact Nat.succ_le_succ (depths_all fun x hx => (h x hx).2)⟩
theorem sh_lst {n : Nat} {xs : List PyData} (h : ∀ x ∈ xs, Sh n x) : Sh (n + 1) (.list xs) :=
  ⟨by simp only [nb]; exact nbs_all fun x hx => (h x hx).1, by simp only [PyData.depth]; exact Nat.succ_le_succ (depths_all fun x hx => (h x hx).2)⟩
theorem Sh.shaped {n : Nat} {d : PyData} (h : Sh n d) (hn : n ≤ 64) : SeqAt.shaped d = true := by
  show (d.canLay0 && decide (d.depth ≤ 64)) = true
  rw [nb_lay d h.1, decide_eq_true (Nat.le_trans h.2 hn)]; rfl
theorem sh_map {α : Type} {n : Nat} {f : α → PyData} {l : List α} (h : ∀ x ∈ l, Sh n (f x)) : ∀ y ∈ l.map f, Sh n y := fun y hy => by
  obtain ⟨x, hx, rfl⟩ := List.mem_map.mp hy
  exact h x hx
theorem sh2 {n : Nat} {a b : PyData} (ha : Sh n a) (hb : Sh n b) : Sh (n + 1) (.tuple [a, b]) := sh_tup fun x hx => by
  rcases List.mem_cons.mp hx with z | z
  · rw [z]; exact ha
  · rw [List.mem_singleton.mp z]; exact hb
theorem sh3 {n : Nat} {a b c : PyData} (ha : Sh n a) (hb : Sh n b) (hc : Sh n c) : Sh (n + 1) (.tuple [a, b, c]) := sh_tup fun x hx => by
  rcases List.mem_cons.mp hx with z | z
  · rw [z]; exact ha
  · rcases List.mem_cons.mp z with z | z
    · rw [z]; exact hb
    · rw [List.mem_singleton.mp z]; exact hc
/-- == of such data is equality -/
theorem eqv_dec {d e : PyData} {n m : Nat} (h : Sh n d) (k : Sh m e) {p : Prop} [Decidable p] (hp : p ↔ d = e) : PyData.eqv d e = decide p := by
  rw [Bool.eq_iff_iff, eqv_iff d e h.1 k.1, decide_eq_true_eq]; exact hp.symm
theorem map_inj {α : Type} {f : α → PyData} (hf : ∀ x y, f x = f y → x = y) {a b : List α} (h : a.map f = b.map f) : a = b := by
  induction a generalizing b with
  | nil => cases b with
    | nil => rfl
    | cons y r => cases h
  | cons x r ih => cases b with
    | nil => cases h
    | cons y s =>
      rw [List.map_cons, List.map_cons] at h
      injection h with h1 h2
      rw [hf x y h1, ih h2]
end Pf
namespace Pf
open PySem PySem.Spec PyProof.Rows L2
section
variable {K : PySem.W.Frag} {X : WX} {env env1 env2 : List SV} {te ta : TE} {t : TS} {tt : TT} {d : PyData} {xs : List PyData} {oc : Oc}
/-- less is known -/
inductive Less : List SV → List SV → Prop where
  | nil : Less [] []
  | keep {s : SV} {a b : List SV} : Less a b → Less (s :: a) (s :: b)
  | drop {s : SV} {a b : List SV} : Less a b → Less (.no :: a) (s :: b)
theorem Less.len : ∀ {a b : List SV}, Less a b → a.length = b.length
  | _, _, .nil => rfl
  | _, _, .keep h => congrArg Nat.succ h.len
  | _, _, .drop h => congrArg Nat.succ h.len
theorem Less.at : ∀ {a b : List SV}, Less a b → ∀ (i : Nat) s, a[i]? = some s → s = .no ∨ b[i]? = some s
  | _, _, .nil, i, s, h => by simp at h
  | _, _, .keep h, 0, s, e => .inr e
  | _, _, .keep h, i + 1, s, e => h.at i s (by simpa using e)
  | _, _, .drop h, 0, s, e => .inl (by simpa using e.symm)
  | _, _, .drop h, i + 1, s, e => h.at i s (by simpa using e)
theorem sx_lessL (l : Less env1 env) (k : Sx K X t env1 oc) : Sx K X t env oc := sx_less l.len l.at k
theorem go_less (k : Sx K X t env (.nx env1)) (l : Less env2 env1) : Go K X t env env2 := .inl (sx_nx_less l.len l.at k)
theorem nx_less (k : Sx K X t env (.nx env1)) (l : Less env2 env1) : Sx K X t env (.nx env2) := sx_nx_less l.len l.at k
theorem et_fix {b : Bool} (i : Nat) (h : env[i]? = some (.own xs)) (k : EvT K tt (env.set i (.dat (.list xs))) b) : EvT K tt env b := fun σ H H1 st Q q => by
  obtain ⟨l, vs, a, b, c, st'⟩ := st.freeze h
  exact k σ _ H1 st' Q fun G H2 f => q H H2 ⟨Same.refl _, (newS b).trans (f.g.trans f.r), f.s, fun _ _ z _ => z, f.m⟩
/-- tuple(a list of data) -/
theorem ev_tupleD (ha : Ev K ta env (.list xs)) : Ev K (tCB (fun xs H Q => ∃ p ys, xs = [.ref p] ∧ ((SqL K H p ys ∧ ∀ l, H l = none → Q (.ref l) (upd H l (.tup ys))) ∨ (SqT K H p ys ∧ Q (.ref p) H))) (tCons ta tNil)) env (.tuple xs) := fun σ H H1 st Q q =>
  ha σ H H1 st _ fun v G H2 f d => by
    cases d with
    | @lst p vs _ hl hd =>
      refine ⟨p, vs, rfl, .inl ⟨f.r.seq hl, fun l h => ?_⟩⟩
      have n : Fr0 G H2 (upd G l (.tup vs)) (upd H2 l (.tup vs)) := Fr.new f.r h
      exact q _ _ _ (f.tr0 n) (.tup (.inl (.inl upd_same)) (dms n.g hd))
theorem atI_map {α : Type} {f : α → PyData} {l : List α} {i : Int} (dflt : α) (h0 : 0 ≤ i) (h1 : i < l.length) : atI (l.map f) i = some (f (l.getD i.toNat dflt)) := by
  unfold atI ixN
  rw [if_pos h0, List.length_map, if_pos h1]
  show (l.map f)[i.toNat]? = _
  have h2 : i.toNat < l.length := by omega
  rw [List.getElem?_map, List.getD_eq_getElem?_getD, List.getElem?_eq_getElem h2]; rfl
end
end Pf
namespace Pf
open PySem PySem.Spec PyProof.Rows L2
/-- isinstance(e, c), e the exception that the suite holds, if it is one of D's own -/
def rIsX (K : PySem.W.Frag) (D a : Addr) (cls : Value) (d : Option Addr) : List V → Hp → VK → Prop := fun xs H Q => (cls = .ref D ∧ d = none) ∧ rIsE K D a xs H Q
theorem call_isX {X : Cx} {a D : Addr} {oe : Obj} {cls : Value} {d : Option Addr} {pn : List (Addr × Obj)} (C : ExcC X.K D) (hz : Zc cls d oe) (hf : ∃ vs, oe.data = .fields vs) : CallR (X.suite a ((a, oe) :: pn)) (.builtin "isinstance") (rIsX X.K D a cls d) := by
  intro pins s σ H xs us Q I r h
  obtain ⟨⟨rfl, rfl⟩, h⟩ := h
  exact call_isE C hz hf pins s σ H xs us Q I r h
end Pf
namespace Pf
open PySem PySem.Spec PyProof.Rows L2
theorem cutD_nat (xs : List PyData) (a b : Nat) (h : a ≤ b) : cutD xs (some (a : Int)) (some (b : Int)) = (xs.drop a).take (b - a) := by
  unfold cutD
  rw [HT.sIx_nat, HT.sIx_nat]
  by_cases c : a ≤ xs.length
  · rw [Nat.min_eq_left c]
    by_cases d : b ≤ xs.length
    · rw [Nat.min_eq_left d]
    · have e1 : (xs.drop a).length ≤ min b xs.length - a := by rw [List.length_drop]; omega
      have e2 : (xs.drop a).length ≤ b - a := by rw [List.length_drop]; omega
      rw [List.take_of_length_le e1, List.take_of_length_le e2]
  · have e1 : xs.drop a = [] := List.drop_eq_nil_of_le (by omega)
    have e2 : xs.drop (min a xs.length) = [] := List.drop_eq_nil_of_le (by omega)
    rw [e1, e2, List.take_nil, List.take_nil]
end Pf

namespace Pf
open PySem PySem.Spec PyProof.Rows L2
theorem kit_bi {K : PySem.W.Frag} {C : Addr} {t : String} {v : Bool} (h : PySem.W.subIn K (.ref C) (.type t) = some v) (m : PySem.W.kitMeta t = true) : PySem.W.kitOne K (.ref C) (.type t) = some v := by
  have q : (Value.ref C == Value.type t) = false := rfl
  unfold PySem.W.kitOne PySem.W.kitCls
  rw [q, if_neg Bool.false_ne_true]
  show (if PySem.W.kitMeta t = true then PySem.W.subIn K (.ref C) (.type t) else none) = some v
  rw [if_pos m]; exact h
theorem kit_own {K : PySem.W.Frag} {C D : Addr} {v : Bool} (h : PySem.W.subIn K (.ref C) (.ref D) = some v) (hc : PySem.W.subIn K (.ref C) (.ref C) = some true) (h2 : PySem.W.isClsIn K D = true) (h3 : PySem.W.typeIn K (.ref D) = some (.type "type")) : PySem.W.kitOne K (.ref C) (.ref D) = some v := by
  unfold PySem.W.kitOne
  by_cases e : C = D
  · subst e
    rw [hc] at h
    rw [if_pos (by exact beq_self_eq_true _)]; exact h
  · have q : (Value.ref C == Value.ref D) = false := by
      cases b : (Value.ref C == Value.ref D) with
      | false => rfl
      | true => exact absurd (Value.ref.inj (eq_of_beq b)) e
    rw [q, if_neg Bool.false_ne_true]
    have q2 : ((PySem.W.clsIn K D).isSome && PySem.W.typeIn K (.ref D) == some (.type "type")) = true := by
      have : (PySem.W.clsIn K D).isSome = true := h2
      rw [this, h3]; rfl
    show (if ((PySem.W.clsIn K D).isSome && PySem.W.typeIn K (.ref D) == some (.type "type")) = true then PySem.W.subIn K (.ref C) (.ref D) else none) = some v
    rw [if_pos q2]; exact h
end Pf
namespace Pf
open PySem PySem.Spec PyProof.Rows L2
section
variable {K : PySem.W.Frag} {env : List SV} {ta : TE}
theorem up_of_le : ∀ {l : List Int}, l.Pairwise (· ≤ ·) → l.Nodup → l.Pairwise (· < ·)
  | [], _, _ => List.Pairwise.nil
  | x :: r, h, d => by
    have h' := List.pairwise_cons.mp h
    have d' := List.nodup_cons.mp d
    refine List.pairwise_cons.mpr ⟨fun y hy => ?_, up_of_le h'.2 d'.2⟩
    have h1 := h'.1 y hy
    have h2 : x ≠ y := fun e => d'.1 (by rw [e]; exact hy)
    omega
theorem eo_sorted {ns L : List Int} (ha : EvL K ta env (ns.map .int)) (hn : ns.length < 64) (hd : ns.Nodup) (hL : L.Pairwise (· < ·)) (hm : ∀ k, k ∈ L ↔ k ∈ ns) : EvO K (tCB (rSorted K) (tCons ta tNil)) env (L.map .int) := fun σ H H1 st Q q =>
  ha σ H H1 st _ fun p vs G H2 f h2 dv => by
    have e := dpa_ints dv
    subst e
    refine ⟨p, ns, rfl, .inl (.inl h2), hn, fun ns' r hp hs hr => ?_⟩
    have e : ns' = L := rising_one (up_of_le hs (hp.nodup_iff.mpr hd)) hL fun k => hp.mem_iff.trans (hm k).symm
    subst e
    exact q r _ G _ (f.tr0 (Fr.hid f.r hr)) (f.a.free hr) (f.r.free hr) upd_same (dpa_of_ints ns')
end
end Pf

namespace Pf
open PySem PySem.Spec PyProof.Rows L2
section
variable {K : PySem.W.Frag} {X : WX} {env env1 env2 : List SV} {ta tb tc te tl : TE} {t u ts : TS} {tt : TT} {d e : PyData} {i j : Int} {xs ys ds : List PyData} {oc : Oc} {P M : Oc → Prop}
/-! ### one of several ends -/
def Sn (K : PySem.W.Frag) (X : WX) (ts : TS) (env : List SV) (P : Oc → Prop) : Prop := ∀ σ H H1, Stt K H H1 σ env → ∀ D : Ends, (∀ oc, P oc → OcOk K X (Ow σ env) D H H1 oc) → ts D σ H1
theorem sn_of (h : Sx K X t env oc) (hp : P oc) : Sn K X t env P := fun σ H H1 st D q => h σ H H1 st D (q oc hp)
theorem Sn.imp {P' : Oc → Prop} (h : Sn K X t env P) (i : ∀ oc, P oc → P' oc) : Sn K X t env P' := fun σ H H1 st D q => h σ H H1 st D fun oc p => q oc (i oc p)
theorem Sn.sx (h : Sn K X t env (· = oc)) : Sx K X t env oc := fun σ H H1 st D q => h σ H H1 st D fun oc' e => by rw [e]; exact q
theorem sn_seq {M : List SV → Prop} (h : Sn K X t env (fun oc => ∃ e, oc = .nx e ∧ M e)) (k : ∀ e, M e → Sn K X u e P) : Sn K X (tSeq t u) env P := fun σ H H1 st D q =>
  h σ H H1 st { D with nx := u D } fun oc ⟨e, eo, me⟩ => by
    subst eo
    exact fun σ' G H2 f st' o => k e me σ' G H2 st' D fun oc' p => (q oc' p).tr f o
theorem sn_seq1 (h : Sx K X t env (.nx env1)) (k : Sn K X u env1 P) : Sn K X (tSeq t u) env P :=
  sn_seq (M := (· = env1)) (sn_of h ⟨env1, rfl, rfl⟩) fun e he => by rw [he]; exact k
theorem sn_end (h : Sn K X t env P) (he : ∀ oc, P oc → oc.isNx = false) : Sn K X (tSeq t u) env P := fun σ H H1 st D q =>
  h σ H H1 st { D with nx := u D } fun oc p => by
    have q1 := q oc p
    have e1 := he oc p
    cases oc with
    | nx env => cases e1
    | bk env => exact q1
    | ct env => exact q1
    | ex c env => exact q1
    | rt d => exact q1
    | rl xs => exact q1
    | rr v => exact q1
    | rw vs e => exact q1
    | rk xs => exact q1
    | rg k xs rs => exact q1
    | rb => exact q1
theorem sn_if {b : Bool} (h : EvT K tt env b) (h1 : b = true → Sn K X t env P) (h2 : b = false → Sn K X u env P) : Sn K X (tIfS tt t u) env P := fun σ H H1 st D q =>
  h σ H H1 st _ fun G H2 f => by
    cases b with
    | true => exact h1 rfl σ G H2 (st.mono f) D fun oc p => (q oc p).tr0 f
    | false => exact h2 rfl σ G H2 (st.mono f) D fun oc p => (q oc p).tr0 f
/-- if c: (ends), and what follows -/
theorem sn_when {b : Bool} (h : EvT K tt env b) (h1 : b = true → Sn K X t env P) (he : ∀ oc, P oc → oc.isNx = false) (h2 : b = false → Sn K X ts env P) : Sn K X (tSeq (tIfS tt t tNext) ts) env P := by
  cases b with
  | true => exact sn_end (sn_if h h1 fun z => nomatch z) he
  | false => exact sn_seq1 (sx_no h sx_next) (h2 rfl)
/-- if c: .., and what follows from either -/
theorem sn_ifs {b : Bool} {M : List SV → Prop} (h : EvT K tt env b) (h1 : b = true → Sn K X t env (fun oc => ∃ e, oc = .nx e ∧ M e)) (h2 : b = false → Sn K X u env (fun oc => ∃ e, oc = .nx e ∧ M e)) (h3 : ∀ e, M e → Sn K X ts e P) : Sn K X (tSeq (tIfS tt t u) ts) env P := sn_seq (sn_if h h1 h2) h3
theorem sn_fix (i : Nat) (h : env[i]? = some (.own xs)) (k : Sn K X t (env.set i (.dat (.list xs))) P) : Sn K X t env P := fun σ H H1 st D q => by
  obtain ⟨l, vs, a, b, c, st'⟩ := st.freeze h
  refine k σ _ H1 st' D fun oc p => (q oc p).tr ⟨newS b, st'.e, fun _ _ _ z => z, fun p nw hp _ => ?_, fun _ z => z⟩ fun p z => .inl (Ow.freeze z)
  have n : p ≠ l := fun z => nw ⟨i, _, h, rfl, by rw [z]; exact a⟩
  rw [upd_ne n]; exact hp
theorem sn_less (l : Less env1 env) (k : Sn K X t env1 P) : Sn K X t env P := fun σ H H1 st D q =>
  k σ H H1 (st.less l.len l.at) D fun oc p => (q oc p).tr (Fr.refl st.e) fun l' z => by
    obtain ⟨j, s, a, b, c⟩ := z
    rcases l.at j s a with y | y
    · subst y; cases b
    · exact .inl ⟨j, s, y, b, c⟩
theorem runN {H H1 : Hp} {N : List Str} {vs : List V} {n : Nat} {D : Ends} (s : Same H H1) (dv : DpAll K H vs ds) (hn : N.length - ds.length = n) (h : Sn K X t (ds.map .dat ++ List.replicate n .no) P) (q : ∀ oc, P oc → OcOk K X (fun _ => False) D H H1 oc) : t D (L2.start N vs) H1 := by
  have st := stt_start (N := N) s dv hn
  refine h _ H H1 st D fun oc p => (q oc p).tr (Fr.refl s) fun p z => (ow_none (fun sv m => ?_) z).elim
  rcases List.mem_append.mp m with m | m
  · obtain ⟨d, _, rfl⟩ := List.mem_map.mp m; rfl
  · obtain ⟨_, rfl⟩ := List.mem_replicate.mp m; rfl
/-- what stands between two turns, one of several -/
def Pn (K : PySem.W.Frag) (W : Addr → Prop) (H H1 : Hp) (Inv : Nat → List SV → Prop) : Nat → L2.St → Hp → Prop := fun i σ' H' => ∃ e G, Inv i e ∧ Fr W H H1 G H' ∧ Stt K G H' σ' e ∧ ∀ l, Ow σ' e l → W l ∨ H1 l = none
theorem pn_turn {W : Addr → Prop} {H H1 G H' : Hp} {Inv : Nat → List SV → Prop} {i : Nat} {env' : List SV} {D : Ends} {x : PyData} {g : TG} {e : List SV} {v : V} {σ' : L2.St}
    (f : Fr W H H1 G H') (st : Stt K G H' σ' e) (ow : ∀ l, Ow σ' e l → W l ∨ H1 l = none) (dv : Dp K G v x) (tg : Tg K g e x env') (b : Sn K X t env' (fun oc => ∃ e', (oc = .nx e' ∨ oc = .ct e') ∧ Inv (i + 1) e')) :
    g v σ' H' fun σ2 H2 => t { D with nx := Pn K W H H1 Inv (i + 1), ct := Pn K W H H1 Inv (i + 1) } σ2 H2 := by
  refine tg σ' G H' v st dv _ fun σ2 st3 o3 => ?_
  have ow3 : ∀ l, Ow σ2 env' l → W l ∨ H1 l = none := fun l z => ow l (o3 l z)
  refine b σ2 G H' st3 _ fun oc ⟨e', eo, ie⟩ => ?_
  have nx : ∀ σ3 G3 H3, Fr (Ow σ2 env') G H' G3 H3 → Stt K G3 H3 σ3 e' → (∀ l, Ow σ3 e' l → Ow σ2 env' l ∨ H' l = none) → Pn K W H H1 Inv (i + 1) σ3 H3 := fun σ3 G3 H3 f3 st4 o4 =>
    ⟨e', G3, ie, f.trans f3 ow3, st4, fun l z => (o4 l z).elim (ow3 l) fun z => .inr (f.m l z)⟩
  rcases eo with eo | eo <;> (subst eo; exact nx)
theorem sn_for {g : TG} (h : Ev K tl env (.list ds)) (Inv : Nat → List SV → Prop) (h0 : Inv 0 env) (go : ∀ (i : Nat) (d : PyData) e, ds[i]? = some d → Inv i e → ∃ env', Tg K g e d env' ∧ Sn K X t env' (fun oc => ∃ e', (oc = .nx e' ∨ oc = .ct e') ∧ Inv (i + 1) e')) : Sn K X (tFor (iList K tl) g t) env (fun oc => ∃ e, oc = .nx e ∧ Inv ds.length e) := fun σ H H1 st D q => by
  refine h σ H H1 st _ fun v G0 H2 f dv => ?_
  cases dv with
  | @lst a vs _ hl hd =>
    have f' : Fr (Ow σ env) H H1 G0 H2 := f.mono fun _ z => z.elim
    refine ⟨a, rfl, ⟨vs, f.r.seq hl⟩, for_list (K := K) (a := a) (xs := vs) (Pn K (Ow σ env) G0 H2 Inv) ⟨env, G0, h0, Fr.refl f.r, st.mono f, fun l z => .inl z⟩ (fun i σ' H' _ p => ?_) (fun i x σ' H' hi p => ?_) (fun σ' H' p => ?_)⟩
    · obtain ⟨e, G, _, f2, _, _⟩ := p
      exact f2.r.seq (f2.g.seq hl)
    · obtain ⟨e, G, ie, f2, st2, ow⟩ := p
      obtain ⟨d, e1, e2⟩ := dpa_get hd hi
      obtain ⟨env', tg, b⟩ := go i d e e1 ie
      exact pn_turn (D := { D with bk := D.nx }) f2 st2 ow (dm f2.g e2) tg b
    · obtain ⟨e, G, ie, f2, st2, ow⟩ := p
      rw [dpa_len hd] at ie
      exact q _ ⟨e, rfl, ie⟩ σ' G H' (f'.trans f2 fun l z => .inl z) st2 fun l z => (ow l z).elim .inl fun z => .inr (f.m l z)
theorem sn_forR1 {n : Nat} {aa : TA} {g : TG} {k : Int} (h : EvA K aa env [.int k]) (hk : -100000 ≤ k ∧ k ≤ 100000) (hn : k.toNat = n) (Inv : Nat → List SV → Prop) (h0 : Inv 0 env) (go : ∀ (i : Nat) e, i < n → Inv i e → ∃ env', Tg K g e (.int i) env' ∧ Sn K X t env' (fun oc => ∃ e', (oc = .nx e' ∨ oc = .ct e') ∧ Inv (i + 1) e')) :
    Sn K X (tFor (iRng1 aa) g t) env (fun oc => ∃ e, oc = .nx e ∧ Inv n e) := fun σ H H1 st D q => by
  refine h σ H H1 st _ fun vs G0 H2 f dv => ?_
  cases dv with
  | cons a b =>
    cases b; cases a
    have f' : Fr (Ow σ env) H H1 G0 H2 := f.mono fun _ z => z.elim
    refine ⟨k, rfl, by omega, by omega, for_range (lo := 0) (n := k.toNat) (Pn K (Ow σ env) G0 H2 Inv) ⟨env, G0, h0, Fr.refl f.r, st.mono f, fun l z => .inl z⟩ (fun i σ' H' hi p => ?_) (fun σ' H' p => ?_)⟩
    · obtain ⟨e, G, ie, f2, st2, ow⟩ := p
      obtain ⟨env', tg, b⟩ := go i e (by omega) ie
      rw [Int.zero_add]
      exact pn_turn (D := { D with bk := D.nx }) f2 st2 ow (.int _) tg b
    · obtain ⟨e, G, ie, f2, st2, ow⟩ := p
      rw [hn] at ie
      exact q _ ⟨e, rfl, ie⟩ σ' G H' (f'.trans f2 fun l z => .inl z) st2 fun l z => (ow l z).elim .inl fun z => .inr (f.m l z)
theorem sn_forR2 {n : Nat} {aa : TA} {g : TG} {lo k : Int} (h : EvA K aa env [.int lo, .int k]) (hk : -100000 ≤ k ∧ k ≤ 100000) (hlo : -100000 ≤ lo ∧ lo ≤ 100000) (hn : (k - lo).toNat = n) (Inv : Nat → List SV → Prop) (h0 : Inv 0 env) (go : ∀ (i : Nat) e, i < n → Inv i e → ∃ env', Tg K g e (.int (lo + i)) env' ∧ Sn K X t env' (fun oc => ∃ e', (oc = .nx e' ∨ oc = .ct e') ∧ Inv (i + 1) e')) :
    Sn K X (tFor (iRng2 aa) g t) env (fun oc => ∃ e, oc = .nx e ∧ Inv n e) := fun σ H H1 st D q => by
  refine h σ H H1 st _ fun vs G0 H2 f dv => ?_
  cases dv with
  | cons a b =>
    cases b with
    | cons b c =>
      cases c; cases a; cases b
      have f' : Fr (Ow σ env) H H1 G0 H2 := f.mono fun _ z => z.elim
      refine ⟨lo, k, rfl, by omega, for_range (lo := lo) (n := (k - lo).toNat) (Pn K (Ow σ env) G0 H2 Inv) ⟨env, G0, h0, Fr.refl f.r, st.mono f, fun l z => .inl z⟩ (fun i σ' H' hi p => ?_) (fun σ' H' p => ?_)⟩
      · obtain ⟨e, G, ie, f2, st2, ow⟩ := p
        obtain ⟨env', tg, b⟩ := go i e (by omega) ie
        exact pn_turn (D := { D with bk := D.nx }) f2 st2 ow (.int _) tg b
      · obtain ⟨e, G, ie, f2, st2, ow⟩ := p
        rw [hn] at ie
        exact q _ ⟨e, rfl, ie⟩ σ' G H' (f'.trans f2 fun l z => .inl z) st2 fun l z => (ow l z).elim .inl fun z => .inr (f.m l z)
theorem sn_forR3 {n : Nat} {aa : TA} {g : TG} {lo k c : Int} (h : EvA K aa env [.int lo, .int k, .int c]) (hr : RgC lo k c n) (Inv : Nat → List SV → Prop) (h0 : Inv 0 env) (go : ∀ (i : Nat) e, i < n → Inv i e → ∃ env', Tg K g e (.int (lo + (i : Nat) * c)) env' ∧ Sn K X t env' (fun oc => ∃ e', (oc = .nx e' ∨ oc = .ct e') ∧ Inv (i + 1) e')) :
    Sn K X (tFor (iRng3 aa) g t) env (fun oc => ∃ e, oc = .nx e ∧ Inv n e) := fun σ H H1 st D q => by
  refine h σ H H1 st _ fun vs G0 H2 f dv => ?_
  cases dv with
  | cons a b =>
    cases b with
    | cons b b2 =>
      cases b2 with
      | cons b2 b3 =>
        cases b3; cases a; cases b; cases b2
        have f' : Fr (Ow σ env) H H1 G0 H2 := f.mono fun _ z => z.elim
        refine ⟨lo, k, c, n, rfl, hr, for_rangeC (lo := lo) (c := c) (n := n) (Pn K (Ow σ env) G0 H2 Inv) ⟨env, G0, h0, Fr.refl f.r, st.mono f, fun l z => .inl z⟩ (fun i σ' H' hi p => ?_) (fun σ' H' p => ?_)⟩
        · obtain ⟨e, G, ie, f2, st2, ow⟩ := p
          obtain ⟨env', tg, b⟩ := go i e hi ie
          exact pn_turn (D := { D with bk := D.nx }) f2 st2 ow (.int _) tg b
        · obtain ⟨e, G, ie, f2, st2, ow⟩ := p
          exact q _ ⟨e, rfl, ie⟩ σ' G H' (f'.trans f2 fun l z => .inl z) st2 fun l z => (ow l z).elim .inl fun z => .inr (f.m l z)
/-! ### a def that gives some list back -/
def spLN (K : PySem.W.Frag) (R : List PyData → List PyData → Prop) (I : List PyData → Prop) : Sp := fun vs H1 Q _ => ∃ H ds, Same H H1 ∧ DpAll K H vs ds ∧ I ds ∧ ∀ xs, R ds xs → ∀ p ws G H2, Fr0 H H1 G H2 → H1 p = none → G p = none → H2 p = some (.lst ws) → DpAll K G ws xs → Q (.ref p) H2
theorem sn_setN {R : List PyData → List PyData → Prop} {I : List PyData → Prop} {E : L2.St → XK} {aa : TA} {n : Nat} (ha : EvA K aa env ds) (hi : I ds) : Sn K X (tAsg (tCallS (spLN K R I) E aa) (gName n)) env (fun oc => ∃ e, oc = .nx e ∧ ∃ xs, R ds xs ∧ e = env.set n (.own xs)) := fun σ H H1 st D q =>
  ha σ H H1 st _ fun vs G H2 f dv => ⟨G, ds, f.r, dv, hi, fun xs hr p ws G3 H3 f3 h1 h2 h3 d3 => q _ ⟨_, rfl, xs, hr, rfl⟩ _ G3 H3 ((f.tr0 f3).mono fun _ z => z.elim) (st.setN (f.tr0 f3) (f.a.free h1) h2 h3 d3) fun l z => by
    rcases Ow.set z with z | ⟨_, z⟩
    · exact .inl z
    · cases z; exact .inr (f.a.free h1)⟩
theorem sn_retN {R : List PyData → List PyData → Prop} {I : List PyData → Prop} {E : L2.St → XK} {aa : TA} (ha : EvA K aa env ds) (hi : I ds) (hp : ∀ xs, R ds xs → P (.rl xs)) : Sn K X (tRet (tCallS (spLN K R I) E aa)) env P := fun σ H H1 st D q =>
  ha σ H H1 st _ fun vs G H2 f dv => ⟨G, ds, f.r, dv, hi, fun xs hr p ws G3 H3 f3 h1 h2 h3 d3 => q _ (hp xs hr) p ws G3 H3 ((f.tr0 f3).mono fun _ z => z.elim) (.inr (f.a.free h1)) h2 h3 d3⟩
/-! ### comprehensions over range(a, b) -/
theorem eo_lcR2 {n : Nat} {lo k : Int} {aa : TA} (f : Nat → Bool) (w : Nat → PyData) {g : TG} {vs : List Nat} (h : EvA K aa env [.int lo, .int k]) (hk : -100000 < k ∧ k < 100000) (hlo : -100000 < lo ∧ lo < 100000) (hn : (k - lo).toNat = n) (hnn : n < 100000) (turn : ∀ i : Nat, i < n → ∃ env', Tgw K vs g (wipeE env vs) (.int (lo + i)) env' ∧ EvT K tt env' (f i) ∧ (f i = true → Ev K te env' (w i))) :
    EvO K (tLc (iRng2 aa) g tt te vs) env (((List.range n).filter f).map w) := fun σ H H1 st Q q => by
  refine h σ H H1 st _ fun ws G0 H2 f0 dv => ?_
  cases dv with
  | cons a b =>
    cases b with
    | cons b c =>
      cases c; cases a; cases b
      refine ⟨lo, k, rfl, by omega, fun D hD => ?_⟩
      have st0 := st.mono f0
      have nD : ∀ l, Ow (L2.wipe σ vs) (wipeE env vs) l → ¬ l = D := fun l z e => by
        have := (st0.owned (Ow.wipe z)).2
        exact this (by rw [e]; exact hD)
      have hz : (List.range n).length < 100000 := by rw [List.length_range]; exact hnn
      refine lc_range (lo := lo) (n := (k - lo).toNat) (fun i H' => Mk K G0 H2 D ((((List.range n).take i).filter f).map w) H') (mk_start f0.r hD) (fun i H' hi p => ?_) (fun H' p => ?_)
      · obtain ⟨G, ac, f1, hG, ha, da⟩ := p
        have ex : (List.range n)[i]? = some i := range_get (by omega)
        obtain ⟨env', tg, ht, he⟩ := turn i (by omega)
        refine tg _ G H' _ ((st0.wipe vs).monoW f1 nD) (.int _) _ fun σ' st' o hw => ⟨?_, ?_⟩
        · rw [hw]; exact wipe_wipe fun _ z => z
        · rw [filter_next ex]
          exact mk_turn f1 hG ha da (take_short hz) st' ht he
      · obtain ⟨G, ac, f1, hG, ha, da⟩ := p
        have ff : Fr0 H H1 G H' := f0.trans f1 fun p z => .inr (by rw [z]; exact f0.a.free hD)
        rw [hn, List.take_of_length_le (by rw [List.length_range]; exact Nat.le_refl _)] at da
        exact q D ac G H' ff (f0.a.free hD) hG ha da
theorem et_yes : EvT K tYes env true := fun σ H H1 st Q q => q H H1 (Fr.refl st.e)
/-- xs.clear() -/
theorem sx_clear {i : Nat} (h : env[i]? = some (.own xs)) : Sx K X (tDrop (tBM0 K "list" rClear (tVar i))) env (.nx (env.set i (.own []))) := fun σ H H1 st D q => by
  obtain ⟨l, vs, a, b, c, dv⟩ := st.own h
  refine ⟨_, a, .inl ⟨rfl, _, .inl (.inl c)⟩, l, vs, rfl, rfl, c, ?_⟩
  have hw : Ow σ env l := ⟨i, _, h, rfl, a⟩
  have e2 : Same H (upd H1 l (.lst [])) := fun p o z => by
    rw [upd_ne (ne_of_none z b)]; exact st.e p o z
  refine q σ H _ ⟨Same.refl _, e2, fun p o nw z => ?_, fun p nw z _ => z, fun p z => upd_none z⟩ ?_ fun l z => ?_
  · have n : p ≠ l := fun z => nw (z ▸ hw)
    rw [upd_ne n]; exact z
  · refine ⟨e2, by rw [List.length_set]; exact st.l, fun j o s ea eb => ?_, fun j k s s' p hjk b1 b2 o1 o2 a1 => ?_⟩
    · by_cases ej : i = j
      · subst ej
        rw [a] at ea; cases ea
        have hi : i < env.length := (List.getElem?_eq_some_iff.mp h).1
        rw [List.getElem?_set_self hi] at eb; cases eb
        exact ⟨l, _, rfl, b, upd_same, .nil⟩
      · rw [List.getElem?_set_ne ej] at eb
        have ok := st.ok j o s ea eb
        cases s with
        | no => trivial
        | dat d => exact ok
        | own zs =>
          obtain ⟨l2, ws, q1, q2, q3, q4⟩ := ok
          subst q1
          have n : l2 ≠ l := fun z => st.ne i j _ _ l ej h eb rfl rfl a (z ▸ ea)
          exact ⟨l2, ws, rfl, q2, by rw [upd_ne n]; exact q3, q4⟩
        | obj x =>
          obtain ⟨l2, q1, q2, q3⟩ := ok
          subst q1
          have n : l2 ≠ l := fun z => st.ne i j _ _ l ej h eb rfl rfl a (z ▸ ea)
          exact ⟨l2, rfl, q2, by rw [upd_ne n]; exact q3⟩
        | raw v => exact ok
        | dct P w kvs =>
          obtain ⟨l2, ws, q1, q2, q3, q4⟩ := ok
          subst q1
          have n : l2 ≠ l := fun z => st.ne i j _ _ l ej h eb rfl rfl a (z ▸ ea)
          exact ⟨l2, ws, rfl, q2, by rw [upd_ne n]; exact q3, q4⟩
        | dcf P w kvs => exact ok
        | kl xs => exact ok
        | kpg k xs rs => exact ok
        | kep n xs ys => exact ok
        | rd v d => exact ok
        | tupv ws => exact ok
        | ownA l2 zs =>
          obtain ⟨q1, ws, q2, q3, q4⟩ := ok
          subst q1
          have n : l2 ≠ l := fun z => st.ne i j _ _ l ej h eb rfl rfl a (z ▸ ea)
          exact ⟨rfl, ws, q2, by rw [upd_ne n]; exact q3, q4⟩
    · by_cases e1 : i = j
      · subst e1
        rw [List.getElem?_set_ne hjk] at b2
        exact st.ne i k _ s' p hjk h b2 rfl o2 a1
      · rw [List.getElem?_set_ne e1] at b1
        by_cases e2 : i = k
        · subst e2
          exact st.ne j i s _ p hjk b1 h o1 rfl a1
        · rw [List.getElem?_set_ne e2] at b2
          exact st.ne j k s s' p hjk b1 b2 o1 o2 a1
  · obtain ⟨j, s, z1, z2, z3⟩ := z
    by_cases e1 : i = j
    · subst e1
      rw [a] at z3; cases z3
      exact .inl hw
    · rw [List.getElem?_set_ne e1] at z1
      exact .inl ⟨j, s, z1, z2, z3⟩
end
end Pf
namespace Pf
open PySem PySem.Spec PyProof.Rows L2
section
variable {K : PySem.W.Frag} {X : WX} {env : List SV} {d : PyData} {ds : List PyData} {P : Oc → Prop}
/-- a def that gives some data back -/
def spN (K : PySem.W.Frag) (R : List PyData → PyData → Prop) (I : List PyData → Prop) : Sp := fun vs H1 Q _ => ∃ H ds, Same H H1 ∧ DpAll K H vs ds ∧ I ds ∧ ∀ d, R ds d → ∀ v G H2, Fr0 H H1 G H2 → Dp K G v d → Q v H2
theorem sn_setD {R : List PyData → PyData → Prop} {I : List PyData → Prop} {E : L2.St → XK} {aa : TA} {n : Nat} (ha : EvA K aa env ds) (hi : I ds) : Sn K X (tAsg (tCallS (spN K R I) E aa) (gName n)) env (fun oc => ∃ e, oc = .nx e ∧ ∃ d, R ds d ∧ e = env.set n (.dat d)) := fun σ H H1 st D q =>
  ha σ H H1 st _ fun vs G H2 f dv => ⟨G, ds, f.r, dv, hi, fun d hr v G3 H3 f3 d3 => q _ ⟨_, rfl, d, hr, rfl⟩ _ G3 H3 ((f.tr0 f3).mono fun _ z => z.elim) ((st.mono (f.tr0 f3)).setD d3) fun l z => by
    rcases Ow.set z with z | ⟨z, _⟩
    · exact .inl z
    · cases z⟩
theorem sn_ret {te : TE} (h : Ev K te env d) (p : P (.rt d)) : Sn K X (tRet te) env P := sn_of (sx_ret h) p
theorem any2 (x a b : Int) : ([PyData.int a, .int b].any fun z => eqF z (.int x)) = decide (x = a ∨ x = b) := by
  show (decide (a = x) || (decide (b = x) || false)) = _
  rw [Bool.or_false, Bool.eq_iff_iff, Bool.or_eq_true, decide_eq_true_eq, decide_eq_true_eq, decide_eq_true_eq]
  exact or_congr ⟨Eq.symm, Eq.symm⟩ ⟨Eq.symm, Eq.symm⟩
end
end Pf
namespace Pf
open PySem PySem.Spec PyProof.Rows L2
section
variable {K : PySem.W.Frag} {X : WX} {env env1 : List SV} {t : TS} {M N : List SV → Prop}
theorem ok_less {W : Addr → Prop} {D : Ends} {H H1 : Hp} {e e' : List SV} (l : Less e' e) (q : OcOk K X W D H H1 (.nx e')) : OcOk K X W D H H1 (.nx e) := fun σ G H2 f st o =>
  q σ G H2 f (st.less l.len l.at) fun p z => by
    obtain ⟨j, s, a, b, c⟩ := z
    rcases l.at j s a with y | y
    · subst y; cases b
    · exact o p ⟨j, s, y, b, c⟩
/-- a turn's end, told with less -/
theorem sn_out (h : Sn K X t env (fun oc => ∃ e, oc = .nx e ∧ M e)) (k : ∀ e, M e → ∃ e', Less e' e ∧ N e') : Sn K X t env (fun oc => ∃ e', (oc = .nx e' ∨ oc = .ct e') ∧ N e') := fun σ H H1 st D q =>
  h σ H H1 st D fun oc ⟨e, eo, me⟩ => by
    subst eo
    obtain ⟨e', l, ne⟩ := k e me
    exact ok_less l (q _ ⟨e', .inl rfl, ne⟩)
theorem sn_out1 (h : Sx K X t env (.nx env1)) (k : ∃ e', Less e' env1 ∧ N e') : Sn K X t env (fun oc => ∃ e', (oc = .nx e' ∨ oc = .ct e') ∧ N e') :=
  sn_out (M := (· = env1)) (sn_of h ⟨env1, rfl, rfl⟩) fun e he => by rw [he]; exact k
end
end Pf
namespace Pf
open PySem PySem.Spec PyProof.Rows L2
theorem u65 {k : Nat} {A : Around} (r : Room k A) : A.units + 65 < cLine := by have := r.un; omega
end Pf

namespace Pf
open PySem PySem.Spec PyProof.Rows L2
/-! ### a list's count of True -/
theorem eqg_bl (a b : Bool) : MeetsSeq.EqGives (.bool a) (.bool b) (a == b) := fun prog w A E s Q q => by
  unfold eqBool
  refine wpAny_holding ?_
  by_cases e : (Value.bool a == Value.bool b) = true
  · rw [if_pos e]
    have e' : a = b := Value.bool.inj (eq_of_beq e)
    subst e'
    exact wpAny_bind (wpAny_rule (wpAny_pure (by simpa using q)))
  · rw [if_neg e]
    exact wpAny_bind (PyProof.Rows.eq_bool (wpAny_truthy_bool q))
def eqb (b : Bool) : Value → Bool
  | .bool c => c == b
  | _ => false
def rCntB (K : PySem.W.Frag) : V → List V → Hp → VK → Prop := fun x xs H Q => ∃ (p : Addr) (bs : List Bool) (b : Bool), x = .ref p ∧ xs = [.bl b] ∧ SqL K H p (bs.map V.bl) ∧ Q (.int (bs.count b : Nat)) H
theorem bls_of_vals : ∀ {bs : List Bool} {us : List Value}, Vals (bs.map V.bl) us → us = bs.map Value.bool
  | [], _, .nil => rfl
  | b :: r, _, .cons e k => by
    rw [bls_of_vals k]
    cases e; rfl
theorem eqb_count (b : Bool) : ∀ bs : List Bool, (bs.map Value.bool).countP (eqb b) = bs.count b
  | [] => rfl
  | c :: r => by
    rw [List.map_cons, List.countP_cons, List.count_cons, eqb_count b r]; rfl
theorem mt_lcountB {X : Cx} : MtR X "list.count" (rCntB X.K) := by
  intro pins s σ H x xs v us Q I rx rxs h
  obtain ⟨p, bs, b, rfl, rfl, hs, q⟩ := h
  cases rx
  obtain ⟨u, rfl, ru⟩ := Vals.one rxs
  cases ru
  obtain ⟨its, rv, ⟨⟨cls, dd, data, sl⟩, n, ho, hc, hdn, hd⟩, hlen⟩ := I.list hs
  dsimp only at hc hd hdn
  subst hc hd
  have e := bls_of_vals rv
  subst e
  refine call_meets F.slot_list_count ⟨_, ho, rfl⟩ F.entry_list_count (F.args_list_count_2 _ _) (SeqAt.list_countAt p _ n dd sl _ (eqb b)) ⟨ho, fun y hy => ?_, ?_⟩
  · have hy' : y ∈ bs.map Value.bool := by simpa using hy
    obtain ⟨c, _, rfl⟩ := List.mem_map.mp hy'
    exact (eqg_bl c b).at X.A.in1 s
  · refine ⟨.int (bs.count b : Nat), H, I.tok (s.toks + 1), ⟨s.toks, ?_⟩, q⟩
    show Value.int (((bs.map Value.bool).countP (eqb b) : Nat) : Int) s.toks = _
    rw [eqb_count]
section
variable {K : PySem.W.Frag} {X : WX} {env env1 env2 : List SV} {ta tb tc te tl : TE} {t u ts : TS} {tt : TT} {d e : PyData} {i j : Int} {xs ys ds : List PyData} {oc : Oc} {c : Value}
theorem dpa_bls : ∀ {ns : List Bool} {H : Hp} {vs : List V}, DpAll K H vs (ns.map PyData.bool) → vs = ns.map V.bl
  | [], _, _, h => by cases h; rfl
  | n :: r, _, _, h => by
    cases h with
    | cons a b => cases a; rw [dpa_bls b]; rfl
theorem ev_cntB {bs : List Bool} {b : Bool} (ha : EvL K ta env (bs.map .bool)) (hb : Ev K tb env (.bool b)) : Ev K (tBM K "list" (rCntB K) ta (tCons tb tNil)) env (.int (bs.count b : Nat)) := fun σ H H1 st Q q =>
  ha σ H H1 st _ fun p vs G H2 f h2 dv => ⟨.inl ⟨rfl, _, .inl (.inl h2)⟩, hb σ G H2 (st.mono f) _ fun v G3 H3 f3 d3 => by
    cases d3
    have e := dpa_bls dv
    subst e
    exact ⟨p, bs, b, rfl, rfl, .inl (.inl (f3.a _ _ h2)), q _ G3 H3 (f.tr0 f3) (.int _)⟩⟩
/-! ### several excepts -/
/-- the suite that takes c -/
inductive Cat (K : PySem.W.Frag) (c : Value) : List (Value × (Addr → Value → Option Addr → TS)) → (Addr → Value → Option Addr → TS) → Prop where
  | here {cl : Value} {ts : Addr → Value → Option Addr → TS} {r : List (Value × (Addr → Value → Option Addr → TS))} : PySem.W.exmOne K c cl = some true → Cat K c ((cl, ts) :: r) ts
  | next {cl : Value} {ts tt : Addr → Value → Option Addr → TS} {r : List (Value × (Addr → Value → Option Addr → TS))} : PySem.W.exmOne K c cl = some false → Cat K c r ts → Cat K c ((cl, tt) :: r) ts
theorem wmany_cat {D : Ends} {σ : L2.St} {H : Hp} {l : List (Value × (Addr → Value → Option Addr → TS))} {ts : Addr → Value → Option Addr → TS} (h : Cat K c l ts) (k : ∀ a, H a = none → ts a c none D σ H) : wMany K X D l c none σ H := by
  induction h with
  | here e => exact ⟨true, e, fun _ => k, fun z => nomatch z⟩
  | next e _ ih => exact ⟨false, e, (fun z => nomatch z), fun _ => ih k⟩
theorem sx_trym_ok {l : List (Value × (Addr → Value → Option Addr → TS))} {tbb : WX → TS} (h : ∀ X', Sx K X' (tbb X') env oc) (e : oc.isEx = false) : Sx K X (fun D σ H => tbb (wMany K X D l) D σ H) env oc := fun σ H H1 st D q =>
  h _ σ H H1 st D (q.wx e)
theorem sx_trym_ex {l : List (Value × (Addr → Value → Option Addr → TS))} {tbb : WX → TS} {tss : Addr → Value → Option Addr → TS} (h : ∀ X', Sx K X' (tbb X') env (.ex c env1)) (hm : Cat K c l tss) (hs : ∀ a, Sx K X (tss a c none) env1 oc) : Sx K X (fun D σ H => tbb (wMany K X D l) D σ H) env oc := fun σ H H1 st D q =>
  h _ σ H H1 st D fun σ' G H2 f st' o => wmany_cat hm fun a _ => hs a σ' G H2 st' D (q.tr f o)
/-! ### the exception's own name -/
theorem Stt.setRaw {H H1 : Hp} {σ : L2.St} (h : Stt K H H1 σ env) {i : Nat} {a : Addr} (ha : H1 a = none) : Stt K H H1 (σ.set i (some (.ref a))) (env.set i (.raw (.ref a))) :=
  h.setO (show some (V.ref a) = some (V.ref a) from rfl) fun j s b1 b2 _ z => (h.owned ⟨j, s, b1, b2, z⟩).2 ha
theorem sx_tryas {cl : Value} {n : Nat} {tbb : WX → TS} {tss : Addr → Value → Option Addr → TS} (h : ∀ X', Sx K X' (tbb X') env (.ex c env1)) (hm : PySem.W.exmOne K c cl = some true)
    (hs : ∀ a, Sx K X (tss a c none) (env1.set n (.raw (.ref a))) (.rt d)) : Sx K X (fun D σ H => tbb (wAs K cl n tss X D) D σ H) env (.rt d) :=
  fun σ H H1 st D q => h _ σ H H1 st D fun σ' G H2 f st' o => ⟨true, hm, fun _ a ha => hs a _ G H2 (st'.setRaw ha) _ fun v G3 H3 f3 d3 => q v G3 H3 (f.trans f3 fun p z => by
    rcases Ow.set z with z | ⟨z, _⟩
    · exact o p z
    · cases z) d3, fun z => nomatch z⟩
/-- isinstance(e, c), e the exception that the suite holds -/
def rIsY (K : PySem.W.Frag) (a : Addr) (cls : Value) (dd : Option Addr) : List V → Hp → VK → Prop := fun xs H Q => ∃ D, ExcC K D ∧ (cls = .ref D ∧ dd = none) ∧ rIsE K D a xs H Q
theorem call_isY {X : Cx} {a : Addr} {oe : Obj} {cls : Value} {dd : Option Addr} {pn : List (Addr × Obj)} (hz : Zc cls dd oe) (hf : ∃ vs, oe.data = .fields vs) : CallR (X.suite a ((a, oe) :: pn)) (.builtin "isinstance") (rIsY X.K a cls dd) := by
  intro pins s σ H xs us Q I r h
  obtain ⟨D, C, ⟨rfl, rfl⟩, h⟩ := h
  exact call_isE C hz hf pins s σ H xs us Q I r h
/-- a value that is told as it is -/
def Er (K : PySem.W.Frag) (te : TE) (env : List SV) (v : V) : Prop := ∀ σ H H1, Stt K H H1 σ env → ∀ Q : VK, (∀ G H2, Fr0 H H1 G H2 → Q v H2) → te σ H1 Q
theorem er_var {i : Nat} {v : V} (h : env[i]? = some (.raw v)) : Er K (tVar i) env v := fun σ H H1 st Q q => by
  obtain ⟨o, a, b⟩ := st.get h
  have b' : o = some v := b
  subst b'
  exact ⟨v, a, q H H1 (Fr.refl st.e)⟩
theorem er_c {v : V} : Er K (tC v) env v := fun σ H H1 st Q q => q H H1 (Fr.refl st.e)
theorem ev_isY {a D : Addr} {v : V} {cv : Value} {b : Bool} (ha : Er K ta env (.ref a)) (hb : Er K tb env v) (hE : ExcC K D) (hv : ∀ u, L2.RelV v u → u = cv) (hk : PySem.W.kitOne K (.ref D) cv = some b) : Ev K (tCB (rIsY K a (.ref D) none) (tCons ta (tCons tb tNil))) env (.bool b) := fun σ H H1 st Q q =>
  ha σ H H1 st _ fun G H2 f => hb σ G H2 (st.mono f) _ fun G3 H3 f3 => ⟨D, hE, ⟨rfl, rfl⟩, v, cv, b, rfl, hv, hk, q _ G3 H3 (f.tr0 f3) (.bl b)⟩
/-! ### less of what an exception finds -/
theorem sx_ex_less (l : Less env2 env1) (k : Sx K X t env (.ex c env1)) : Sx K X t env (.ex c env2) := fun σ H H1 st D q =>
  k σ H H1 st D fun σ' G H2 f st' o => q σ' G H2 f (st'.less l.len l.at) fun p z => by
    obtain ⟨j, s, a, b, c⟩ := z
    rcases l.at j s a with y | y
    · subst y; cases b
    · exact o p ⟨j, s, y, b, c⟩
/-! ### for x, y in zip(a, b) -/
theorem sx_forZ {ds es : List PyData} {g : TG} {n : Nat} (h : Ev K ta env (.list ds)) (h' : Ev K tb env (.list es)) (hn : n = min ds.length es.length) (Inv : Nat → List SV) (h0 : Inv 0 = env) (o : Nat → Bool) (ex : Oc) (hx : ex.isNx = false) (hb : ∀ e, ex ≠ .bk e) (hc : ∀ e, ex ≠ .ct e)
    (go : ∀ (i : Nat) (d e : PyData), i < n → ds[i]? = some d → es[i]? = some e → (∀ j, j < i → o j = false) → ∃ env', Tg K g (Inv i) (.tuple [d, e]) env' ∧ ((o i = false → Go K X t env' (Inv (i + 1))) ∧ (o i = true → oc = ex ∧ Sx K X t env' ex)))
    (rest : (∀ j, j < n → o j = false) → Sx K X u (Inv n) oc) : Sx K X (tSeq (tFor (iZip K (tCons ta (tCons tb tNil))) g t) u) env oc := fun σ H H1 st D q => by
  refine h σ H H1 st _ fun v1 G1 H2 f1 dv1 => h' σ G1 H2 (st.mono f1) _ fun v2 G0 H3 f2 dv2 => ?_
  have dv1' := dm f2.g dv1
  have ff := f1.tr0 f2
  clear dv1
  cases dv1' with
  | @lst a vs _ hl hd =>
    cases dv2 with
    | @lst b ws _ hl' hd' =>
      have f' : Fr (Ow σ env) H H1 G0 H3 := ff.mono fun _ z => z.elim
      have l1 : vs.length = ds.length := dpa_len hd
      have l2 : ws.length = es.length := dpa_len hd'
      refine ⟨a, b, vs, ws, rfl, ff.r.seq hl, ff.r.seq hl', fun i m σ' H' => m = n - i ∧ i ≤ n ∧ Pt K (Ow σ env) G0 H3 Inv i σ' H' ∧ ∀ j, j < i → o j = false, ⟨n, rfl, Nat.zero_le _, ⟨G0, Fr.refl ff.r, by rw [h0]; exact st.mono ff, fun l z => .inl (by rw [h0] at z; exact z)⟩, fun j hj => absurd hj (Nat.not_lt_zero j)⟩, ?_⟩
      rintro i m σ' H' ⟨rfl, hi, ⟨G, fr, st2, ow⟩, hj⟩
      have s1 : SqL K H' a vs := fr.r.seq (fr.g.seq hl)
      have s2 : SqL K H' b ws := fr.r.seq (fr.g.seq hl')
      by_cases hlt : i < n
      · have i1 : i < vs.length := by omega
        have i2 : i < ws.length := by omega
        have i3 : i < ds.length := by omega
        have i4 : i < es.length := by omega
        refine .inr ⟨⟨vs, ws, vs[i], ws[i], s1, s2, List.getElem?_eq_getElem i1, List.getElem?_eq_getElem i2⟩, fun σ' H' => Pt K (Ow σ env) G0 H3 Inv (i + 1) σ' H' ∧ ∀ j, j < i + 1 → o j = false, fun σ2 Hx p => ⟨n - (i + 1), by omega, rfl, hlt, p⟩, fun x Hx y => ?_⟩
        obtain ⟨Tn, x1, x2, rfl, hT, rfl, y1, y2⟩ := y
        obtain ⟨d1, e1, e2⟩ := dpa_get hd (y1 vs s1)
        obtain ⟨d2, e3, e4⟩ := dpa_get hd' (y2 ws s2)
        obtain ⟨env', tg, g1, g2⟩ := go i d1 d2 hlt e1 e3 hj
        have fT : Fr0 G H' (upd G Tn (.tup [x1, x2])) (upd H' Tn (.tup [x1, x2])) := Fr.new fr.r hT
        have fr2 : Fr (Ow σ env) G0 H3 (upd G Tn (.tup [x1, x2])) (upd H' Tn (.tup [x1, x2])) := fr.tr0 fT
        refine tg σ' _ _ (.ref Tn) (st2.mono fT) (.tup (.inl (.inl upd_same)) (.cons (dm fr2.g e2) (.cons (dm fr2.g e4) .nil))) _ fun σ2 st3 o3 => ?_
        have ow3 : ∀ l, Ow σ2 env' l → Ow σ env l ∨ H3 l = none := fun l z => ow l (o3 l z)
        cases hoi : o i with
        | false =>
          have nx : ∀ σ3 G3 Hy, Fr (Ow σ2 env') (upd G Tn (.tup [x1, x2])) (upd H' Tn (.tup [x1, x2])) G3 Hy → Stt K G3 Hy σ3 (Inv (i + 1)) → (∀ l, Ow σ3 (Inv (i + 1)) l → Ow σ2 env' l ∨ (upd H' Tn (.tup [x1, x2])) l = none) → Pt K (Ow σ env) G0 H3 Inv (i + 1) σ3 Hy ∧ ∀ j, j < i + 1 → o j = false := fun σ3 G3 Hy f3 st4 o4 =>
            ⟨⟨G3, fr2.trans f3 ow3, st4, fun l z => (o4 l z).elim (ow3 l) fun z => .inr (fr2.m l z)⟩, fun j hj' => by
              rcases Nat.lt_succ_iff_lt_or_eq.mp hj' with z | z
              · exact hj j z
              · rw [z]; exact hoi⟩
          rcases g1 hoi with w | w
          · exact w σ2 _ _ st3 _ nx
          · exact w σ2 _ _ st3 _ nx
        | true =>
          obtain ⟨eo, w⟩ := g2 hoi
          refine w σ2 _ _ st3 _ ?_
          have q' : OcOk K X (Ow σ2 env') D (upd G Tn (.tup [x1, x2])) (upd H' Tn (.tup [x1, x2])) ex := by
            rw [eo] at q
            refine (q.tr f' fun l z => .inl z).tr fr2 ow3
          cases ex with
          | nx e => cases hx
          | bk e => exact absurd rfl (hb e)
          | ct e => exact absurd rfl (hc e)
          | ex c e => exact q'
          | rt d => exact q'
          | rl x => exact q'
          | rr v => exact q'
          | rw vs e => exact q'
          | rk xs => exact q'
          | rg k xs rs => exact q'
          | rb => exact q'
      · have ei : i = n := by omega
        subst ei
        refine .inl ⟨⟨vs, ws, s1, s2, by omega⟩, ?_⟩
        exact rest hj σ' G H' st2 D ((q.tr f' fun l z => .inl z).tr fr ow)
end
end Pf

namespace Pf
open PySem PySem.Spec PyProof.Rows L2
/-! ### list(range(n)) -/
theorem vals_of : ∀ (xs : List V) (us : List Value), xs.length = us.length → (∀ (i : Nat) x u, xs[i]? = some x → us[i]? = some u → L2.RelV x u) → Vals xs us
  | [], [], _, _ => .nil
  | [], _ :: _, h, _ => by cases h
  | _ :: _, [], h, _ => by cases h
  | x :: xs, u :: us, h, k => .cons (k 0 x u rfl rfl) (vals_of xs us (Nat.succ.inj h) fun i y v e1 e2 => k (i + 1) y v (by simpa using e1) (by simpa using e2))
def rRng1 : List V → Hp → VK → Prop := fun vs H Q => ∃ j, vs = [V.int j] ∧ ∀ p : Addr, H p = none → Q (.ref p) (upd H p (.rng 0 j))
theorem cr_range1 {X : Cx} : CallR X (.type "range") rRng1 := by
  intro pins s σ H vs us Q I r h
  obtain ⟨j, rfl, q⟩ := h
  obtain ⟨u, rfl, ru⟩ := Vals.one r
  obtain ⟨t, rfl⟩ := ru
  refine call_range_1 ⟨.ref _, _, I.laid (t' := s.toks + 1 + 1) (o := .rng 0 j) (fun b o e => Heap.get?_push_of_some _ e) (Nat.le_refl _) ⟨_, _, _, Heap.get?_push_size s.heap rfl⟩, rfl, q _ (I.hok.fresh (Nat.le_refl _))⟩
/-- 0, 1, .. -/
def upV (n : Nat) : List V := (List.range n).map fun (k : Nat) => V.int (k : Int)
def rLstR : List V → Hp → VK → Prop := fun vs H Q => ∃ (p : Addr) (n : Nat), vs = [.ref p] ∧ H p = some (.rng 0 (n : Int)) ∧ n ≤ 100000 ∧ ∀ l, H l = none → Q (.ref l) (upd H l (.lst (upV n)))
theorem call_list_rng {X : Cx} (hc : X.calm = true) : CallR X (.type "list") rLstR := by
  intro pins s σ H vs us Q I r h
  obtain ⟨p, n, rfl, hp, hn, q⟩ := h
  rw [Vals.ref1 r]
  obtain ⟨t1, t2, t3, ho⟩ := I.hok p _ hp
  refine call_list_range (n := n) (I.ok.hd hc) ho ?_ ?_ (Nat.le_trans hn (by decide)) fun h' tk acc c keep e its => ?_
  · have hs : Builtin.Range.rangeSize 0 (n : Int) 1 = (n : Int) := by
      unfold Builtin.Range.rangeSize; simp; omega
    have fl : ∀ k : Int, 0 ≤ k → k ≤ 100000 → Builtin.Range.rangeFitsLong k = true := fun k h0 h1 => by
      unfold Builtin.Range.rangeFitsLong; simp; omega
    unfold Builtin.Range.small
    simp [hs, fl 0 (by decide) (by decide), fl 1 (by decide) (by decide), fl (n : Int) (by omega) (by omega)]
  · unfold Builtin.Range.rangeSize; simp; omega
  · have hz : (upV n).length = n := by unfold upV; rw [List.length_map, List.length_range]
    refine ⟨.ref _, _, I.laid (t' := tk) keep (Nat.le_refl _) (o := .lst (upV n)) ⟨by rw [hz]; exact sz_ok hn, acc.toList, c, vals_of _ _ (by rw [hz, Array.length_toList]; exact its.1.symm) fun i x u e1 e2 => ?_, by simpa using e⟩, rfl, q _ (I.hok.fresh (Nat.le_refl _))⟩
    obtain ⟨t, rfl⟩ := its.2 i u (by simpa using e2)
    unfold upV at e1
    rw [List.getElem?_map] at e1
    cases ei : (List.range n)[i]? with
    | none => rw [ei] at e1; cases e1
    | some k =>
      rw [ei] at e1
      obtain rfl := Option.some.inj e1
      have : k = i := by
        have := List.getElem?_eq_some_iff.mp ei
        obtain ⟨h1, h2⟩ := this
        simpa using h2.symm
      subst this
      exact ⟨t, by simp⟩
theorem exm_of {K : PySem.W.Frag} {c e : Addr} {v : Bool} (h1 : PySem.W.subIn K (.ref c) (.type "BaseException") = some true) (h2 : PySem.W.isClsIn K c = true) (h3 : PySem.W.typeIn K (.ref c) = some (.type "type")) (h4 : PySem.W.subIn K (.ref e) (.ref c) = some v) : PySem.W.exmOne K (.ref e) (.ref c) = some v := by
  have q1 : (PySem.W.subIn K (.ref c) (.type "BaseException") == some true) = true := by rw [h1]; rfl
  have q2 : ((PySem.W.clsIn K c).isSome && PySem.W.typeIn K (.ref c) == some (.type "type")) = true := by
    have : (PySem.W.clsIn K c).isSome = true := h2
    rw [this, h3]; rfl
  show (if (PySem.W.subIn K (.ref c) (.type "BaseException") == some true) = true then (if ((PySem.W.clsIn K c).isSome && PySem.W.typeIn K (.ref c) == some (.type "type")) = true then PySem.W.subIn K (.ref e) (.ref c) else none) else none) = some v
  rw [if_pos q1, if_pos q2]; exact h4
section
variable {K : PySem.W.Frag} {env : List SV} {ta : TE}
/-- list(range(n)) -/
theorem eo_listR {n : Nat} (ha : Ev K ta env (.int (n : Int))) (hn : n ≤ 100000) : EvO K (tCB rLstR (tCons (tCB rRng1 (tCons ta tNil)) tNil)) env ((List.range n).map fun (k : Nat) => PyData.int (k : Int)) := fun σ H H1 st Q q =>
  ha σ H H1 st _ fun v G H2 f d => by
    cases d
    refine ⟨n, rfl, fun p hp => ⟨p, n, rfl, upd_same, hn, fun l hl => ?_⟩⟩
    have f2 : Fr0 G H2 G (upd H2 p (.rng 0 (n : Int))) := Fr.hid f.r hp
    have f3 : Fr0 G (upd H2 p (.rng 0 (n : Int))) G (upd (upd H2 p (.rng 0 (n : Int))) l (.lst (upV n))) := Fr.hid f2.r hl
    have hl2 : H2 l = none := upd_none hl
    refine q l (upV n) G _ ((f.tr0 f2).tr0 f3) (f.m l hl2) (f.r.free hl2) upd_same ?_
    have e : ∀ ks : List Nat, DpAll K G (ks.map fun (k : Nat) => V.int (k : Int)) (ks.map fun (k : Nat) => PyData.int (k : Int)) := fun ks => by
      induction ks with
      | nil => exact .nil
      | cons k r ih => exact .cons (.int _) ih
    exact e _
/-- sorted([a, b]) -/
theorem eo_sorted2 {a b : Int} (ha : EvL K ta env [.int a, .int b]) : EvO K (tCB (rSorted K) (tCons ta tNil)) env [.int (if a ≤ b then a else b), .int (if a ≤ b then b else a)] := fun σ H H1 st Q q =>
  ha σ H H1 st _ fun p vs G H2 f h2 dv => by
    have e := dpa_ints (ns := [a, b]) dv
    subst e
    refine ⟨p, [a, b], rfl, .inl (.inl h2), Nat.le_of_ble_eq_true rfl, fun ns' r hp hs hr => ?_⟩
    have e : ns' = [(if a ≤ b then a else b), (if a ≤ b then b else a)] := by
      have hl := hp.length_eq
      match ns', hl with
      | [x, y], _ =>
        have h1 : x ≤ y := (List.pairwise_cons.mp hs).1 y (by simp)
        have m1 : x ∈ [a, b] := hp.mem_iff.mp (by simp)
        have m2 : y ∈ [a, b] := hp.mem_iff.mp (by simp)
        have m3 : a ∈ [x, y] := hp.mem_iff.mpr (by simp)
        have m4 : b ∈ [x, y] := hp.mem_iff.mpr (by simp)
        simp only [List.mem_cons, List.not_mem_nil, or_false] at m1 m2 m3 m4
        by_cases c : a ≤ b
        · rw [if_pos c, if_pos c]
          have : x = a ∧ y = b := by omega
          rw [this.1, this.2]
        · rw [if_neg c, if_neg c]
          have : x = b ∧ y = a := by omega
          rw [this.1, this.2]
    subst e
    refine q r _ G _ (f.tr0 (Fr.hid f.r hr)) (f.a.free hr) (f.r.free hr) upd_same ?_
    exact .cons (.int _) (.cons (.int _) .nil)
end
end Pf
namespace Pf
open PySem PySem.Spec PyProof.Rows L2
section
variable {K : PySem.W.Frag} {X : WX} {env env1 : List SV} {ta : TE} {t : TS} {oc : Oc} {xs : List PyData}
/-- any(a list of truth values) -/
theorem ev_any {bs : List Bool} (ha : EvL K ta env (bs.map .bool)) : Ev K (tCB (rAny K) (tCons ta tNil)) env (.bool (bs.any id)) := fun σ H H1 st Q q =>
  ha σ H H1 st _ fun p vs G H2 f h2 dv => by
    have e := dpa_bls dv
    subst e
    exact ⟨p, bs, rfl, .inl (.inl h2), q _ G H2 f (.bl _)⟩
/-- xs[1:] -/
theorem cutD_from (xs : List PyData) (a : Nat) : cutD xs (some (a : Int)) none = xs.drop a := by
  unfold cutD
  rw [HT.sIx_nat]
  have e : HT.sIx xs.length xs.length none = xs.length := rfl
  rw [e]
  by_cases c : a ≤ xs.length
  · rw [Nat.min_eq_left c]
    exact List.take_of_length_le (by rw [List.length_drop]; omega)
  · have e1 : xs.drop a = [] := List.drop_eq_nil_of_le (by omega)
    have e2 : xs.drop (min a xs.length) = [] := List.drop_eq_nil_of_le (by omega)
    rw [e1, e2, List.take_nil]
theorem sx_last (h : Sx K X (tSeq t tNext) env oc) : Sx K X t env oc := h
end
end Pf
namespace Pf
open PySem PySem.Spec PyProof.Rows L2
theorem sx_raise {K : PySem.W.Frag} {X : WX} {env : List SV} {c : Value} : Sx K X (fun _ σ H => X c none σ H) env (.ex c env) := fun σ H H1 st D q => q σ H H1 (Fr.refl st.e) st fun l z => .inl z
end Pf
namespace Pf
open PySem PySem.Spec PyProof.Rows L2
section
variable {K : PySem.W.Frag} {X : WX} {env env1 : List SV} {ta : TE} {t u : TS} {oc : Oc} {xs : List PyData}
/-- for over range(a, b), a turn may end the whole -/
theorem sx_forR2E {n : Nat} {aa : TA} {g : TG} {lo k : Int} (h : EvA K aa env [.int lo, .int k]) (hk : -100000 ≤ k ∧ k ≤ 100000) (hlo : -100000 ≤ lo ∧ lo ≤ 100000) (hn : (k - lo).toNat = n) (Inv : Nat → List SV) (h0 : Inv 0 = env) (o : Nat → Bool) (ex : Oc) (hx : ex.isNx = false) (hb : ∀ e, ex ≠ .bk e) (hc : ∀ e, ex ≠ .ct e)
    (go : ∀ i : Nat, i < n → (∀ j, j < i → o j = false) → ∃ env', Tg K g (Inv i) (.int (lo + i)) env' ∧ ((o i = false → Go K X t env' (Inv (i + 1))) ∧ (o i = true → oc = ex ∧ Sx K X t env' ex)))
    (rest : (∀ j, j < n → o j = false) → Sx K X u (Inv n) oc) : Sx K X (tSeq (tFor (iRng2 aa) g t) u) env oc := fun σ H H1 st D q => by
  refine h σ H H1 st _ fun vs G0 H2 f dv => ?_
  cases dv with
  | cons a b =>
    cases b with
    | cons b c =>
      cases c; cases a; cases b
      have f' : Fr (Ow σ env) H H1 G0 H2 := f.mono fun _ z => z.elim
      refine ⟨lo, k, rfl, by omega, for_range (lo := lo) (n := (k - lo).toNat) (fun i σ' H' => Pt K (Ow σ env) G0 H2 Inv i σ' H' ∧ ∀ j, j < i → o j = false) ⟨⟨G0, Fr.refl f.r, by rw [h0]; exact st.mono f, fun l z => .inl (by rw [h0] at z; exact z)⟩, fun j hj => absurd hj (Nat.not_lt_zero j)⟩ (fun i σ' H' hi p => ?_) (fun σ' H' p => ?_)⟩
      · obtain ⟨⟨G, f2, st2, ow⟩, hj⟩ := p
        obtain ⟨env', tg, g1, g2⟩ := go i (by omega) hj
        refine tg σ' G H' _ st2 (.int _) _ fun σ2 st3 o3 => ?_
        have ow3 : ∀ l, Ow σ2 env' l → Ow σ env l ∨ H2 l = none := fun l z => ow l (o3 l z)
        cases hoi : o i with
        | false =>
          have nx : ∀ σ3 G3 H3, Fr (Ow σ2 env') G H' G3 H3 → Stt K G3 H3 σ3 (Inv (i + 1)) → (∀ l, Ow σ3 (Inv (i + 1)) l → Ow σ2 env' l ∨ H' l = none) → Pt K (Ow σ env) G0 H2 Inv (i + 1) σ3 H3 ∧ ∀ j, j < i + 1 → o j = false := fun σ3 G3 H3 f3 st4 o4 =>
            ⟨⟨G3, f2.trans f3 ow3, st4, fun l z => (o4 l z).elim (ow3 l) fun z => .inr (f2.m l z)⟩, fun j hj' => by
              rcases Nat.lt_succ_iff_lt_or_eq.mp hj' with z | z
              · exact hj j z
              · rw [z]; exact hoi⟩
          rcases g1 hoi with w | w
          · exact w σ2 G H' st3 _ nx
          · exact w σ2 G H' st3 _ nx
        | true =>
          obtain ⟨eo, w⟩ := g2 hoi
          refine w σ2 G H' st3 _ ?_
          have q' : OcOk K X (Ow σ2 env') D G H' ex := by
            rw [eo] at q
            refine (q.tr f' fun l z => .inl z).tr f2 ow3
          cases ex with
          | nx e => cases hx
          | bk e => exact absurd rfl (hb e)
          | ct e => exact absurd rfl (hc e)
          | ex c e => exact q'
          | rt d => exact q'
          | rl x => exact q'
          | rr v => exact q'
          | rw vs e => exact q'
          | rk xs => exact q'
          | rg k xs rs => exact q'
          | rb => exact q'
      · obtain ⟨⟨G, f2, st2, ow⟩, hj⟩ := p
        rw [hn] at st2 ow hj
        exact rest hj σ' G H' st2 D ((q.tr f' fun l z => .inl z).tr f2 ow)
end
end Pf
namespace Pf
open PySem PySem.Spec PyProof.Rows L2
theorem turn_by {K : PySem.W.Frag} {X : WX} {env env2 : List SV} {t : TS} {oc oc' ex : Oc} {b : Bool} (h : Sx K X t env oc') (h0 : b = false → oc' = .nx env2) (h1 : b = true → oc = ex ∧ oc' = ex) : (b = false → Go K X t env env2) ∧ (b = true → oc = ex ∧ Sx K X t env ex) :=
  ⟨fun z => .inl (h.to (h0 z)), fun z => ⟨(h1 z).1, h.to (h1 z).2⟩⟩
end Pf
namespace Pf
open PySem PySem.Spec PyProof.Rows L2
theorem te_K {X : Cx} {K : PySem.W.Frag} {e : Expr} {T : String} {r : V → List V → Hp → VK → Prop} {o : TE} {t : TA} (h : PE X e (tBM X.K T r o t)) (hK : X.K = K) : PE X e (tBM K T r o t) := hK ▸ h
end Pf

namespace Pf
open PySem PySem.Spec PyProof.Rows L2
section
variable {K : PySem.W.Frag} {X : WX} {env env1 env2 : List SV} {ta tb tc te tl ti : TE} {aa : TA} {t u ts : TS} {tt : TT} {d e : PyData} {i j k : Nat} {xs ys ds : List PyData} {oc : Oc} {P : Oc → Prop} {H H1 G H2 : Hp} {σ : L2.St} {l : Addr} {v w : V} {vs : List V}
/-- a slot is told otherwise -/
theorem Stt.re {s s' : SV} (h : Stt K H H1 σ env) (hi : env[i]? = some s) (ok : ∀ o, σ[i]? = some o → OkS K H H1 o s → OkS K H H1 o s') (ow : s'.isOwn = true → s.isOwn = true) : Stt K H H1 σ (env.set i s') := by
  have hl : i < env.length := (List.getElem?_eq_some_iff.mp hi).1
  have own : ∀ (j : Nat) z, (env.set i s')[j]? = some z → z.isOwn = true → ∃ z', env[j]? = some z' ∧ z'.isOwn = true := fun j z b o => by
    by_cases c : i = j
    · subst c
      rw [List.getElem?_set_self hl] at b; cases b
      exact ⟨s, hi, ow o⟩
    · rw [List.getElem?_set_ne c] at b
      exact ⟨z, b, o⟩
  refine ⟨h.e, by rw [List.length_set]; exact h.l, fun j o z a b => ?_, fun j k z z' l hjk b1 b2 o1 o2 a1 => ?_⟩
  · by_cases c : i = j
    · subst c
      rw [List.getElem?_set_self hl] at b; cases b
      exact ok o a (h.ok i o s a hi)
    · rw [List.getElem?_set_ne c] at b
      exact h.ok j o z a b
  · obtain ⟨y, e1, e2⟩ := own j z b1 o1
    obtain ⟨y', e3, e4⟩ := own k z' b2 o2
    exact h.ne j k y y' l hjk e1 e3 e2 e4 a1
theorem Ow.re {s s' : SV} (hi : env[i]? = some s) (ow : s'.isOwn = true → s.isOwn = true) {p : Addr} (z : Ow σ (env.set i s') p) : Ow σ env p := by
  have hl : i < env.length := (List.getElem?_eq_some_iff.mp hi).1
  obtain ⟨j, y, a, b, c⟩ := z
  by_cases e : i = j
  · subst e
    rw [List.getElem?_set_self hl] at a; cases a
    exact ⟨i, s, hi, ow b, c⟩
  · rw [List.getElem?_set_ne e] at a
    exact ⟨j, y, a, b, c⟩
theorem Stt.ownA (st : Stt K H H1 σ env) (h : env[i]? = some (.ownA l xs)) : ∃ vs, σ[i]? = some (some (.ref l)) ∧ H l = none ∧ H1 l = some (.lst vs) ∧ DpAll K H vs xs := by
  obtain ⟨o, a, b⟩ := st.get h
  obtain ⟨rfl, vs, c⟩ := b
  exact ⟨vs, a, c⟩
/-- a slot takes what is not its own -/
theorem Stt.setV {s₀ : SV} (h : Stt K H H1 σ env) (h0 : s₀.isOwn = false) (ok : OkS K H H1 (some v) s₀) : Stt K H H1 (σ.set i (some v)) (env.set i s₀) := by
  refine ⟨h.e, by rw [List.length_set, List.length_set]; exact h.l, fun j o s a b => ?_, fun j k s t l hjk b1 b2 o1 o2 a1 => ?_⟩
  · by_cases c : i = j
    · subst c
      have hi : i < σ.length := by have := (List.getElem?_eq_some_iff.mp a).1; rwa [List.length_set] at this
      have hi' : i < env.length := by rw [← h.l]; exact hi
      rw [List.getElem?_set_self hi] at a
      rw [List.getElem?_set_self hi'] at b
      cases a; cases b
      exact ok
    · rw [List.getElem?_set_ne c] at a b
      exact h.ok j o s a b
  · have c1 : i ≠ j := fun c => by
      subst c
      have hi' : i < env.length := by have := (List.getElem?_eq_some_iff.mp b1).1; rwa [List.length_set] at this
      rw [List.getElem?_set_self hi'] at b1
      cases b1; rw [h0] at o1; cases o1
    have c2 : i ≠ k := fun c => by
      subst c
      have hi' : i < env.length := by have := (List.getElem?_eq_some_iff.mp b2).1; rwa [List.length_set] at this
      rw [List.getElem?_set_self hi'] at b2
      cases b2; rw [h0] at o2; cases o2
    rw [List.getElem?_set_ne c1] at a1 b1
    rw [List.getElem?_set_ne c2] at b2 ⊢
    exact h.ne j k s t l hjk b1 b2 o1 o2 a1
/-- one's own list gets its place's name -/
theorem sn_name (i : Nat) (h : env[i]? = some (.own xs)) (k : ∀ l, Sn K X t (env.set i (.ownA l xs)) P) : Sn K X t env P := fun σ H H1 st D q => by
  obtain ⟨l, vs, a, b, c, dv⟩ := st.own h
  have st' : Stt K H H1 σ (env.set i (.ownA l xs)) := st.re h (fun o e _ => by
    rw [a] at e; cases e
    exact ⟨rfl, vs, b, c, dv⟩) fun _ => rfl
  exact k l σ H H1 st' D fun oc p => (q oc p).tr (Fr.refl st.e) fun p z => .inl (Ow.re h (fun _ => rfl) z)
/-! values as they are -/
theorem er_own (h : env[i]? = some (.ownA l xs)) : Er K (tVar i) env (.ref l) := fun σ H H1 st Q q => by
  obtain ⟨vs, a, _⟩ := st.ownA h
  exact ⟨_, a, q H H1 (Fr.refl st.e)⟩
theorem er_dat (h : env[i]? = some (.dat d)) (hv : fv d = some v) : Er K (tVar i) env v := fun σ H H1 st Q q => by
  obtain ⟨w, a, b⟩ := st.dat h
  cases dp_fv hv b
  exact ⟨_, a, q H H1 (Fr.refl st.e)⟩
theorem er_rd (h : env[i]? = some (.rd v d)) : Er K (tVar i) env v := fun σ H H1 st Q q => by
  obtain ⟨o, a, b⟩ := st.get h
  obtain ⟨rfl, _⟩ := b
  exact ⟨_, a, q H H1 (Fr.refl st.e)⟩
theorem ev_rd (h : env[i]? = some (.rd v d)) : Ev K (tVar i) env d := fun σ H H1 st Q q => by
  obtain ⟨o, a, b⟩ := st.get h
  obtain ⟨rfl, b⟩ := b
  exact ⟨_, a, q _ H H1 (Fr.refl st.e) b⟩
theorem Stt.tupv (st : Stt K H H1 σ env) (h : env[i]? = some (.tupv vs)) : ∃ p, σ[i]? = some (some (.ref p)) ∧ SqT K H p vs := by
  obtain ⟨o, a, b⟩ := st.get h
  obtain ⟨p, rfl, c⟩ := b
  exact ⟨p, a, c⟩
theorem er_tix {n : Int} (h : env[i]? = some (.tupv vs)) (hn : atI vs n = some v) : Er K (tOp (rIxT K) (tVar i) (tC (.int n))) env v := fun σ H H1 st Q q => by
  obtain ⟨p, a, c⟩ := st.tupv h
  exact ⟨_, a, _, _, n, v, rfl, rfl, sqt st.e c, hn, q H H1 (Fr.refl st.e)⟩
def ErA (K : PySem.W.Frag) (ta : TA) (env : List SV) (vs : List V) : Prop := ∀ σ H H1, Stt K H H1 σ env → ∀ Q : List V → Hp → Prop, (∀ G H2, Fr0 H H1 G H2 → Q vs H2) → ta σ H1 Q
theorem era_nil : ErA K tNil env [] := fun σ H H1 st Q q => q H H1 (Fr.refl st.e)
theorem era_cons {tr : TA} (ha : Er K ta env v) (hr : ErA K tr env vs) : ErA K (tCons ta tr) env (v :: vs) := fun σ H H1 st Q q =>
  ha σ H H1 st _ fun G H2 f => hr σ G H2 (st.mono f) _ fun G3 H3 f3 => q G3 H3 (f.tr0 f3)
/-- (a, b, ..), told as it is -/
theorem sx_setT (h : ErA K aa env vs) (hl : vs.length ≤ 100000) : Sx K X (tAsg (tTup aa) (gName i)) env (.nx (env.set i (.tupv vs))) := fun σ H H1 st D q =>
  h σ H H1 st _ fun G H2 f => ⟨sz_ok hl, fun p hp => by
    have n : Fr0 G H2 (upd G p (.tup vs)) (upd H2 p (.tup vs)) := Fr.new f.r hp
    have st2 := st.mono (f.tr0 n)
    refine q _ _ _ ((f.tr0 n).mono fun _ z => z.elim) (st2.setO (show OkS K (upd G p (.tup vs)) (upd H2 p (.tup vs)) (some (.ref p)) (.tupv vs) from ⟨p, rfl, .inl (.inl upd_same)⟩) fun j s b1 b2 _ z => ?_) fun l z => ?_
    · have h0 := (st.mono f).owned ⟨j, s, b1, b2, z⟩
      exact h0.2 hp
    · rcases Ow.set z with z | ⟨z, _⟩
      · exact .inl z
      · cases z⟩
theorem sx_retT (h : ErA K aa env vs) (hl : vs.length ≤ 100000) : Sx K X (tRet (tTup aa)) env (.rw vs env) := fun σ H H1 st D q =>
  h σ H H1 st _ fun G H2 f => ⟨sz_ok hl, fun p hp => by
    have n : Fr0 G H2 (upd G p (.tup vs)) (upd H2 p (.tup vs)) := Fr.new f.r hp
    exact q p σ _ _ ((f.tr0 n).mono fun _ z => z.elim) (.inl (.inl upd_same)) (st.mono (f.tr0 n)) fun l z => .inl z⟩
theorem sx_retR (h : Er K te env v) : Sx K X (tRet te) env (.rr v) := fun σ H H1 st D q =>
  h σ H H1 st _ fun G H2 f => q G H2 (f.mono fun _ z => z.elim)
theorem el_A (h : env[i]? = some (.ownA l xs)) : EvL K (tVar i) env xs := fun σ H H1 st Q q => by
  obtain ⟨vs, a, b, c, dv⟩ := st.ownA h
  exact ⟨_, a, q l vs H H1 (Fr.refl st.e) c dv⟩
theorem el_er (h : Er K te env (.ref l)) (h' : env[i]? = some (.ownA l xs)) : EvL K te env xs := fun σ H H1 st Q q =>
  h σ H H1 st _ fun G H2 f => by
    obtain ⟨vs, a, b, c, dv⟩ := (st.mono f).ownA h'
    exact q l vs G H2 f c dv
/-! writing to one's own -/
theorem Stt.write {s s' : SV} {o : HO} (st : Stt K H H1 σ env) (h : env[i]? = some s) (ho : s.isOwn = true) (a : σ[i]? = some (some (.ref l))) (ok : OkS K H (upd H1 l o) (some (.ref l)) s') (o' : s'.isOwn = true) :
    Stt K H (upd H1 l o) σ (env.set i s') ∧ Fr (Ow σ env) H H1 H (upd H1 l o) ∧ ∀ p, Ow σ (env.set i s') p → Ow σ env p := by
  have hw : Ow σ env l := ⟨i, _, h, ho, a⟩
  have b := (st.owned hw).1
  have hi : i < env.length := (List.getElem?_eq_some_iff.mp h).1
  have e2 : Same H (upd H1 l o) := fun p o z => by
    rw [upd_ne (ne_of_none z b)]; exact st.e p o z
  refine ⟨⟨e2, by rw [List.length_set]; exact st.l, fun j x z ea eb => ?_, fun j k z z' p hjk b1 b2 o1 o2 a1 => ?_⟩, ⟨Same.refl _, e2, fun p x nw z => ?_, fun p nw z _ => z, fun p z => upd_none z⟩, fun p z => Ow.re h (fun _ => ho) z⟩
  · by_cases ej : i = j
    · subst ej
      rw [a] at ea; cases ea
      rw [List.getElem?_set_self hi] at eb; cases eb
      exact ok
    · rw [List.getElem?_set_ne ej] at eb
      have okj := st.ok j x z ea eb
      cases z with
      | no => trivial
      | dat d => exact okj
      | own zs =>
        obtain ⟨l2, ws, q1, q2, q3, q4⟩ := okj
        subst q1
        have n : l2 ≠ l := fun z => st.ne i j _ _ l ej h eb ho rfl a (z ▸ ea)
        exact ⟨l2, ws, rfl, q2, by rw [upd_ne n]; exact q3, q4⟩
      | obj x =>
        obtain ⟨l2, q1, q2, q3⟩ := okj
        subst q1
        have n : l2 ≠ l := fun z => st.ne i j _ _ l ej h eb ho rfl a (z ▸ ea)
        exact ⟨l2, rfl, q2, by rw [upd_ne n]; exact q3⟩
      | raw v => exact okj
      | dct P w kvs =>
        obtain ⟨l2, ws, q1, q2, q3, q4⟩ := okj
        subst q1
        have n : l2 ≠ l := fun z => st.ne i j _ _ l ej h eb ho rfl a (z ▸ ea)
        exact ⟨l2, ws, rfl, q2, by rw [upd_ne n]; exact q3, q4⟩
      | dcf P w kvs => exact okj
      | kl xs => exact okj
      | kpg k xs rs => exact okj
      | kep n xs ys => exact okj
      | rd v d => exact okj
      | tupv ws => exact okj
      | ownA l2 zs =>
        obtain ⟨q1, ws, q2, q3, q4⟩ := okj
        subst q1
        have n : l2 ≠ l := fun z => st.ne i j _ _ l ej h eb ho rfl a (z ▸ ea)
        exact ⟨rfl, ws, q2, by rw [upd_ne n]; exact q3, q4⟩
  · have ow : ∀ (j : Nat) y, (env.set i s')[j]? = some y → y.isOwn = true → ∃ y', env[j]? = some y' ∧ y'.isOwn = true := fun j y bb oo => by
      by_cases c : i = j
      · subst c; exact ⟨s, h, ho⟩
      · rw [List.getElem?_set_ne c] at bb; exact ⟨y, bb, oo⟩
    obtain ⟨y, e1, e2⟩ := ow j z b1 o1
    obtain ⟨y', e3, e4⟩ := ow k z' b2 o2
    exact st.ne j k y y' p hjk e1 e3 e2 e4 a1
  · have n : p ≠ l := fun z => nw (z ▸ hw)
    rw [upd_ne n]; exact z
theorem dpa_set {v : V} {d : PyData} : ∀ {vs : List V} {ds : List PyData} (n : Nat), DpAll K H vs ds → Dp K H v d → DpAll K H (vs.set n v) (ds.set n d)
  | _, _, _, .nil, _ => .nil
  | _, _, 0, .cons _ b, h => .cons h b
  | _, _, n + 1, .cons a b, h => .cons a (dpa_set n b h)
/-- xs[k] = e, the list at a named place -/
theorem sx_setIA {n : Int} {j : Nat} (h : env[i]? = some (.ownA l xs)) (he : Ev K te env d) (hk : Ev K ti env (.int n)) (hj : ixN xs.length n = some j) : Sx K X (tAsg te (gSub (tVar i) ti rSetL)) env (.nx (env.set i (.ownA l (xs.set j d)))) := fun σ H H1 st D q =>
  he σ H H1 st _ fun v G H2 f dv => by
    have st2 := st.mono f
    obtain ⟨vs, a, b, c, dl⟩ := st2.ownA h
    refine ⟨_, a, hk σ G H2 st2 _ fun x G3 H3 f3 dx => ?_⟩
    cases dx
    have st3 := st2.mono f3
    obtain ⟨vs, a, b, c, dl⟩ := st3.ownA h
    refine ⟨l, vs, n, j, rfl, rfl, c, by rw [dpa_len dl]; exact hj, ?_⟩
    obtain ⟨w1, w2, w3⟩ := st3.write (o := .lst (vs.set j v)) (s' := .ownA l (xs.set j d)) h rfl a ⟨rfl, vs.set j v, b, upd_same, dpa_set j dl (dm f3.g dv)⟩ rfl
    exact q σ _ _ (((f.tr0 f3).mono fun _ z => z.elim).trans w2 fun p z => .inl z) w1 fun p z => .inl (w3 p z)
/-- xs[k] = e, one's own list -/
theorem sx_setI {n : Int} {j : Nat} (h : env[i]? = some (.own xs)) (he : Ev K te env d) (hk : Ev K ti env (.int n)) (hj : ixN xs.length n = some j) : Sx K X (tAsg te (gSub (tVar i) ti rSetL)) env (.nx (env.set i (.own (xs.set j d)))) := fun σ H H1 st D q =>
  he σ H H1 st _ fun v G H2 f dv => by
    have st2 := st.mono f
    obtain ⟨l, vs, a, b, c, dl⟩ := st2.own h
    refine ⟨_, a, hk σ G H2 st2 _ fun x G3 H3 f3 dx => ?_⟩
    cases dx
    have st3 := st2.mono f3
    obtain ⟨l', vs', a', b', c', dl'⟩ := st3.own h
    rw [a] at a'; cases a'
    refine ⟨l, vs', n, j, rfl, rfl, c', by rw [dpa_len dl']; exact hj, ?_⟩
    obtain ⟨w1, w2, w3⟩ := st3.write (o := .lst (vs'.set j v)) (s' := .own (xs.set j d)) h rfl a ⟨l, vs'.set j v, rfl, b', upd_same, dpa_set j dl' (dm f3.g dv)⟩ rfl
    exact q σ _ _ (((f.tr0 f3).mono fun _ z => z.elim).trans w2 fun p z => .inl z) w1 fun p z => .inl (w3 p z)
/-- o.append(e), o the list at a named place -/
theorem sx_appA (ho : Er K ta env (.ref l)) (h : env[i]? = some (.ownA l xs)) (he : Ev K te env d) (hz : xs.length < 100000) : Sx K X (tDrop (tBM K "list" rAppend ta (tCons te tNil))) env (.nx (env.set i (.ownA l (xs ++ [d])))) := fun σ H H1 st D q =>
  ho σ H H1 st _ fun G H2 f => by
    have st2 := st.mono f
    obtain ⟨vs, a, b, c, dl⟩ := st2.ownA h
    refine ⟨.inl ⟨rfl, _, .inl (.inl c)⟩, he σ G H2 st2 _ fun v G3 H3 f3 dv => ?_⟩
    have st3 := st2.mono f3
    obtain ⟨vs, a, b, c, dl⟩ := st3.ownA h
    refine ⟨l, vs, v, rfl, rfl, c, sz_lt (by rw [dpa_len dl]; exact hz), ?_⟩
    obtain ⟨w1, w2, w3⟩ := st3.write (o := .lst (vs ++ [v])) (s' := .ownA l (xs ++ [d])) h rfl a ⟨rfl, vs ++ [v], b, upd_same, dpa_app dl (.cons dv .nil)⟩ rfl
    exact q σ _ _ (((f.tr0 f3).mono fun _ z => z.elim).trans w2 fun p z => .inl z) w1 fun p z => .inl (w3 p z)
/-! lists at named places, lent as data -/
theorem Stt.freezeA (st : Stt K H H1 σ env) (h : env[i]? = some (.ownA l xs)) : ∃ vs : List V, H l = none ∧ H1 l = some (.lst vs) ∧ DpAll K H vs xs ∧ Stt K (upd H l (.lst vs)) H1 σ (env.set i (.dat (.list xs))) := by
  have hi : i < env.length := (List.getElem?_eq_some_iff.mp h).1
  obtain ⟨vs, a, b, c, dv⟩ := st.ownA h
  have st' : Stt K H H1 σ (env.set i (.own xs)) := st.re h (fun o e _ => by
    rw [a] at e; cases e
    exact ⟨l, vs, rfl, b, c, dv⟩) fun _ => rfl
  obtain ⟨l', vs', a', b', c', st2⟩ := st'.freeze (i := i) (xs := xs) (List.getElem?_set_self hi)
  rw [a] at a'; cases a'
  rw [c] at c'; cases c'
  rw [List.set_set] at st2
  exact ⟨vs, b, c, dv, st2⟩
theorem Stt.lend {l1 l2 : Addr} {n : Int} (st : Stt K H H1 σ env) (hi : env[i]? = some (.ownA l1 xs)) (hj : env[j]? = some (.ownA l2 ys)) (hk : env[k]? = some (.tupv [.int n, .ref l1, .ref l2])) (ij : i ≠ j) (ik : i ≠ k) (jk : j ≠ k) :
    ∃ H', Stt K H' H1 σ (((env.set i (.dat (.list xs))).set j (.dat (.list ys))).set k (.dat (.tuple [.int n, .list xs, .list ys]))) ∧ ∀ G H2, Fr0 H' H1 G H2 → Fr0 H H1 H H2 := by
  have hil : i < env.length := (List.getElem?_eq_some_iff.mp hi).1
  obtain ⟨vs, b1, c1, d1, st1⟩ := st.freezeA hi
  have hj' : (env.set i (.dat (.list xs)))[j]? = some (.ownA l2 ys) := by rw [List.getElem?_set_ne ij]; exact hj
  obtain ⟨ws, b2, c2, d2, st2⟩ := st1.freezeA hj'
  have hk' : ((env.set i (.dat (.list xs))).set j (.dat (.list ys)))[k]? = some (.tupv [.int n, .ref l1, .ref l2]) := by rw [List.getElem?_set_ne jk, List.getElem?_set_ne ik]; exact hk
  have s1 := newS (o := .lst vs) b1
  have s2 := newS (o := .lst ws) b2
  refine ⟨_, st2.re hk' (fun o _ ok => ?_) (fun z => nomatch z), fun G H2 f => ⟨Same.refl _, (s1.trans s2).trans (f.g.trans f.r), f.s, fun _ _ z _ => z, f.m⟩⟩
  obtain ⟨p, rfl, sq⟩ := ok
  have e1 : (upd (upd H l1 (.lst vs)) l2 (.lst ws)) l1 = some (.lst vs) := s2 _ _ upd_same
  exact ⟨_, rfl, .tup sq (.cons (.int n) (.cons (dp_list e1 (dms (s1.trans s2) d1)) (.cons (dp_list upd_same (dms s2 d2)) .nil)))⟩
theorem flat_ev {H : Hp} {w : V} (hd : fv d = some w) (h : Dp K G v d) : Dp K H v d := by
  revert hd
  cases h <;> intro hd
  · exact .non
  · exact .bl _
  · exact .int _
  · exact .str _
  · cases hd
  · cases hd
/-- within an expression whose answer is flat -/
theorem ev_lend {l1 l2 : Addr} {n : Int} (i j k : Nat) (hi : env[i]? = some (.ownA l1 xs)) (hj : env[j]? = some (.ownA l2 ys)) (hk : env[k]? = some (.tupv [.int n, .ref l1, .ref l2])) (ij : i ≠ j) (ik : i ≠ k) (jk : j ≠ k) (hd : fv d = some w)
    (h : Ev K te (((env.set i (.dat (.list xs))).set j (.dat (.list ys))).set k (.dat (.tuple [.int n, .list xs, .list ys]))) d) : Ev K te env d := fun σ H H1 st Q q => by
  obtain ⟨H', st', back⟩ := st.lend hi hj hk ij ik jk
  exact h σ H' H1 st' Q fun v G H2 f dv => q v H H2 (back G H2 f) (flat_ev hd dv)
theorem et_lend {b : Bool} {l1 l2 : Addr} {n : Int} (i j k : Nat) (hi : env[i]? = some (.ownA l1 xs)) (hj : env[j]? = some (.ownA l2 ys)) (hk : env[k]? = some (.tupv [.int n, .ref l1, .ref l2])) (ij : i ≠ j) (ik : i ≠ k) (jk : j ≠ k)
    (h : EvT K tt (((env.set i (.dat (.list xs))).set j (.dat (.list ys))).set k (.dat (.tuple [.int n, .list xs, .list ys]))) b) : EvT K tt env b := fun σ H H1 st Q q => by
  obtain ⟨H', st', back⟩ := st.lend hi hj hk ij ik jk
  exact h σ H' H1 st' Q fun G H2 f => q H H2 (back G H2 f)
/-! a def that gives its argument back -/
def spId (K : PySem.W.Frag) (R : PyData → Prop) (B : PyData → Value → Prop) : Sp := fun vs H1 Q E => ∃ H v d, Same H H1 ∧ vs = [v] ∧ Dp K H v d ∧ ((R d ∧ ∀ G H2, Fr0 H H1 G H2 → Q v H2) ∨ ∃ c, B d c ∧ ∀ G H2, Fr0 H H1 G H2 → E c none H2)
/-- te gives what the slot holds -/
def EvI (K : PySem.W.Frag) (te : TE) (env : List SV) (k : Nat) : Prop := ∀ σ H H1, Stt K H H1 σ env → ∀ Q : VK, (∀ v G H2, σ[k]? = some (some v) → Fr0 H H1 G H2 → Q v H2) → te σ H1 Q
theorem ei_call {R : PyData → Prop} {B : PyData → Value → Prop} {E : L2.St → XK} (h : env[k]? = some (.dat d)) (hr : R d) : EvI K (tCallS (spId K R B) E (tCons (tVar k) tNil)) env k := fun σ H H1 st Q q => by
  obtain ⟨v, a, b⟩ := st.dat h
  exact ⟨v, a, H, v, d, st.e, rfl, b, .inl ⟨hr, fun G H2 f => q v G H2 a f⟩⟩
theorem EvI.ev (h : EvI K te env k) (hk : env[k]? = some (.dat d)) : Ev K te env d := fun σ H H1 st Q q =>
  h σ H H1 st Q fun v G H2 a f => by
    obtain ⟨w, a', b⟩ := st.dat hk
    rw [a] at a'; cases a'
    exact q v G H2 f (dm f.g b)
theorem evx_callI {R : PyData → Prop} {B : PyData → Value → Prop} {c : Value} (h : env[k]? = some (.dat d)) (hb : B d c) : EvX K X (tCallS (spId K R B) (WE X) (tCons (tVar k) tNil)) env c := fun σ H H1 st Q q => by
  obtain ⟨v, a, b⟩ := st.dat h
  exact ⟨v, a, H, v, d, st.e, rfl, b, .inr ⟨c, hb, fun G H2 f => q G H2 f⟩⟩
/-- the same tuple, once more -/
theorem sx_setSame {l1 l2 : Addr} {n : Int} (i j k : Nat) {m : Nat} (hi : env[i]? = some (.ownA l1 xs)) (hj : env[j]? = some (.ownA l2 ys)) (hk : env[k]? = some (.tupv [.int n, .ref l1, .ref l2])) (ij : i ≠ j) (ik : i ≠ k) (jk : j ≠ k)
    (h : EvI K te (((env.set i (.dat (.list xs))).set j (.dat (.list ys))).set k (.dat (.tuple [.int n, .list xs, .list ys]))) k) : Sx K X (tAsg te (gName m)) env (.nx (env.set m (.tupv [.int n, .ref l1, .ref l2]))) := fun σ H H1 st D q => by
  obtain ⟨H', st', back⟩ := st.lend hi hj hk ij ik jk
  refine h σ H' H1 st' _ fun v G H2 a f => ?_
  have f' := back G H2 f
  have st2 := st.mono f'
  obtain ⟨p, a', sq⟩ := st2.tupv hk
  rw [a] at a'; cases a'
  refine q _ H H2 (f'.mono fun _ z => z.elim) (st2.setV rfl (show OkS K H H2 (some (.ref p)) (.tupv [.int n, .ref l1, .ref l2]) from ⟨p, rfl, sq⟩)) fun l z => ?_
  rcases Ow.set z with z | ⟨z, _⟩
  · exact .inl z
  · cases z
end
end Pf

namespace Pf
open PySem PySem.Spec PyProof.Rows L2
section
variable {K : PySem.W.Frag} {X : WX} {env env1 env2 : List SV} {ta tb tc te tl ti : TE} {aa : TA} {t u ts : TS} {tt : TT} {d e : PyData} {i j k : Nat} {xs ys ds : List PyData} {oc : Oc} {P : Oc → Prop} {H H1 G H2 : Hp} {σ : L2.St} {l : Addr} {v w : V} {vs : List V}
/-! a tuple's slice; a tuple's for that may end early -/
theorem ev_sliceT {a b : TO} {lo hi : Option Int} (h : Ev K te env (.tuple xs)) (ha : EvP K a env lo) (hb : EvP K b env hi) : Ev K (tSl (rSlA K) te a b) env (.tuple (cutD xs lo hi)) := fun σ H H1 st Q q =>
  h σ H H1 st _ fun v G H2 f d => ha σ G H2 (st.mono f) _ fun G2 H3 f2 => hb σ G2 H3 ((st.mono f).mono f2) _ fun G3 H4 f3 => by
    cases d with
    | @tup a vs _ hl hd =>
      have ff := (f.tr0 f2).tr0 f3
      have hd3 := dms (f2.g.trans f3.g) hd
      have hl3 : SqT K H4 a vs := sqt f3.r (sqt (f2.g.trans f3.g) hl)
      have hl4 : SqT K G3 a vs := sqt (f2.g.trans f3.g) hl
      refine ⟨a, vs, rfl, hl3, fun z => ?_, fun _ p hp => ?_⟩
      · have e : cutD xs lo hi = xs := by
          unfold cutD
          rw [← dpa_len hd, z.1, z.2]
          rw [List.drop_zero, List.take_of_length_le (by rw [← dpa_len hd]; omega)]
        rw [e] at q
        exact q _ G3 H4 ff (.tup hl4 hd3)
      · have n : Fr0 G3 H4 (upd G3 p (.tup (cutV vs lo hi))) (upd H4 p (.tup (cutV vs lo hi))) := Fr.new f3.r hp
        refine q _ _ _ (ff.tr0 n) (.tup (.inl (.inl upd_same)) (dms n.g ?_))
        unfold cutV cutD
        rw [dpa_len hd]
        exact dpa_take _ (dpa_drop _ hd3)
theorem sx_forTE {g : TG} (h : Ev K tl env (.tuple ds)) (Inv : Nat → List SV) (h0 : Inv 0 = env) (o : Nat → Bool) (ex : Oc) (hx : ex.isNx = false) (hb : ∀ e, ex ≠ .bk e) (hc : ∀ e, ex ≠ .ct e)
    (go : ∀ (i : Nat) (d : PyData), ds[i]? = some d → (∀ j, j < i → o j = false) → ∃ env', Tg K g (Inv i) d env' ∧ ((o i = false → Go K X t env' (Inv (i + 1))) ∧ (o i = true → oc = ex ∧ Sx K X t env' ex)))
    (rest : (∀ j, j < ds.length → o j = false) → Sx K X u (Inv ds.length) oc) : Sx K X (tSeq (tFor (iTup K tl) g t) u) env oc := fun σ H H1 st D q => by
  refine h σ H H1 st _ fun v G0 H2 f dv => ?_
  cases dv with
  | @tup a vs _ hl hd =>
    have f' : Fr (Ow σ env) H H1 G0 H2 := f.mono fun _ z => z.elim
    have stay : ∀ {G H' : Hp}, Fr (Ow σ env) G0 H2 G H' → SqT K H' a vs := fun {G H'} f2 => sqt f2.r (sqt f2.g hl)
    refine ⟨a, rfl, ⟨vs, sqt f.r hl⟩, for_tup (K := K) (a := a) (xs := vs) (fun i σ' H' => Pt K (Ow σ env) G0 H2 Inv i σ' H' ∧ ∀ j, j < i → o j = false) ⟨⟨G0, Fr.refl f.r, by rw [h0]; exact st.mono f, fun l z => .inl (by rw [h0] at z; exact z)⟩, fun j hj => absurd hj (Nat.not_lt_zero j)⟩ (fun i σ' H' _ p => ?_) (fun i x σ' H' hi p => ?_) (fun σ' H' p => ?_)⟩
    · obtain ⟨⟨G, f2, _, _⟩, _⟩ := p
      exact stay f2
    · obtain ⟨⟨G, f2, st2, ow⟩, hj⟩ := p
      obtain ⟨d, e1, e2⟩ := dpa_get hd hi
      obtain ⟨env', tg, g1, g2⟩ := go i d e1 hj
      refine tg σ' G H' x st2 (dm f2.g e2) _ fun σ2 st3 o3 => ?_
      have ow3 : ∀ l, Ow σ2 env' l → Ow σ env l ∨ H2 l = none := fun l z => ow l (o3 l z)
      cases hoi : o i with
      | false =>
        have nx : ∀ σ3 G3 H3, Fr (Ow σ2 env') G H' G3 H3 → Stt K G3 H3 σ3 (Inv (i + 1)) → (∀ l, Ow σ3 (Inv (i + 1)) l → Ow σ2 env' l ∨ H' l = none) → Pt K (Ow σ env) G0 H2 Inv (i + 1) σ3 H3 ∧ ∀ j, j < i + 1 → o j = false := fun σ3 G3 H3 f3 st4 o4 =>
          ⟨⟨G3, f2.trans f3 ow3, st4, fun l z => (o4 l z).elim (ow3 l) fun z => .inr (f2.m l z)⟩, fun j hj' => by
            rcases Nat.lt_succ_iff_lt_or_eq.mp hj' with z | z
            · exact hj j z
            · rw [z]; exact hoi⟩
        rcases g1 hoi with w | w
        · exact w σ2 G H' st3 _ nx
        · exact w σ2 G H' st3 _ nx
      | true =>
        obtain ⟨eo, w⟩ := g2 hoi
        refine w σ2 G H' st3 _ ?_
        have q' : OcOk K X (Ow σ2 env') D G H' ex := by
          rw [eo] at q
          refine (q.tr f' fun l z => .inl z).tr f2 ow3
        cases ex with
        | nx e => cases hx
        | bk e => exact absurd rfl (hb e)
        | ct e => exact absurd rfl (hc e)
        | ex c e => exact q'
        | rt d => exact q'
        | rl x => exact q'
        | rr v => exact q'
        | rw vs e => exact q'
        | rk xs => exact q'
        | rg k xs rs => exact q'
        | rb => exact q'
    · obtain ⟨⟨G, f2, st2, ow⟩, hj⟩ := p
      rw [dpa_len hd] at st2 ow hj
      exact rest hj σ' G H' st2 D ((q.tr f' fun l z => .inl z).tr f2 ow)
/-! raise C(args) -/
theorem sx_raiseA {c : Value} (h : EvA K aa env ds) (hz : ds.length ≤ 100000) : Sx K X (fun _ σ H => aa σ H fun vs H1 => vs.length ≤ sizeLine ∧ X c none σ H1) env (.ex c env) := fun σ H H1 st D q =>
  h σ H H1 st _ fun vs G H2 f dv => ⟨by rw [dpa_len dv]; exact sz_ok hz, q σ G H2 (f.mono fun _ z => z.elim) (st.mono f) fun l z => .inl z⟩
/-! f"..{n}.." -/
theorem ev_fmtI {n : Int} (h : Ev K te env (.int n)) (hn : n.natAbs.log2 < 1920) : Ev K (tFmt te) env (.str (Str.ofString (toString n))) := fun σ H H1 st Q q =>
  h σ H H1 st _ fun v G H2 f d => by
    cases d
    exact .inr ⟨n, rfl, hn, q _ G H2 f (.str _)⟩
theorem ev_js3 {a b c : Str} (ha : Ev K ta env (.str a)) (hb : Ev K tb env (.str b)) (hc : Ev K tc env (.str c)) (h1 : (Str.empty ++ a).length ≤ 100000) (h2 : (Str.empty ++ a ++ b).length ≤ 100000) (h3 : (Str.empty ++ a ++ b ++ c).length ≤ 100000) : Ev K (fun σ H Q => tJs [ta, tb, tc] Str.empty σ H fun out H1 => Q (.str out) H1) env (.str (Str.empty ++ a ++ b ++ c)) := fun σ H H1 st Q q =>
  ha σ H H1 st _ fun v G H2 f d => by
    cases d
    refine ⟨a, rfl, sz_ok h1, hb σ G H2 (st.mono f) _ fun v G3 H3 f3 d3 => ?_⟩
    cases d3
    refine ⟨b, rfl, sz_ok h2, hc σ G3 H3 ((st.mono f).mono f3) _ fun v G4 H4 f4 d4 => ?_⟩
    cases d4
    exact ⟨c, rfl, sz_ok h3, q _ G4 H4 ((f.tr0 f3).tr0 f4) (.str _)⟩
/-! a def whose one argument is kept as it is -/
theorem runI {H H1 : Hp} {N : List Str} {v : V} {n : Nat} {D : Ends} (s : Same H H1) (dv : Dp K H v d) (hn : N.length - 1 = n) (h : Sx K X t (.rd v d :: List.replicate n .no) oc) (q : OcOk K X (fun _ => False) D H H1 oc) : t D (L2.start N [v]) H1 := by
  have st : Stt K H H1 (L2.start N [v]) (.dat d :: List.replicate n .no) := stt_start (ds := [d]) (N := N) s (.cons dv .nil) hn
  have st' : Stt K H H1 (L2.start N [v]) (.rd v d :: List.replicate n .no) := st.re (i := 0) (s := .dat d) (s' := .rd v d) rfl (fun o e _ => by
    have e' : some v = o := Option.some.inj e
    exact ⟨e'.symm, dv⟩) (fun z => nomatch z)
  refine h _ H H1 st' D (q.tr (Fr.refl s) fun p z => (ow_none (fun sv m => ?_) z).elim)
  rcases List.mem_cons.mp m with m | m
  · rw [m]; rfl
  · obtain ⟨_, rfl⟩ := List.mem_replicate.mp m; rfl
/-! a tuple that is kept -/
def EvKn (K : PySem.W.Frag) (te : TE) (env : List SV) (xs : List PyData) : Prop := ∀ σ H H1, Stt K H H1 σ env → ∀ Q : VK, (∀ p vs G H2, Fr0 H H1 G H2 → G p = some (.lst vs) → DpAll K G vs xs → Q (.ref p) H2) → te σ H1 Q
theorem EvO.kn (h : EvO K te env xs) : EvKn K te env xs := fun σ H H1 st Q q =>
  h σ H H1 st _ fun p vs G H2 f h1 hg h2 dv => by
    refine q p vs (upd G p (.lst vs)) H2 ⟨f.g.trans (newS hg), fun b x z => ?_, f.s, fun b hw c1 c2 => ?_, f.m⟩ upd_same (dms (newS hg) dv)
    · by_cases c : b = p
      · subst c; rw [upd_same] at z; cases z; exact h2
      · rw [upd_ne c] at z; exact f.r b x z
    · have c : b ≠ p := fun z => c2 (by rw [z]; exact h1)
      rw [upd_ne c]; exact f.n b hw c1 c2
theorem sx_setK {n : Int} (h0 : Er K ta env (.int n)) (h1 : EvKn K tb env xs) (h2 : EvKn K tc env ys) : Sx K X (tAsg (tTup (tCons ta (tCons tb (tCons tc tNil)))) (gName i)) env (.nx (env.set i (.kep n xs ys))) := fun σ H H1 st D q =>
  h0 σ H H1 st _ fun G1 H2 f1 => h1 σ G1 H2 (st.mono f1) _ fun a vs G2 H3 f2 e2 d2 => h2 σ G2 H3 ((st.mono f1).mono f2) _ fun b ws G3 H4 f3 e3 d3 => ⟨Nat.le_trans (show 3 ≤ 100000 by decide) (by decide), fun p hp => by
    have ff := (f1.tr0 f2).tr0 f3
    have n : Fr0 G3 H4 (upd G3 p (.tup [.int n, .ref a, .ref b])) (upd H4 p (.tup [.int n, .ref a, .ref b])) := Fr.new f3.r hp
    refine q _ _ _ ((ff.tr0 n).mono fun _ z => z.elim) ((st.mono (ff.tr0 n)).setV rfl ⟨p, a, b, vs, ws, rfl, .inl (.inl upd_same), n.g _ _ (f3.g _ _ e2), dms n.g (dms f3.g d2), n.g _ _ e3, dms n.g d3⟩) fun l z => ?_
    rcases Ow.set z with z | ⟨z, _⟩
    · exact .inl z
    · cases z⟩
theorem Stt.kep {n : Int} (st : Stt K H H1 σ env) (h : env[i]? = some (.kep n xs ys)) : ∃ t a b vs ws, σ[i]? = some (some (.ref t)) ∧ SqT K H t [.int n, .ref a, .ref b] ∧ H a = some (.lst vs) ∧ DpAll K H vs xs ∧ H b = some (.lst ws) ∧ DpAll K H ws ys := by
  obtain ⟨o, a, b⟩ := st.get h
  obtain ⟨t, p1, p2, vs, ws, rfl, r⟩ := b
  exact ⟨t, p1, p2, vs, ws, a, r⟩
theorem ev_kep {n : Int} (h : env[i]? = some (.kep n xs ys)) : Ev K (tVar i) env (.tuple [.int n, .list xs, .list ys]) := fun σ H H1 st Q q => by
  obtain ⟨t, a, b, vs, ws, e0, e1, e2, e3, e4, e5⟩ := st.kep h
  exact ⟨_, e0, q _ H H1 (Fr.refl st.e) (.tup e1 (.cons (.int n) (.cons (.lst (.inl (.inl e2)) e3) (.cons (.lst (.inl (.inl e4)) e5) .nil))))⟩
theorem el_kep1 {n : Int} (h : env[i]? = some (.kep n xs ys)) : EvL K (tOp (rIxT K) (tVar i) (tC (.int 1))) env xs := fun σ H H1 st Q q => by
  obtain ⟨t, a, b, vs, ws, e0, e1, e2, e3, e4, e5⟩ := st.kep h
  exact ⟨_, e0, _, _, 1, .ref a, rfl, rfl, sqt st.e e1, rfl, q a vs H H1 (Fr.refl st.e) (st.e _ _ e2) e3⟩
theorem el_kep2 {n : Int} (h : env[i]? = some (.kep n xs ys)) : EvL K (tOp (rIxT K) (tVar i) (tC (.int 2))) env ys := fun σ H H1 st Q q => by
  obtain ⟨t, a, b, vs, ws, e0, e1, e2, e3, e4, e5⟩ := st.kep h
  exact ⟨_, e0, _, _, 2, .ref b, rfl, rfl, sqt st.e e1, rfl, q b ws H H1 (Fr.refl st.e) (st.e _ _ e4) e5⟩
theorem Er.ev (h : Er K te env v) (hd : vd v = some d) : Ev K te env d := fun σ H H1 st Q q =>
  h σ H H1 st Q fun G H2 f => q v G H2 f (vd_dp hd)
end
end Pf

namespace Pf
open PySem PySem.Spec PyProof.Rows L2
/-! ### dicts whose keys are data: told as what is true of the object -/
section
variable {X : Cx} {pins : List (Addr × Obj)} {σ : L2.St} {H : Hp} {s : Shared}
mutual
theorem nest_is (I : L2.Inv X pins σ H s) : ∀ (k : NestedKey) {v : V} {u : Value}, Dp X.K H v k.data → L2.RelV v u → NestedIs s.heap k u
  | .none, v, u, d, r => by
    rw [NestedKey.data] at d; cases d
    have r' : u = .none := r
    subst r'; exact .none
  | .num i, v, u, d, r => by
    rw [NestedKey.data] at d; cases d
    obtain ⟨t, rfl⟩ := r
    exact .int i t
  | .text x, v, u, d, r => by
    rw [NestedKey.data] at d; cases d
    obtain ⟨t, rfl⟩ := r
    exact .text x t
  | .tup ks, v, u, d, r => by
    rw [NestedKey.data] at d
    cases d with
    | tup ht hd =>
      have r' : u = .ref _ := r
      subst r'
      obtain ⟨its, rv, ⟨o, e1, e2, n, e3⟩, _⟩ := I.tuple ht
      exact .tup e1 e2 e3 (nest_all I ks hd (by simpa using rv))
theorem nest_all (I : L2.Inv X pins σ H s) : ∀ (ks : List NestedKey) {vs : List V} {us : List Value}, DpAll X.K H vs (NestedKey.datas ks) → Vals vs us → NestedAll s.heap ks us
  | [], vs, us, d, r => by
    rw [NestedKey.datas] at d; cases d; cases r; exact .nil
  | k :: ks, vs, us, d, r => by
    rw [NestedKey.datas] at d
    cases d with
    | cons a b =>
      cases r with
      | cons e f => exact .cons (nest_is I k a e) (nest_all I ks b f)
end
end
theorem dx_ok {P : Program} {w : World} {H : Hp} {h : Heap} {D : Addr} {xs : List Ent} (d : DX P w D xs h) : ObjOk P w H h D (.ext (DX P w D xs)) := by
  refine ⟨d, ?_, fun h1 h2 ⟨e0, o, es, ep, e1, e2⟩ k => ⟨e0, o, es, ep, k o e1, e2⟩⟩
  obtain ⟨_, o, es, ep, e, _⟩ := d
  exact ⟨o, e⟩
section
variable {X : Cx} {pins : List (Addr × Obj)} {σ : L2.St} {H : Hp} {s : Shared} {D a : Addr} {xs : List Ent} {k : NestedKey}
theorem DAt.dx (I : L2.Inv X pins σ H s) (h : DAt X.prog X.w H D xs) : DX X.prog X.w D xs s.heap := by
  rcases h with h | ⟨o, h⟩
  · exact (I.hok D _ h).1
  · exact (I.hok D _ h).2.1
theorem KeyIn.is (I : L2.Inv X pins σ H s) (h : KeyIn X.K H a k) : (nestedKind X.prog X.w).is s.heap k a := ⟨nest_is I k h.1 rfl, h.2⟩
theorem DAt.of (I : L2.Inv X pins σ H s) (h : DAt X.prog X.w H D xs) (hk : ∀ x ∈ xs, KeyIn X.K H x.2.1 x.1) : (D == sysModules) = false ∧ Heap.DictOfH (nestedKind X.prog X.w) s.heap D xs := by
  obtain ⟨e0, o, es, ep, e1, e2, e3, e4, e5⟩ := h.dx I
  exact ⟨e0, o, es, ep, e1, e2, e3, e4, fun x hx => (hk x hx).is I, e5⟩
def rInX (P : Program) (w : World) (K : PySem.W.Frag) (neg : Bool) : R2 := fun x y H Q => ∃ a D xs k, x = .ref a ∧ y = .ref D ∧ DAt P w H D xs ∧ KeyIn K H a k ∧ (∀ x ∈ xs, KeyIn K H x.2.1 x.1) ∧ Q (.bl (if neg then !(atKey xs k).isSome else (atKey xs k).isSome)) H
theorem op_inX (hr : X.A.units + 65 < cLine) : OpR X (compareOp .In) (rInX X.prog X.w X.K false) := by
  intro pins s σ H x y v u Q I rx ry h
  obtain ⟨a, D, xs, k, rfl, rfl, hD, hk, hx, q⟩ := h
  have r1 : v = .ref a := rx
  have r2 : u = .ref D := ry
  subst r1 r2
  obtain ⟨e0, dd⟩ := hD.of I hx
  exact wpAny_in_heap (knd := nestedKind X.prog X.w) (by show X.A.units + 1 + 8 < cLine; omega) (hk.is I) e0 dd ⟨.bl _, H, I.tok _, rfl, q⟩
theorem op_notInX (hr : X.A.units + 65 < cLine) : OpR X (compareOp .NotIn) (rInX X.prog X.w X.K true) := by
  intro pins s σ H x y v u Q I rx ry h
  obtain ⟨a, D, xs, k, rfl, rfl, hD, hk, hx, q⟩ := h
  have r1 : v = .ref a := rx
  have r2 : u = .ref D := ry
  subst r1 r2
  obtain ⟨e0, dd⟩ := hD.of I hx
  refine notIn_keyed (knd := nestedKind X.prog X.w) (kvs := pairsH xs) (by show X.A.units + 1 + 8 < cLine; omega) (hk.is I) e0 ⟨xs, dd, rfl⟩ ⟨.bl (!(valueAt (pairsH xs) k).isSome), H, I.tok _, rfl, ?_⟩
  rw [valueAt_pairsH]
  have e : (Option.map (fun p : Addr × Value => p.2) (atKey xs k)).isSome = (atKey xs k).isSome := by cases atKey xs k <;> rfl
  rw [e]; exact q
/-- d[k] -/
def rIxX (P : Program) (w : World) (K : PySem.W.Frag) : R2 := fun x y H Q => ∃ a D xs k p v, x = .ref D ∧ y = .ref a ∧ DAt P w H D xs ∧ KeyIn K H a k ∧ (∀ x ∈ xs, KeyIn K H x.2.1 x.1) ∧ atKey xs k = some p ∧ L2.RelV v p.2 ∧ Q v H
theorem ix_X (hr : X.A.units + 65 < cLine) : IxR X (rIxX X.prog X.w X.K) := by
  intro value slice pins s σ H x y v u Q I rx ry h hs
  obtain ⟨a, D, xs, k, p, v0, rfl, rfl, hD, hk, hx, hp, rv, q⟩ := h
  have r1 : v = .ref D := rx
  have r2 : u = .ref a := ry
  subst r1 r2
  obtain ⟨e0, dd⟩ := hD.of I hx
  have dk : Heap.DictKeyed (nestedKind X.prog X.w) s.heap D (pairsH xs) := ⟨xs, dd, rfl⟩
  exact subscriptTail_builtinR (x := p.2) dk.typeIs F.slot_dict_getitem.lookup (wpAny_getItem_heap (knd := nestedKind X.prog X.w) (by show X.A.units + 1 + 8 < cLine; omega) (hk.is I) dd hp ⟨rfl, v0, H, I.tok _, rv, q⟩) hs
/-- d[k] = v -/
def rSetX (P : Program) (w : World) (K : PySem.W.Frag) : TSet := fun o i v H Q => ∃ a D xs k, o = .ref D ∧ i = .ref a ∧ H D = some (.ext (DX P w D xs)) ∧ KeyIn K H a k ∧ (∀ x ∈ xs, KeyIn K H x.2.1 x.1) ∧ xs.length < 100000 ∧ ∀ u, L2.RelV v u → Q (upd H D (.ext (DX P w D (storedH xs k a u))))
theorem set_X (hr : X.A.units + 65 < cLine) : PSet X (rSetX X.prog X.w X.K) := by
  intro pins s σ H o i v ov iv u Q I ro ri rv h
  obtain ⟨a, D, xs, k, rfl, rfl, hD, hk, hx, hz, q⟩ := h
  have r1 : ov = .ref D := ro
  have r2 : iv = .ref a := ri
  subst r1 r2
  obtain ⟨e0, dd⟩ := DAt.of (X := X) (D := D) (xs := xs) I (.inl hD) hx
  refine wpAny_setItem_heap (knd := nestedKind X.prog X.w) (by show X.A.units + 1 + 8 < cLine; omega) (hk.is I) dd (fun h' dd' sb => ?_) (Nat.le_of_lt (sz_lt hz))
  obtain ⟨o, es, ep, e1, e2, e3, e4, e5, e6⟩ := dd'
  exact ⟨_, d_write I (by rw [hD]; trivial) sb ⟨o, e1⟩ (dx_ok ⟨e0, o, es, ep, e1, e2, e3, e4, e6⟩), q u rv⟩
/-- len(d) -/
def rLenX (P : Program) (w : World) (K : PySem.W.Frag) : List V → Hp → VK → Prop := fun vs H Q => ∃ D xs, vs = [.ref D] ∧ DAt P w H D xs ∧ (∀ x ∈ xs, KeyIn K H x.2.1 x.1) ∧ xs.length ≤ 100000 ∧ Q (.int xs.length) H
theorem call_lenX : CallR X (.builtin "len") (rLenX X.prog X.w X.K) := by
  intro pins s σ H vs us Q I r h
  obtain ⟨D, xs, rfl, hD, hx, hz, q⟩ := h
  rw [Vals.ref1 r]
  obtain ⟨e0, dd⟩ := hD.of I hx
  have dk : Heap.DictKeyed (nestedKind X.prog X.w) s.heap D (pairsH xs) := ⟨xs, dd, rfl⟩
  refine PyProof.Rows.call_len_slot (n := (xs.length : Int)) dk.typeIs F.slot_dict_len (fun Q' hq => len_keyed e0 dk (by rw [pairsH_length]; exact hq)) (by omega) (by omega) ⟨.int xs.length, H, I.tok _, ⟨_, rfl⟩, q⟩
/-- d.get(k, x) -/
def rGetX (P : Program) (w : World) (K : PySem.W.Frag) : V → List V → Hp → VK → Prop := fun x vs H Q => ∃ a D xs k d v, x = .ref D ∧ vs = [.ref a, d] ∧ DAt P w H D xs ∧ KeyIn K H a k ∧ (∀ x ∈ xs, KeyIn K H x.2.1 x.1) ∧ (∀ p, atKey xs k = some p → L2.RelV v p.2) ∧ (atKey xs k = none → v = d) ∧ Q v H
theorem mt_getX (hr : X.A.units + 65 < cLine) : MtR X "dict.get" (rGetX X.prog X.w X.K) := by
  intro pins s σ H x vs v us Q I rx rvs h
  obtain ⟨a, D, xs, k, d, v0, rfl, rfl, hD, hk, hx, h1, h2, q⟩ := h
  have r1 : v = .ref D := rx
  subst r1
  obtain ⟨u1, u2, rfl, q1, q2⟩ := L2.vals2 rvs
  have q1' : u1 = .ref a := q1
  subst q1'
  obtain ⟨e0, dd⟩ := hD.of I hx
  refine getOr_keyed (knd := nestedKind X.prog X.w) (kvs := pairsH xs) (by show X.A.units + 1 + 8 < cLine; omega) (hk.is I) e0 ⟨xs, dd, rfl⟩ ⟨v0, H, I.tok _, ?_, q⟩
  rw [valueAt_pairsH]
  cases e : atKey xs k with
  | none => rw [h2 e]; exact q2
  | some p => exact h1 p e
/-- {} -/
def tNewX (P : Program) (w : World) : TE := fun _ H Q => ∀ p : Addr, H p = none → Q (.ref p) (upd H p (.ext (DX P w p [])))
theorem pe_newX {pos : Pos} : PE X (Expr.Dict [] [] pos) (tNewX X.prog X.w) := ⟨fun pins s σ H Q I h =>
  wpAny_Dict_empty ⟨.ref _, _, I.laid (t' := s.toks) (fun b o e => Heap.get?_push_of_some _ e) (Nat.le_refl _) (dx_ok (xs := []) ⟨by
    have := I.big
    show (s.heap.objs.size == 1) = false
    have h2 : (1 : Nat) < s.heap.objs.size := this
    exact beq_false_of_ne (by omega), _, #[], 0, Heap.get?_push_size s.heap rfl, ⟨rfl, rfl, rfl⟩, rfl, rfl, List.nodup_nil⟩), rfl, h _ (I.hok.fresh (Nat.le_refl _))⟩⟩
theorem newX_ok {h : Heap} (hb : sysModules < h.objs.size) : DX X.prog X.w h.objs.size [] (h.push { cls := .type "dict", data := .dict #[] }) := ⟨by
    show (h.objs.size == 1) = false
    have h2 : (1 : Nat) < h.objs.size := hb
    exact beq_false_of_ne (by omega), _, #[], 0, Heap.get?_push_size h rfl, ⟨rfl, rfl, rfl⟩, rfl, rfl, List.nodup_nil⟩
/-- {k: v} -/
def tDispX (P : Program) (w : World) (K : PySem.W.Frag) (tk tv : TE) : TE := fun σ H Q => ∀ D : Addr, H D = none → tPairs [(tk, tv)] σ (upd H D (.ext (DX P w D []))) fun ps H2 => H2 D = some (.ext (DX P w D [])) ∧ ∃ a k v, ps = [(.ref a, v)] ∧ KeyIn K H2 a k ∧ ∀ u, L2.RelV v u → Q (.ref D) (upd H2 D (.ext (DX P w D [(k, a, u)])))
theorem pe_dispX {pos : Pos} {ke ve : Expr} {tk tv : TE} (hr : X.A.units + 65 < cLine) (hk : PE X ke tk) (hv : PE X ve tv) : PE X (Expr.Dict [some ke] [ve] pos) (tDispX X.prog X.w X.K tk tv) := ⟨fun pins s σ H Q I q => by
  have hn := I.hok.fresh (Nat.le_refl s.heap.objs.size)
  have I1 : L2.Inv X pins σ (upd H s.heap.objs.size (.ext (DX X.prog X.w s.heap.objs.size []))) { heap := s.heap.push { cls := .type "dict", data := .dict #[] }, gens := s.gens, drawn := s.drawn, toks := s.toks, os := s.os } := I.laid (t' := s.toks) (fun b o e => Heap.get?_push_of_some _ e) (Nat.le_refl _) (dx_ok (newX_ok I.big))
  have zp := zip_pairTrees [some ke] [ve] X.env pos rfl rfl
  have hlen := pairTrees_length [some ke] [ve] X.env pos rfl rfl
  have hl1 : (pairTrees [some ke] [ve] X.env pos).length = 1 := hlen
  rw [arm_eval_Dict, zp, dictDisplay_pairs _ (fun e => by rw [e] at hl1; cases hl1) (by rw [hl1]; decide)]
  refine wpAny_bind (wpAny_standAt (wpAny_bind (wpAny_subDictH (knd := nestedKind X.prog X.w) (by show X.A.units + 8 < cLine; omega) (by rw [hl1]; decide) (thn ((pps_cons (pos := pos) hk hv pps_nil).run pins _ σ _ _ I1 (q _ hn)) fun ws s2 x => ?_))))
  obtain ⟨ps, H2, I2, rel, eD, a, k, v, rfl, kin, q2⟩ := x
  cases rel with
  | cons r1 r2 =>
    cases r2
    rename_i b
    obtain ⟨b1, b2⟩ := b
    obtain ⟨e1, e2⟩ := r1
    have e1' : b1 = .ref a := e1
    subst e1'
    have dx := (I2.hok _ _ eD).1
    obtain ⟨e0, o, es, ep, f1, f2, f3, f4, f5⟩ := dx
    refine ⟨[(k, a, b2)], ⟨rfl, rfl, kin.is I2, trivial⟩, ⟨o, es, ep, f1, f2, f3, f4, (fun x hx => absurd hx List.not_mem_nil), f5⟩, fun h' tk dd sb => ?_⟩
    obtain ⟨o', es', ep', g1, g2, g3, g4, g5, g6⟩ := dd
    exact wpAny_pure ⟨.ref _, _, d_write I2 (by rw [eD]; trivial) sb ⟨o', g1⟩ (dx_ok (xs := [(k, a, b2)]) ⟨e0, o', es', ep', g1, g2, g3, g4, g6⟩), rfl, q2 b2 e2⟩⟩
/-- for k in d -/
def Itx (P : Program) (w : World) (D : Addr) (o : Obj) (xs : List Ent) : It where
  go := fun i H => H D = some (.frz o (.ext (DX P w D xs))) ∧ i < xs.length
  yld := fun i H x H' => H' = H ∧ ∃ e, xs[i]? = some e ∧ x = .ref e.2.1
  stop := fun i H => H D = some (.frz o (.ext (DX P w D xs))) ∧ xs.length ≤ i
theorem frz_at (I : L2.Inv X pins σ H s) {o : Obj} (h : H D = some (.frz o (.ext (DX X.prog X.w D xs)))) : (D == sysModules) = false ∧ s.heap.get? D = some o ∧ o.ExactDict ∧ ∃ es ep, o.data = .dict es ep ∧ es.size = xs.length ∧ ∀ (i : Nat) (e : Ent), xs[i]? = some e → ∃ en, es[i]? = some en ∧ en.key = .ref e.2.1 := by
  obtain ⟨g, ⟨e0, o', es, ep, e1, e2, e3, e4, e5⟩, _⟩ := I.hok D _ h
  have go : s.heap.get? D = some o := g
  rw [go] at e1; cases e1
  refine ⟨e0, g, e2, es, ep, e3, ?_, fun i e hi => ⟨entryOfKey (nestedKind X.prog X.w) e, ?_, rfl⟩⟩
  · rw [← Array.length_toList, e4, List.length_map]
  · rw [← Array.getElem?_toList, e4, List.getElem?_map, hi]; rfl
theorem turn_X {P : Program} {w : World} {K : PySem.W.Frag} {tg : Expr} {o : Obj} {es : Array DictEntry} {ep : Nat} (it : Addr) (hod : o.data = .dict es ep) : Turn P w K tg (Itx P w D o xs) [it] it fun i h => h.IsKeyIter it D i xs.length ep where
  mem := List.mem_singleton.mpr rfl
  obj := fun i h st b hb => by
    rw [List.mem_singleton.mp hb]
    obtain ⟨oi, e, c, dd⟩ := id st
    exact ⟨oi, e, fun v z => by rw [dd] at z; cases z⟩
  keep := fun i h h' st k => st.at fun oi e => k it (List.mem_singleton.mpr rfl) oi e
  item := fun X hP hw hK hc i pins s σ H E I hf st hg => by
    subst hP hw
    obtain ⟨hd, hi⟩ := hg
    obtain ⟨f0, f1, f2, f3, f4, f5⟩ := hf it (List.mem_singleton.mpr rfl)
    obtain ⟨hs, hgd, hx, es', ep', hdt, hsz, ent⟩ := frz_at I hd
    obtain ⟨rfl, rfl⟩ := dict_ep hod hdt
    obtain ⟨en, hen, hkey⟩ := ent i xs[i] (List.getElem?_eq_getElem hi)
    refine next_key_item st hgd hdt hsz hen fun h' st' sb => ?_
    have I1 := I.turned (h' := h') (t' := s.toks) (fun b ob hb e => (sb.2 b hb).trans e) f0 f1 f3 f4 f5
    obtain ⟨oi, e, c, dd⟩ := id st'
    exact ⟨en.key, rfl, go_of e c dd (by decide) ⟨.ref xs[i].2.1, H, I1, hkey, ⟨rfl, xs[i], List.getElem?_eq_getElem hi, rfl⟩, st', fun b hb => (hf b hb).1⟩⟩
  done := fun X hP hw hK hc i pins s σ H E I hf st hg => by
    subst hP hw
    obtain ⟨hd, hi⟩ := hg
    obtain ⟨f0, f1, f2, f3, f4, f5⟩ := hf it (List.mem_singleton.mpr rfl)
    obtain ⟨hs, hgd, hx, es', ep', hdt, hsz, ent⟩ := frz_at I hd
    obtain ⟨rfl, rfl⟩ := dict_ep hod hdt
    exact next_key_end (I.ok.hd hc) st hgd hdt hsz hi fun h' eb => ⟨rfl, I.turned (t' := s.toks) (fun b ob hb e => eb b ob hb e) f0 f1 f3 f4 f5⟩
  self := fun A i s Q E st h => (turn_keysT (P := P) (w := w) (K := K) (tg := tg) (d := D) (o := o) (kvs := List.replicate xs.length ([], V.non)) it hod).self A i s Q E (by rw [List.length_replicate]; exact st) h
def iX (P : Program) (w : World) (td : TE) : TI := fun σ H R => td σ H fun x H1 => ∃ D xs, x = .ref D ∧ ((H1 D = some (.ext (DX P w D xs)) ∧ ∀ o, R (Itx P w D o xs) (upd H1 D (.frz o (.ext (DX P w D xs))))) ∨ ∃ o, H1 D = some (.frz o (.ext (DX P w D xs))) ∧ R (Itx P w D o xs) H1)
theorem pi_X {tg e : Expr} {td : TE} (he : PE X e td) : PI X tg e (iX X.prog X.w td) := ⟨fun pins s σ H R I h => thn (he.run pins s σ H _ I h) fun u s1 r => by
  obtain ⟨x, H1, I1, rx, D, xs, rfl, q⟩ := r
  have rx' : u = .ref D := rx
  subst rx'
  have fin : ∀ (o : Obj) (H2 : Hp), L2.Inv X pins σ H2 s1 → H2 D = some (.frz o (.ext (DX X.prog X.w D xs))) → R (Itx X.prog X.w D o xs) H2 → wpAny (model X.prog X.w) X.A (pyIter (.ref D)) (PIE X pins σ tg R) X.xe s1 := fun o H2 I2 hd q => by
    obtain ⟨hs, hgd, hx, es, ep, hdt, hsz, ent⟩ := frz_at I2 hd
    refine iter_keys hs hgd hx hdt (pi_one I2 _ (turn_X s1.heap.objs.size hdt) ⟨_, Heap.get?_push_size s1.heap rfl, rfl, ?_⟩ q)
    show Data.fields #[Value.ref D, Value.int 0 0, Value.int (es.size : Nat) 0, Value.int (ep : Nat) 0] = Data.fields #[Value.ref D, Value.int (0 : Nat) 0, Value.int (xs.length : Nat) 0, Value.int (ep : Nat) 0]
    rw [hsz]; rfl
  rcases q with ⟨hd, q⟩ | ⟨o, hd, q⟩
  · obtain ⟨dx, ⟨o, go⟩, st⟩ := I1.hok D _ hd
    refine fin o _ (I1.write (x := D) (e := D) (o := .frz o (.ext (DX X.prog X.w D xs))) (t' := s1.toks) (by rw [hd]; trivial) (.inl rfl) (fun b u _ e => e) ⟨o, go⟩ ⟨go, dx, ⟨o, go⟩, st⟩) upd_same (q o)
  · exact fin o H1 I1 hd q⟩
end
end Pf

namespace Pf
open PySem PySem.Spec PyProof.Rows L2
/-! ### the layer's words for such dicts -/
abbrev Kv := NestedKey × PyData
def atP (kvs : List Kv) (k : NestedKey) : Option PyData := (kvs.find? fun p => decide (p.1 = k)).map (·.2)
def putP (kvs : List Kv) (k : NestedKey) (d : PyData) : List Kv := if (atP kvs k).isSome = true then kvs.map (fun p => if p.1 = k then (p.1, d) else p) else kvs ++ [(k, d)]
section
variable {K : PySem.W.Frag} {H : Hp} {xs : List Ent} {kvs : List Kv} {k : NestedKey}
theorem kv_len : ∀ {xs : List Ent} {kvs : List Kv}, KvOk K H xs kvs → xs.length = kvs.length
  | _, _, .nil => rfl
  | _, _, .cons _ _ _ d => congrArg Nat.succ (kv_len d)
theorem kv_keys : ∀ {xs : List Ent} {kvs : List Kv}, KvOk K H xs kvs → ∀ x ∈ xs, KeyIn K H x.2.1 x.1
  | _, _, .nil, x, h => absurd h List.not_mem_nil
  | _, _, .cons a _ _ d, x, h => by
    rcases List.mem_cons.mp h with z | z
    · rw [z]; exact a
    · exact kv_keys d x z
theorem kv_at : ∀ {xs : List Ent} {kvs : List Kv}, KvOk K H xs kvs → (atKey xs k = none ∧ atP kvs k = none) ∨ ∃ p d v, atKey xs k = some p ∧ atP kvs k = some d ∧ L2.RelV v p.2 ∧ Dv K H v d
  | _, _, .nil => .inl ⟨rfl, rfl⟩
  | _, _, .cons (k := k') (a := a) (u := u) (v := v) (d := d) ha hr hd r => by
    by_cases e : k' = k
    · refine .inr ⟨(a, u), d, v, ?_, ?_, hr, hd⟩
      · show Option.map _ (List.find? _ (_ :: _)) = _
        rw [List.find?_cons_of_pos (by exact decide_eq_true e)]; rfl
      · show Option.map _ (List.find? _ (_ :: _)) = _
        rw [List.find?_cons_of_pos (by exact decide_eq_true e)]; rfl
    · rcases kv_at r with ⟨h1, h2⟩ | ⟨p, d', v', h1, h2, h3, h4⟩
      · refine .inl ⟨?_, ?_⟩
        · show Option.map _ (List.find? _ (_ :: _)) = _
          rw [List.find?_cons_of_neg (by simpa using e)]; exact h1
        · show Option.map _ (List.find? _ (_ :: _)) = _
          rw [List.find?_cons_of_neg (by simpa using e)]; exact h2
      · refine .inr ⟨p, d', v', ?_, ?_, h3, h4⟩
        · show Option.map _ (List.find? _ (_ :: _)) = _
          rw [List.find?_cons_of_neg (by simpa using e)]; exact h1
        · show Option.map _ (List.find? _ (_ :: _)) = _
          rw [List.find?_cons_of_neg (by simpa using e)]; exact h2
theorem kv_some (h : KvOk K H xs kvs) : (atKey xs k).isSome = (atP kvs k).isSome := by
  rcases kv_at (k := k) h with ⟨h1, h2⟩ | ⟨p, d, v, h1, h2, _⟩ <;> rw [h1, h2] <;> rfl
theorem kv_repl {a : Addr} {v : V} {d : PyData} {u : Value} (hr : L2.RelV v u) (hd : Dv K H v d) : ∀ {xs : List Ent} {kvs : List Kv}, KvOk K H xs kvs → KvOk K H (xs.map (putAt k u)) (kvs.map fun p => if p.1 = k then (p.1, d) else p)
  | _, _, .nil => .nil
  | _, _, .cons (k := k') (a := a) (u := u') ha hr' hd' r => by
    rw [List.map_cons, List.map_cons]
    unfold putAt
    by_cases e : k' = k
    · rw [if_pos e, if_pos e]; exact .cons ha hr hd (kv_repl (a := a) hr hd r)
    · rw [if_neg e, if_neg e]; exact .cons ha hr' hd' (kv_repl (a := a) hr hd r)
theorem kv_app : ∀ {xs : List Ent} {kvs : List Kv} {ys : List Ent} {lvs : List Kv}, KvOk K H xs kvs → KvOk K H ys lvs → KvOk K H (xs ++ ys) (kvs ++ lvs)
  | _, _, _, _, .nil, s => s
  | _, _, _, _, .cons a b c d, s => .cons a b c (kv_app d s)
theorem kv_put {a : Addr} {v : V} {d : PyData} {u : Value} (h : KvOk K H xs kvs) (ha : KeyIn K H a k) (hr : L2.RelV v u) (hd : Dv K H v d) : KvOk K H (storedH xs k a u) (putP kvs k d) := by
  unfold storedH putP
  rw [kv_some h]
  split
  · exact kv_repl (a := a) hr hd h
  · exact kv_app h (.cons ha hr hd .nil)
end
section
variable {P : Program} {w : World} {K : PySem.W.Frag} {X : WX} {env env1 : List SV} {ta tb te tk : TE} {t u : TS} {tt : TT} {d e : PyData} {i : Nat} {oc : Oc} {H H1 : Hp} {σ : L2.St} {kvs : List Kv} {k : NestedKey}
/-- slot i holds such a dict -/
def IsDc (P : Program) (w : World) (env : List SV) (i : Nat) (kvs : List Kv) : Prop := env[i]? = some (.dct P w kvs) ∨ env[i]? = some (.dcf P w kvs)
theorem Stt.dc (st : Stt K H H1 σ env) (h : IsDc P w env i kvs) : ∃ l xs, σ[i]? = some (some (.ref l)) ∧ DAt P w H1 l xs ∧ KvOk K H xs kvs := by
  rcases h with h | h
  · obtain ⟨o, a, l, xs, rfl, _, b, c⟩ := st.get h
    exact ⟨l, xs, a, .inl b, c⟩
  · obtain ⟨o, a, l, o', xs, rfl, b, c⟩ := st.get h
    exact ⟨l, xs, a, .inr ⟨o', st.e _ _ b⟩, c⟩
theorem dp_ref {H : Hp} {k : NestedKey} {v : V} (h : Dp K H v (.tuple d')) : ∃ a, v = .ref a := by
  cases h; exact ⟨_, rfl⟩
/-- a key: a tuple -/
def IsKey (k : NestedKey) : Prop := k.depth ≤ 8 ∧ ∃ ds, k.data = .tuple ds
theorem key_in {v : V} (hk : IsKey k) (h : Dp K H v k.data) : ∃ a, v = .ref a ∧ KeyIn K H a k := by
  obtain ⟨h1, ds, h2⟩ := hk
  have h' := h
  rw [h2] at h'
  obtain ⟨a, rfl⟩ := dp_ref (k := k) h'
  exact ⟨a, rfl, h, h1⟩
theorem DAt.mono {H H' : Hp} {l : Addr} {xs : List Ent} (e : Same H H') (h : DAt P w H l xs) : DAt P w H' l xs := by
  rcases h with h | ⟨o, h⟩
  · exact .inl (e _ _ h)
  · exact .inr ⟨o, e _ _ h⟩
theorem ev_inX {neg : Bool} (hk : IsKey k) (ha : Ev K ta env k.data) (h : IsDc P w env i kvs) : Ev K (tOp (rInX P w K neg) ta (tVar i)) env (.bool (if neg then !(atP kvs k).isSome else (atP kvs k).isSome)) := fun σ H H1 st Q q =>
  ha σ H H1 st _ fun v G H2 f dv => by
    obtain ⟨a, rfl, ki⟩ := key_in hk dv
    obtain ⟨l, xs, e1, e2, e3⟩ := (st.mono f).dc h
    refine ⟨_, e1, a, l, xs, k, rfl, rfl, e2, ki.mono f.r, fun x hx => (kv_keys e3 x hx).mono f.r, ?_⟩
    rw [kv_some e3]
    exact q _ G H2 f (.bl _)
theorem ev_ixX (hk : IsKey k) (h : IsDc P w env i kvs) (ha : Ev K ta env k.data) (hd : atP kvs k = some d) : Ev K (tOp (rIxX P w K) (tVar i) ta) env d := fun σ H H1 st Q q => by
  obtain ⟨l, xs, e1, e2, e3⟩ := st.dc h
  refine ⟨_, e1, ha σ H H1 st _ fun v G H2 f dv => ?_⟩
  obtain ⟨a, rfl, ki⟩ := key_in hk dv
  have e3' := e3.mono f.g
  rcases kv_at (k := k) e3' with ⟨_, h2⟩ | ⟨p, d', v', h1, h2, h3, h4⟩
  · rw [hd] at h2; cases h2
  · rw [hd] at h2; cases h2
    exact ⟨a, l, xs, k, p, v', rfl, rfl, e2.mono f.a, ki.mono f.r, fun x hx => (kv_keys e3' x hx).mono f.r, h1, h3, q v' G H2 f h4.1⟩
theorem ev_lenX (h : IsDc P w env i kvs) (hz : kvs.length ≤ 100000) : Ev K (tCB (rLenX P w K) (tCons (tVar i) tNil)) env (.int kvs.length) := fun σ H H1 st Q q => by
  obtain ⟨l, xs, e1, e2, e3⟩ := st.dc h
  refine ⟨_, e1, l, xs, rfl, e2, fun x hx => (kv_keys e3 x hx).mono st.e, by rw [kv_len e3]; exact hz, ?_⟩
  rw [kv_len e3]
  exact q _ H H1 (Fr.refl st.e) (.int _)
theorem sx_putX (hk : IsKey k) (h : env[i]? = some (.dct P w kvs)) (hl : ∀ ds, d ≠ .list ds) (he : Ev K te env d) (ha : Ev K tk env k.data) (hz : kvs.length < 100000) : Sx K X (tAsg te (gSub (tVar i) tk (rSetX P w K))) env (.nx (env.set i (.dct P w (putP kvs k d)))) := fun σ H H1 st D q =>
  he σ H H1 st _ fun v G H2 f dv => by
    have st2 := st.mono f
    obtain ⟨o, e1, l, xs, rfl, _⟩ := st2.get h
    refine ⟨_, e1, ha σ G H2 st2 _ fun kv G3 H3 f3 dk => ?_⟩
    obtain ⟨a, rfl, ki⟩ := key_in hk dk
    have st3 := st2.mono f3
    obtain ⟨o, e1', l', xs', rfl, b1, b2, b3⟩ := st3.get h
    rw [e1] at e1'; cases e1'
    refine ⟨a, l, xs', k, rfl, rfl, b2, ki.mono f3.r, fun x hx => (kv_keys b3 x hx).mono f3.r, by rw [kv_len b3]; exact hz, fun u ru => ?_⟩
    obtain ⟨w1, w2, w3⟩ := st3.write (o := .ext (DX P w l (storedH xs' k a u))) (s' := .dct P w (putP kvs k d)) h rfl e1 ⟨l, _, rfl, b1, upd_same, kv_put b3 ki ru ⟨dm f3.g dv, fun ds z => absurd z (hl ds)⟩⟩ rfl
    exact q σ _ _ (((f.tr0 f3).mono fun _ z => z.elim).trans w2 fun p z => .inl z) w1 fun p z => .inl (w3 p z)
theorem sx_newX : Sx K X (tAsg (tNewX P w) (gName i)) env (.nx (env.set i (.dct P w []))) := fun σ H H1 st D q => fun p hp => by
  have f : Fr0 H H1 H (upd H1 p (.ext (DX P w p []))) := Fr.hid st.e hp
  refine q _ H _ (f.mono fun _ z => z.elim) ((st.mono f).setO ⟨p, [], rfl, st.e.free hp, upd_same, .nil⟩ fun j s a b _ z => (st.owned ⟨j, s, a, b, z⟩).2 hp) fun l z => ?_
  rcases Ow.set z with z | ⟨_, z⟩
  · exact .inl z
  · cases z; exact .inr hp
theorem sx_dispX (hk : IsKey k) (hl : ∀ ds, d ≠ .list ds) (ha : Ev K tk env k.data) (he : Ev K te env d) : Sx K X (tAsg (tDispX P w K tk te) (gName i)) env (.nx (env.set i (.dct P w [(k, d)]))) := fun σ H H1 st D q => fun p hp => by
  have f0 : Fr0 H H1 H (upd H1 p (.ext (DX P w p []))) := Fr.hid st.e hp
  refine ha σ H _ (st.mono f0) _ fun kv G H2 f1 dk => he σ G H2 ((st.mono f0).mono f1) _ fun v G2 H3 f2 dv => ?_
  obtain ⟨a, rfl, ki⟩ := key_in hk dk
  have hg : G2 p = none := by
    have g1 : G p = none := f1.n p (fun z => z) (st.e.free hp) (by rw [upd_same]; exact fun z => nomatch z)
    exact f2.n p (fun z => z) g1 (by rw [f1.a _ _ upd_same]; exact fun z => nomatch z)
  refine ⟨f2.a _ _ (f1.a _ _ upd_same), a, k, v, rfl, (ki.mono f2.g).mono f2.r, fun u ru => ?_⟩
  have ff := (f0.tr0 f1).tr0 f2
  have e2 : Same G2 (upd H3 p (.ext (DX P w p [(k, a, u)]))) := fun b x z => by
    rw [upd_ne (ne_of_none z hg)]; exact ff.r b x z
  have f3 : Fr0 H H1 G2 (upd H3 p (.ext (DX P w p [(k, a, u)]))) := ⟨ff.g, e2, fun b x nw z => by
    have n : b ≠ p := fun y => by rw [y, hp] at z; cases z
    rw [upd_ne n]; exact ff.s b x nw z, ff.n, fun b z => ff.m b (upd_none z)⟩
  refine q _ G2 _ (f3.mono fun _ z => z.elim) ((st.mono f3).setO ⟨p, [(k, a, u)], rfl, hg, upd_same, .cons (ki.mono f2.g) ru ⟨dv, fun ds z => absurd z (hl ds)⟩ .nil⟩ fun j s b1 b2 _ z => (st.owned ⟨j, s, b1, b2, z⟩).2 hp) fun l z => ?_
  rcases Ow.set z with z | ⟨_, z⟩
  · exact .inl z
  · cases z; exact .inr hp
/-- a dict of one's own is from now on held as it is -/
theorem Stt.freezeX (st : Stt K H H1 σ env) (h : env[i]? = some (.dct P w kvs)) : ∃ l xs, σ[i]? = some (some (.ref l)) ∧ H1 l = some (.ext (DX P w l xs)) ∧ KvOk K H xs kvs ∧ ∀ o, Stt K (upd H l (.frz o (.ext (DX P w l xs)))) (upd H1 l (.frz o (.ext (DX P w l xs)))) σ (env.set i (.dcf P w kvs)) ∧ Fr (Ow σ env) H H1 (upd H l (.frz o (.ext (DX P w l xs)))) (upd H1 l (.frz o (.ext (DX P w l xs)))) ∧ ∀ p, Ow σ (env.set i (.dcf P w kvs)) p → Ow σ env p := by
  have hi : i < env.length := (List.getElem?_eq_some_iff.mp h).1
  obtain ⟨o0, a, l, xs, rfl, b, c, kv⟩ := st.get h
  refine ⟨l, xs, a, c, kv, fun o => ?_⟩
  have hw : Ow σ env l := ⟨i, _, h, rfl, a⟩
  have f : Fr (fun p => p = l) H H1 (upd H l (.frz o (.ext (DX P w l xs)))) (upd H1 l (.frz o (.ext (DX P w l xs)))) := by
    refine ⟨newS b, fun p x z => ?_, fun p x nw z => ?_, fun p nw z _ => ?_, fun p z => upd_none z⟩
    · by_cases e : p = l
      · subst e; rw [upd_same] at z ⊢; exact z
      · rw [upd_ne e] at z ⊢; exact st.e p x z
    · rw [upd_ne (show p ≠ l from nw)]; exact z
    · rw [upd_ne (show p ≠ l from nw)]; exact z
  have st0 : Stt K H H1 σ (env.set i .no) := st.re h (fun _ _ _ => trivial) fun z => nomatch z
  have st1 := st0.monoW f fun p z e => by
    obtain ⟨j, s, e1, e2, e3⟩ := z
    by_cases c1 : i = j
    · subst c1; rw [List.getElem?_set_self hi] at e1; cases e1; cases e2
    · rw [List.getElem?_set_ne c1] at e1
      subst e
      exact st.ne i j _ _ _ c1 h e1 rfl e2 a e3
  have st2 := st1.re (i := i) (s := .no) (s' := .dcf P w kvs) (List.getElem?_set_self hi) (fun o' e _ => by
    rw [a] at e; cases e
    exact ⟨l, o, xs, rfl, upd_same, kv.mono (newS b)⟩) fun z => nomatch z
  rw [List.set_set] at st2
  refine ⟨st2, f.mono fun p z => by rw [z]; exact hw, fun p z => ?_⟩
  exact Ow.re (s' := .dcf P w kvs) h (fun z => by cases z) z
/-- for k in d, a turn may end the whole -/
theorem sx_forXE {g : TG} (h : IsDc P w env i kvs) (Inv : Nat → List SV) (h0 : Inv 0 = env.set i (.dcf P w kvs)) (o : Nat → Bool) (ex : Oc) (hx : ex.isNx = false) (hb : ∀ e, ex ≠ .bk e) (hc : ∀ e, ex ≠ .ct e)
    (go : ∀ (n : Nat) (k : NestedKey), (kvs.map (·.1))[n]? = some k → (∀ j, j < n → o j = false) → ∃ env', Tg K g (Inv n) k.data env' ∧ ((o n = false → Go K X t env' (Inv (n + 1))) ∧ (o n = true → oc = ex ∧ Sx K X t env' ex)))
    (rest : (∀ j, j < kvs.length → o j = false) → Sx K X u (Inv kvs.length) oc) : Sx K X (tSeq (tFor (iX P w (tVar i)) g t) u) env oc := fun σ H H1 st D q => by
  have main : ∀ (l : Addr) (ob : Obj) (xs : List Ent) (G0 H2 : Hp), G0 l = some (.frz ob (.ext (DX P w l xs))) → KvOk K G0 xs kvs → Stt K G0 H2 σ (env.set i (.dcf P w kvs)) → Fr (Ow σ env) H H1 G0 H2 → (∀ p, Ow σ (env.set i (.dcf P w kvs)) p → Ow σ env p) →
      ∃ W : Nat → Nat → L2.St → Hp → Prop, (∃ m, W 0 m σ H2) ∧ ∀ (n m : Nat) (σ' : L2.St) (H' : Hp), W n m σ' H' → ((Itx P w l ob xs).stop n H' ∧ u D σ' H') ∨ ((Itx P w l ob xs).go n H' ∧ ∃ N : L2.St → Hp → Prop, (∀ σ2 Hx, N σ2 Hx → ∃ m', m' < m ∧ W (n + 1) m' σ2 Hx) ∧ ∀ x Hx, (Itx P w l ob xs).yld n H' x Hx → g x σ' Hx fun σ2 Hy => t { nx := N, rt := D.rt, bk := u D, ct := N } σ2 Hy) := by
    intro l ob xs G0 H2 hf kv st0 f' ow0
    have hlen := kv_len kv
    refine ⟨fun n m σ' H' => m = kvs.length - n ∧ n ≤ kvs.length ∧ Pt K (Ow σ env) G0 H2 Inv n σ' H' ∧ ∀ j, j < n → o j = false, ⟨kvs.length, rfl, Nat.zero_le _, ⟨G0, Fr.refl f'.r, by rw [h0]; exact st0, fun p z => .inl (by rw [h0] at z; exact ow0 p z)⟩, fun j hj => absurd hj (Nat.not_lt_zero j)⟩, ?_⟩
    rintro n m σ' H' ⟨rfl, hn, ⟨G, fr, st2, ow⟩, hj⟩
    have hd : H' l = some (.frz ob (.ext (DX P w l xs))) := fr.r _ _ (fr.g _ _ hf)
    have kv2 := kv.mono fr.g
    by_cases hlt : n < kvs.length
    · have hlt' : n < xs.length := by rw [hlen]; exact hlt
      refine .inr ⟨⟨hd, hlt'⟩, fun σ' H' => Pt K (Ow σ env) G0 H2 Inv (n + 1) σ' H' ∧ ∀ j, j < n + 1 → o j = false, fun σ2 Hx p => ⟨kvs.length - (n + 1), by omega, rfl, hlt, p⟩, fun x Hx y => ?_⟩
      obtain ⟨rfl, e, he, rfl⟩ := y
      have at' : ∀ {xs : List Ent} {kvs : List Kv} (n : Nat) {e : Ent}, KvOk K G xs kvs → xs[n]? = some e → (kvs.map (·.1))[n]? = some e.1 ∧ KeyIn K G e.2.1 e.1 := by
        intro xs kvs n e hk
        induction hk generalizing n with
        | nil => intro z; simp at z
        | cons ha _ _ _ ih =>
          intro z
          cases n with
          | zero => simp at z; subst z; exact ⟨rfl, ha⟩
          | succ n => simp at z; exact ih n z
      obtain ⟨ek, ki⟩ := at' n kv2 he
      obtain ⟨env', tg, g1, g2⟩ := go n e.1 ek hj
      refine tg σ' G Hx (.ref e.2.1) st2 ki.1 _ fun σ2 st3 o3 => ?_
      have ow3 : ∀ l, Ow σ2 env' l → Ow σ env l ∨ H2 l = none := fun l z => ow l (o3 l z)
      cases hoi : o n with
      | false =>
        have nx : ∀ σ3 G3 Hy, Fr (Ow σ2 env') G Hx G3 Hy → Stt K G3 Hy σ3 (Inv (n + 1)) → (∀ l, Ow σ3 (Inv (n + 1)) l → Ow σ2 env' l ∨ Hx l = none) → Pt K (Ow σ env) G0 H2 Inv (n + 1) σ3 Hy ∧ ∀ j, j < n + 1 → o j = false := fun σ3 G3 Hy f3 st4 o4 =>
          ⟨⟨G3, fr.trans f3 ow3, st4, fun l z => (o4 l z).elim (ow3 l) fun z => .inr (fr.m l z)⟩, fun j hj' => by
            rcases Nat.lt_succ_iff_lt_or_eq.mp hj' with z | z
            · exact hj j z
            · rw [z]; exact hoi⟩
        rcases g1 hoi with w | w
        · exact w σ2 G Hx st3 _ nx
        · exact w σ2 G Hx st3 _ nx
      | true =>
        obtain ⟨eo, w⟩ := g2 hoi
        refine w σ2 G Hx st3 _ ?_
        have q' : OcOk K X (Ow σ2 env') D G Hx ex := by
          rw [eo] at q
          refine (q.tr f' fun l z => .inl z).tr fr ow3
        cases ex with
        | nx e => cases hx
        | bk e => exact absurd rfl (hb e)
        | ct e => exact absurd rfl (hc e)
        | ex c e => exact q'
        | rt d => exact q'
        | rl x => exact q'
        | rr v => exact q'
        | rw vs e => exact q'
        | rk xs => exact q'
        | rg k xs rs => exact q'
        | rb => exact q'
    · have en : n = kvs.length := by omega
      subst en
      refine .inl ⟨⟨hd, by omega⟩, ?_⟩
      exact rest hj σ' G H' st2 D ((q.tr f' fun l z => .inl z).tr fr ow)
  rcases h with h | h
  · obtain ⟨l, xs, a, c, kv, mk⟩ := st.freezeX h
    refine ⟨_, a, l, xs, rfl, .inl ⟨c, fun ob => ?_⟩⟩
    obtain ⟨st0, f', ow0⟩ := mk ob
    exact main l ob xs _ _ upd_same (kv.mono f'.g) st0 f' ow0
  · obtain ⟨o0, a, l, ob, xs, rfl, b, kv⟩ := st.get h
    have e : env.set i (.dcf P w kvs) = env := by
      refine List.ext_getElem? fun j => ?_
      by_cases c : i = j
      · subst c; rw [List.getElem?_set_self (List.getElem?_eq_some_iff.mp h).1, h]
      · rw [List.getElem?_set_ne c]
    refine ⟨_, a, l, xs, rfl, .inr ⟨ob, st.e _ _ b, ?_⟩⟩
    exact main l ob xs H H1 b kv (by rw [e]; exact st) (Fr.refl st.e) fun p z => by rw [e] at z; exact z
end
end Pf

namespace Pf
open PySem PySem.Spec PyProof.Rows L2
section
variable {K : PySem.W.Frag} {X : WX} {te : TE} {env : List SV} {xs : List PyData} {oc : Oc} {t : TS} {tt : TT}
/-- within an expression that gives a new list of whole numbers, one's own list may be read as data -/
theorem eo_fixI {ns : List Int} (i : Nat) (h : env[i]? = some (.own xs)) (k : EvO K te (env.set i (.dat (.list xs))) (ns.map .int)) : EvO K te env (ns.map .int) := fun σ H H1 st Q q => by
  obtain ⟨l, vs, a, b, c, st'⟩ := st.freeze h
  refine k σ _ H1 st' Q fun p ws G H2 f hp hg h2 dv => ?_
  refine q p ws H H2 ⟨Same.refl _, (newS b).trans (f.g.trans f.r), f.s, fun _ _ z _ => z, f.m⟩ hp (st.e.free hp) h2 ?_
  rw [dpa_ints dv]; exact dpa_of_ints _
/-- [e for target in a tuple of data if ..] -/
theorem eo_lcT {tl : TE} {α : Type} (xs : List α) (en : α → PyData) (f : α → Bool) (w : α → PyData) {g : TG} {vs : List Nat} (h : Ev K tl env (.tuple (xs.map en))) (hz : xs.length < 100000) (turn : ∀ x ∈ xs, ∃ env', Tgw K vs g (wipeE env vs) (en x) env' ∧ EvT K tt env' (f x) ∧ (f x = true → Ev K te env' (w x))) :
    EvO K (tLc (iTup K tl) g tt te vs) env ((xs.filter f).map w) := fun σ H H1 st Q q => by
  refine h σ H H1 st _ fun v G0 H2 f0 dv => ?_
  cases dv with
  | @tup a as _ hl hd =>
    refine ⟨a, rfl, ⟨as, sqt f0.r hl⟩, fun D hD => ?_⟩
    have st0 := st.mono f0
    have nD : ∀ l, Ow (L2.wipe σ vs) (wipeE env vs) l → ¬ l = D := fun l z e => by
      have := (st0.owned (Ow.wipe z)).2
      exact this (by rw [e]; exact hD)
    have hlen : as.length = xs.length := by rw [dpa_len hd, List.length_map]
    refine lc_tup (K := K) (a := a) (xs := as) (fun i H' => Mk K G0 H2 D (((xs.take i).filter f).map w) H') (mk_start f0.r hD) (fun i H' _ p => ?_) (fun i x H' hi p => ?_) (fun H' p => ?_)
    · obtain ⟨G, ac, f1, _⟩ := p
      exact sqt f1.r (sqt f1.g hl)
    · obtain ⟨G, ac, f1, hG, ha, da⟩ := p
      obtain ⟨d, e1, e2⟩ := dpa_get hd hi
      rw [List.getElem?_map] at e1
      cases ex : xs[i]? with
      | none => rw [ex] at e1; cases e1
      | some x' =>
        rw [ex] at e1
        obtain rfl : en x' = d := Option.some.inj e1
        obtain ⟨env', tg, ht, he⟩ := turn x' (List.mem_of_getElem? ex)
        refine tg _ G H' x ((st0.wipe vs).monoW f1 nD) (dm f1.g e2) _ fun σ' st' o hw => ⟨?_, ?_⟩
        · rw [hw]; exact wipe_wipe fun _ z => z
        · rw [filter_next ex]
          exact mk_turn f1 hG ha da (take_short hz) st' ht he
    · obtain ⟨G, ac, f1, hG, ha, da⟩ := p
      have ff : Fr0 H H1 G H' := f0.trans f1 fun p z => .inr (by rw [z]; exact f0.a.free hD)
      rw [hlen, List.take_length] at da
      exact q D ac G H' ff (f0.a.free hD) hG ha da
/-- while: n turns -/
theorem sx_while {n : Nat} (Inv : Nat → List SV) (h0 : Inv 0 = env) (go : ∀ i, i < n → EvT K tt (Inv i) true ∧ Go K X t (Inv i) (Inv (i + 1))) (he : EvT K tt (Inv n) false) : Sx K X (tWhile tt t) env (.nx (Inv n)) := fun σ H H1 st D q => by
  refine ⟨fun m σ' H' => ∃ i, i ≤ n ∧ m = n - i ∧ Pt K (Ow σ env) H H1 Inv i σ' H', ⟨n, 0, Nat.zero_le _, rfl, ⟨H, Fr.refl st.e, by rw [h0]; exact st, fun l z => .inl (by rw [h0] at z; exact z)⟩⟩, fun m σ' H' p => ?_⟩
  obtain ⟨i, hi, rfl, G, f2, st2, ow⟩ := p
  by_cases c : i < n
  · obtain ⟨g0, g1⟩ := go i c
    refine g0 σ' G H' st2 _ fun G3 H3 f3 => ?_
    rw [if_pos rfl]
    refine ⟨fun σ'' H'' => Pt K (Ow σ env) H H1 Inv (i + 1) σ'' H'', fun σ'' H'' p => ⟨n - (i + 1), by omega, i + 1, c, rfl, p⟩, ?_⟩
    have st3 := st2.mono f3
    have f23 := f2.tr0 f3
    have nx : ∀ σ3 G4 H4, Fr (Ow σ' (Inv i)) G3 H3 G4 H4 → Stt K G4 H4 σ3 (Inv (i + 1)) → (∀ l, Ow σ3 (Inv (i + 1)) l → Ow σ' (Inv i) l ∨ H3 l = none) → Pt K (Ow σ env) H H1 Inv (i + 1) σ3 H4 := fun σ3 G4 H4 f4 st4 o4 =>
      ⟨G4, f23.trans f4 ow, st4, fun l z => (o4 l z).elim (ow l) fun z => .inr (f23.m l z)⟩
    rcases g1 with w | w
    · exact w σ' G3 H3 st3 _ nx
    · exact w σ' G3 H3 st3 _ nx
  · obtain rfl : i = n := by omega
    refine he σ' G H' st2 _ fun G3 H3 f3 => ?_
    rw [if_neg (by decide)]
    exact q σ' G3 H3 (f2.tr0 f3) (st2.mono f3) ow
end
end Pf

/-! texts -/
namespace Pf
open PySem PySem.Spec PyProof.Rows L2
section
variable {K : PySem.W.Frag} {X : WX} {env : List SV} {ta tb te : TE} {xs ys : List PyData} {d : PyData} {aa : TA}
theorem EvL.is (h : EvL K te env xs) (q : xs = ys) : EvL K te env ys := q ▸ h
/-- the parts of a text with braces -/
inductive EvJ (K : PySem.W.Frag) (env : List SV) : List TE → List Str → Prop where
  | nil : EvJ K env [] []
  | cons {te : TE} {y : Str} {ts : List TE} {zs : List Str} : Ev K te env (.str y) → EvJ K env ts zs → EvJ K env (te :: ts) (y :: zs)
def catS (acc : Str) (ys : List Str) : Str := ys.foldl (· ++ ·) acc
theorem len_app (a b : Str) : (a ++ b).length = a.length + b.length := by
  show (a.cps ++ b.cps).size = _
  rw [Array.size_append]; rfl
theorem catS_len : ∀ (ys : List Str) (acc : Str), acc.length ≤ (catS acc ys).length
  | [], acc => Nat.le_refl _
  | y :: r, acc => Nat.le_trans (by rw [len_app]; omega) (catS_len r (acc ++ y))
theorem tjs_ev : ∀ {ts : List TE} {ys : List Str}, EvJ K env ts ys → ∀ (acc : Str), (catS acc ys).length ≤ 100000 → ∀ σ H H1, Stt K H H1 σ env → ∀ Q : Str → Hp → Prop, (∀ G H2, Fr0 H H1 G H2 → Q (catS acc ys) H2) → tJs ts acc σ H1 Q
  | _, _, .nil, acc, _, σ, H, H1, st, Q, q => q H H1 (Fr.refl st.e)
  | _, _, .cons (y := y) (zs := zs) h t, acc, hz, σ, H, H1, st, Q, q => h σ H H1 st _ fun v G H2 f dv => by
    cases dv
    refine ⟨y, rfl, sz_ok (Nat.le_trans (catS_len zs (acc ++ y)) hz), tjs_ev t (acc ++ y) hz σ G H2 (st.mono f) Q fun G3 H3 f3 => q G3 H3 (f.tr0 f3)⟩
theorem ev_js {ts : List TE} {ys : List Str} (h : EvJ K env ts ys) (hz : (catS Str.empty ys).length ≤ 100000) : Ev K (fun σ H Q => tJs ts Str.empty σ H fun out H1 => Q (.str out) H1) env (.str (catS Str.empty ys)) := fun σ H H1 st Q q =>
  tjs_ev h Str.empty hz σ H H1 st _ fun G H2 f => q _ G H2 f (.str _)
def intS (n : Int) : Str := Str.ofString (toString n)
/-- text + text -/
theorem ev_addS {a b : Str} (ha : Ev K ta env (.str a)) (hb : Ev K tb env (.str b)) (hz : a.length + b.length ≤ 100000) : Ev K (tOp (fun x y H Q => ∃ i j, x = .str i ∧ y = .str j ∧ i.length + j.length ≤ sizeLine ∧ Q (.str (i ++ j)) H) ta tb) env (.str (a ++ b)) :=
  ev_op ha hb fun x y H H1 Q e dx dy q => by
    cases dx; cases dy
    exact ⟨a, b, rfl, rfl, sz_ok hz, q _ H H1 (Fr.refl e) (.str _)⟩
/-- str(n) -/
theorem ev_strI {n : Int} (h : Ev K te env (.int n)) (hn : n.natAbs.log2 < 1920) : Ev K (tCB (fun xs H Q => ∃ i, xs = [.int i] ∧ i.natAbs.log2 < 1920 ∧ Q (.str (toString i)) H) (tCons te tNil)) env (.str (intS n)) :=
  ev_cb (ea_cons h ea_nil) fun vs H H1 Q e dv q => by
    cases dv with
    | cons a b =>
      cases a; cases b
      exact ⟨n, rfl, hn, q _ H H1 (Fr.refl e) (.str _)⟩
def rJoin (K : PySem.W.Frag) : V → List V → Hp → VK → Prop := fun x xs H Q => ∃ a p, ∃ ys : List Str, x = .str a ∧ xs = [.ref p] ∧ (SqL K H p (ys.map V.str) ∨ SqT K H p (ys.map V.str)) ∧ (ys.map (·.length)).sum + ys.length * a.length ≤ 16777216 ∧ Q (.str (Txt.join a ys)) H
theorem mt_joinK {X : Cx} : MtR X "str.join" (rJoin X.K) := mt_join
theorem dpa_strs : ∀ {ns : List Str} {H : Hp} {vs : List V}, DpAll K H vs (ns.map PyData.str) → vs = ns.map V.str
  | [], _, _, h => by cases h; rfl
  | n :: r, _, _, h => by
    cases h with
    | cons a b => cases a; rw [dpa_strs b]; rfl
/-- sep.join(list of texts) -/
theorem ev_join {s : Str} {ns : List Str} (ha : Ev K ta env (.str s)) (hb : EvL K tb env (ns.map .str)) (hz : (ns.map (·.length)).sum + ns.length * s.length ≤ 16777216) : Ev K (tM1 (rJoin K) ta tb) env (.str (Txt.join s ns)) := fun σ H H1 st Q q =>
  ha σ H H1 st _ fun v G H2 f dv => by
    cases dv
    refine ⟨⟨s, rfl⟩, hb σ G H2 (st.mono f) _ fun p vs G3 H3 f3 h3 d3 => ?_⟩
    rw [dpa_strs d3] at h3
    exact ⟨s, p, ns, rfl, rfl, .inl (.inl (.inl h3)), hz, q _ G3 H3 (f.tr0 f3) (.str _)⟩
/-- xs.extend(list) -/
theorem sx_ext {i : Nat} (h : env[i]? = some (.own xs)) (he : EvO K te env ys) (hz : xs.length + ys.length ≤ 100000) : Sx K X (tDrop (tBM K "list" rExtend (tVar i) (tCons te tNil))) env (.nx (env.set i (.own (xs ++ ys)))) := fun σ H H1 st D q => by
  obtain ⟨l, vs, a, b, c, dv⟩ := st.own h
  refine ⟨_, a, .inl ⟨rfl, _, .inl (.inl c)⟩, he σ H H1 st _ fun p ws G H2 f hp hg h2 dw => ?_⟩
  have st2 := st.mono f
  obtain ⟨l', vs', a', b', c', dv'⟩ := st2.own h
  rw [a] at a'; cases a'
  refine ⟨l, p, vs', ws, rfl, rfl, c', h2, sz_ok (by rw [dpa_len dv', dpa_len dw]; exact hz), ?_⟩
  obtain ⟨w1, w2, w3⟩ := st2.write (o := .lst (vs' ++ ws)) (s' := .own (xs ++ ys)) h rfl a ⟨l, vs' ++ ws, rfl, b', upd_same, dpa_app dv' dw⟩ rfl
  exact q σ _ _ ((f.mono fun _ z => z.elim).trans w2 fun p z => .inl z) w1 fun p z => .inl (w3 p z)
theorem join_snoc (s : Str) : ∀ (ns : List Str) (y : Str), ns ≠ [] → Txt.join s (ns ++ [y]) = Txt.join s ns ++ s ++ y
  | [], _, h => absurd rfl h
  | a :: r, y, _ => by
    show Builtin.Str.glued s (a :: (r ++ [y])) = Builtin.Str.glued s (a :: r) ++ s ++ y
    unfold Builtin.Str.glued
    show (⟨(r ++ [y]).foldl _ _⟩ : Str) = ⟨(r.foldl _ _ ++ s.cps) ++ y.cps⟩
    rw [List.foldl_append]; rfl
theorem app_assoc (a b c : Str) : a ++ b ++ c = a ++ (b ++ c) := by
  show (⟨(a.cps ++ b.cps) ++ c.cps⟩ : Str) = ⟨a.cps ++ (b.cps ++ c.cps)⟩
  rw [Array.append_assoc]
theorem empty_app (a : Str) : Str.empty ++ a = a := by
  show (⟨#[] ++ a.cps⟩ : Str) = a
  rw [Array.empty_append]
theorem app_empty (a : Str) : a ++ Str.empty = a := by
  show (⟨a.cps ++ #[]⟩ : Str) = a
  rw [Array.append_empty]
end
end Pf

/-! sorted(a list of data) -/
namespace Pf
open PySem PySem.Spec PyProof.Rows L2
def rSortD (K : PySem.W.Frag) : List V → Hp → VK → Prop := fun vs H Q => ∃ (G : Hp) (a : Addr) (xs : List V) (ds : List PyData), vs = [V.ref a] ∧ Same G H ∧ SqL K H a xs ∧ DpAll K G xs ds ∧ PySem.W.AllAlike ds ∧ PySem.W.Sortable ds ∧ ds.length ≤ 100000 ∧ (∀ d ∈ ds, d.depth ≤ 8) ∧
  ∀ (ys : List V) (p : Addr), DpAll K G ys (ds.mergeSort (PySem.W.dataLe false id)) → H p = none → Q (.ref p) (upd H p (.lst ys))
theorem each_zip {K : PySem.W.Frag} {G : Hp} : ∀ {xs : List V} {us : List Value} {ds : List PyData}, Vals xs us → DpAll K G xs ds → PySem.W.EachIs (fun (v : Value) (b : V × PyData) => L2.RelV b.1 v ∧ Dp K G b.1 b.2) us (xs.zip ds)
  | _, _, _, .nil, .nil => .nil
  | _, _, _, .cons r t, .cons a b => .cons ⟨r, a⟩ (each_zip t b)
theorem zip_each {K : PySem.W.Frag} {G : Hp} : ∀ {us : List Value} {bs : List (V × PyData)}, PySem.W.EachIs (fun (v : Value) (b : V × PyData) => L2.RelV b.1 v ∧ Dp K G b.1 b.2) us bs → Vals (bs.map (·.1)) us ∧ DpAll K G (bs.map (·.1)) (bs.map (·.2))
  | _, _, .nil => ⟨.nil, .nil⟩
  | _, _, .cons h t => ⟨.cons h.1 (zip_each t).1, .cons h.2 (zip_each t).2⟩
theorem cr_sortedD {X : Cx} (hu : X.A.units + 65 < cLine) : CallR X (.builtin "sorted") (rSortD X.K) := by
  intro pins s σ H vs us Q I r hh
  obtain ⟨G, a, xs, ds, rfl, hG, hs, hd, al, so, hl, hp, q⟩ := hh
  obtain ⟨its, rv, hli, _⟩ := I.list hs
  rw [Vals.ref1 r]
  have hlen := dpa_len hd
  have e := each_zip rv hd
  have e2 : (xs.zip ds).map (·.2) = ds := List.map_snd_zip (by omega)
  have hz : (xs.zip ds).length = ds.length := by rw [List.length_zip]; omega
  have hzs : ds.length ≤ sizeLine := sz_ok hl
  refine PySem.W.sorted_data (enc := fun b : V × PyData => b.2) hli.isList e (e.mono fun v b z => Dp.reads I b.2 b.1 v (dm hG z.2) z.1) (by rw [e2]; exact al) (by rw [e2]; exact so) (by omega) (fun b hb => ?_) fun out ho eo => ?_
  · have := hp b.2 (by rw [← e2]; exact List.mem_map.mpr ⟨b, hb, rfl⟩)
    show X.A.units + 2 + b.2.depth < cLine
    omega
  · obtain ⟨w1, w2⟩ := zip_each eo
    have em : ((xs.zip ds).mergeSort (PySem.W.dataLe false fun b : V × PyData => b.2)).map (·.2) = ds.mergeSort (PySem.W.dataLe false id) :=
      (List.map_mergeSort (r := PySem.W.dataLe false fun b : V × PyData => b.2) (s := PySem.W.dataLe false id) (f := fun b : V × PyData => b.2) (l := xs.zip ds) fun _ _ _ _ => rfl).trans (by rw [e2])
    rw [em] at w2
    obtain ⟨ep, hep⟩ := PyProof.Rows.sortedAll_at s.heap its out.toArray
    have hlen2 : (((xs.zip ds).mergeSort (PySem.W.dataLe false fun b : V × PyData => b.2)).map (·.1)).length ≤ sizeLine := by
      rw [List.length_map, List.length_mergeSort, hz]; exact hzs
    exact ⟨.ref _, upd H (s.heap.objs.size + 1) (.lst _), I.laid (t' := s.toks) (fun _ _ => PyProof.Rows.sortedAll_old) (Nat.le_succ _) ⟨hlen2, out, ep, w1, hep⟩, rfl, q _ _ w2 (I.hok.fresh (Nat.le_succ _))⟩
section
variable {K : PySem.W.Frag} {X : WX} {env : List SV} {ta tb te : TE}
theorem eo_sortedD {α : Type} (en : α → PyData) {xs : List α} (ha : EvL K ta env (xs.map en)) (al : ∀ a b, PySem.W.alike (en a) (en b) = true) (so : (∀ a, ∃ x r, en a = .tuple (x :: r)) ∨ ∀ a, en a ≠ .none ∧ ∀ ys, en a ≠ .tuple ys) (hl : xs.length ≤ 100000) (hd : ∀ a, (en a).depth ≤ 8) :
    EvO K (tCB (rSortD K) (tCons ta tNil)) env ((xs.mergeSort (PySem.W.dataLe false en)).map en) := fun σ H H1 st Q q =>
  ha σ H H1 st _ fun p vs G H2 f h2 dv => by
    have em : (xs.mergeSort (PySem.W.dataLe false en)).map en = (xs.map en).mergeSort (PySem.W.dataLe false id) := List.map_mergeSort (r := PySem.W.dataLe false en) (s := PySem.W.dataLe false id) (f := en) fun _ _ _ _ => rfl
    refine ⟨G, p, vs, xs.map en, rfl, f.r, .inl (.inl h2), dv, PySem.W.AllAlike.of al, ?_, by rw [List.length_map]; exact hl, fun d h => ?_, fun ys p2 dy hp2 => ?_⟩
    · rcases so with so | so
      · exact PySem.W.Sortable.tuples so
      · exact PySem.W.Sortable.others so
    · obtain ⟨b, _, rfl⟩ := List.mem_map.mp h; exact hd b
    · rw [← em] at dy
      have hg : G p2 = none := f.r.free hp2
      refine q p2 ys G _ ⟨f.g, fun x o z => newS hp2 x o (f.r x o z), fun x o w z => newS hp2 x o (f.s x o w z), f.n, fun x z => f.m x (upd_none z)⟩ (f.m _ hp2) hg upd_same dy
end
end Pf

/-! dicts whose values are lists -/
namespace Pf
open PySem PySem.Spec PyProof.Rows L2
section
variable {P : Program} {w : World} {K : PySem.W.Frag} {X : WX} {env env1 : List SV} {ta tb te tk : TE} {t u : TS} {tt : TT} {d e : PyData} {i j : Nat} {oc : Oc} {H H1 : Hp} {σ : L2.St} {kvs : List Kv} {k : NestedKey} {xs ys : List PyData}
theorem EvKn.l (h : EvKn K te env xs) : EvL K te env xs := fun σ H H1 st Q q =>
  h σ H H1 st Q fun p vs G H2 f g dv => q p vs G H2 f (f.r _ _ g) dv
theorem EvKn.ev (h : EvKn K te env xs) : Ev K te env (.list xs) := fun σ H H1 st Q q =>
  h σ H H1 st Q fun p vs G H2 f g dv => q _ G H2 f (dp_list g dv)
theorem EvKn.is (h : EvKn K te env xs) (q : xs = ys) : EvKn K te env ys := q ▸ h
/-- d[k], a list -/
theorem ek_ixX (hk : IsKey k) (h : IsDc P w env i kvs) (ha : Ev K ta env k.data) (hd : atP kvs k = some (.list xs)) : EvKn K (tOp (rIxX P w K) (tVar i) ta) env xs := fun σ H H1 st Q q => by
  obtain ⟨l, es, e1, e2, e3⟩ := st.dc h
  refine ⟨_, e1, ha σ H H1 st _ fun v G H2 f dv => ?_⟩
  obtain ⟨a, rfl, ki⟩ := key_in hk dv
  have e3' := e3.mono f.g
  rcases kv_at (k := k) e3' with ⟨_, h2⟩ | ⟨p, d', v', h1, h2, h3, h4⟩
  · rw [hd] at h2; cases h2
  · rw [hd] at h2; cases h2
    obtain ⟨p', vs, rfl, g1, g2⟩ := h4.2 xs rfl
    exact ⟨a, l, es, k, p, .ref p', rfl, rfl, e2.mono f.a, ki.mono f.r, fun x hx => (kv_keys e3' x hx).mono f.r, h1, h3, q p' vs G H2 f g1 g2⟩
theorem kn_dv {G : Hp} {p : Addr} {vs : List V} (g : G p = some (.lst vs)) (dv : DpAll K G vs xs) : Dv K G (.ref p) (.list xs) := ⟨dp_list g dv, fun ds z => by cases z; exact ⟨p, vs, rfl, g, dv⟩⟩
/-- d[k] = a list -/
theorem sx_putXL (hk : IsKey k) (h : env[i]? = some (.dct P w kvs)) (he : EvKn K te env xs) (ha : Ev K tk env k.data) (hz : kvs.length < 100000) : Sx K X (tAsg te (gSub (tVar i) tk (rSetX P w K))) env (.nx (env.set i (.dct P w (putP kvs k (.list xs))))) := fun σ H H1 st D q =>
  he σ H H1 st _ fun p vs G H2 f g dv => by
    have st2 := st.mono f
    obtain ⟨o, e1, l, es, rfl, _⟩ := st2.get h
    refine ⟨_, e1, ha σ G H2 st2 _ fun kv G3 H3 f3 dk => ?_⟩
    obtain ⟨a, rfl, ki⟩ := key_in hk dk
    have st3 := st2.mono f3
    obtain ⟨o, e1', l', es', rfl, b1, b2, b3⟩ := st3.get h
    rw [e1] at e1'; cases e1'
    refine ⟨a, l, es', k, rfl, rfl, b2, ki.mono f3.r, fun x hx => (kv_keys b3 x hx).mono f3.r, by rw [kv_len b3]; exact hz, fun u ru => ?_⟩
    obtain ⟨w1, w2, w3⟩ := st3.write (o := .ext (DX P w l (storedH es' k a u))) (s' := .dct P w (putP kvs k (.list xs))) h rfl e1 ⟨l, _, rfl, b1, upd_same, kv_put b3 ki ru ((kn_dv g dv).mono f3.g)⟩ rfl
    exact q σ _ _ (((f.tr0 f3).mono fun _ z => z.elim).trans w2 fun p z => .inl z) w1 fun p z => .inl (w3 p z)
/-- {k: a list} -/
theorem sx_dispXL (hk : IsKey k) (ha : Ev K tk env k.data) (he : EvKn K te env xs) : Sx K X (tAsg (tDispX P w K tk te) (gName i)) env (.nx (env.set i (.dct P w [(k, .list xs)]))) := fun σ H H1 st D q => fun p hp => by
  have f0 : Fr0 H H1 H (upd H1 p (.ext (DX P w p []))) := Fr.hid st.e hp
  refine ha σ H _ (st.mono f0) _ fun kv G H2 f1 dk => he σ G H2 ((st.mono f0).mono f1) _ fun pl vs G2 H3 f2 g dv => ?_
  obtain ⟨a, rfl, ki⟩ := key_in hk dk
  have hg : G2 p = none := by
    have g1 : G p = none := f1.n p (fun z => z) (st.e.free hp) (by rw [upd_same]; exact fun z => nomatch z)
    exact f2.n p (fun z => z) g1 (by rw [f1.a _ _ upd_same]; exact fun z => nomatch z)
  refine ⟨f2.a _ _ (f1.a _ _ upd_same), a, k, .ref pl, rfl, (ki.mono f2.g).mono f2.r, fun u ru => ?_⟩
  have ff := (f0.tr0 f1).tr0 f2
  have e2 : Same G2 (upd H3 p (.ext (DX P w p [(k, a, u)]))) := fun b x z => by
    rw [upd_ne (ne_of_none z hg)]; exact ff.r b x z
  have f3 : Fr0 H H1 G2 (upd H3 p (.ext (DX P w p [(k, a, u)]))) := ⟨ff.g, e2, fun b x nw z => by
    have n : b ≠ p := fun y => by rw [y, hp] at z; cases z
    rw [upd_ne n]; exact ff.s b x nw z, ff.n, fun b z => ff.m b (upd_none z)⟩
  refine q _ G2 _ (f3.mono fun _ z => z.elim) ((st.mono f3).setO ⟨p, [(k, a, u)], rfl, hg, upd_same, .cons (ki.mono f2.g) ru (kn_dv g dv) .nil⟩ fun j s b1 b2 _ z => (st.owned ⟨j, s, b1, b2, z⟩).2 hp) fun l z => ?_
  rcases Ow.set z with z | ⟨_, z⟩
  · exact .inl z
  · cases z; exact .inr hp
/-- d.get(k, a list) -/
def tGetX (P : Program) (w : World) (K : PySem.W.Frag) (td tk tx : TE) : TE := fun σ H Q => td σ H fun x H1 => (∃ D xs, x = .ref D ∧ DAt P w H1 D xs ∧ ∀ e ∈ xs, KeyIn K H1 e.2.1 e.1) ∧ tk σ H1 fun y H2 => tx σ H2 fun z H3 => rGetX P w K x [y, z] H3 Q
theorem ek_getX (hk : IsKey k) (h : IsDc P w env i kvs) (ha : Ev K tk env k.data) (hx : EvKn K te env ys) (hd : (atP kvs k = none ∧ xs = ys) ∨ atP kvs k = some (.list xs)) : EvKn K (tGetX P w K (tVar i) tk te) env xs := fun σ H H1 st Q q => by
  obtain ⟨l, es, e1, e2, e3⟩ := st.dc h
  refine ⟨_, e1, ⟨l, es, rfl, e2, fun x hx => (kv_keys e3 x hx).mono st.e⟩, ha σ H H1 st _ fun v G H2 f dv => hx σ G H2 (st.mono f) _ fun pl vs G2 H3 f2 g dl => ?_⟩
  obtain ⟨a, rfl, ki⟩ := key_in hk dv
  have ff := f.tr0 f2
  have e3' := e3.mono ff.g
  rcases kv_at (k := k) e3' with ⟨h1, h2⟩ | ⟨p, d', v', h1, h2, h3, h4⟩
  · rcases hd with ⟨_, rfl⟩ | hd
    · exact ⟨a, l, es, k, .ref pl, .ref pl, rfl, rfl, e2.mono ff.a, (ki.mono f2.g).mono f2.r, fun x hx => (kv_keys e3' x hx).mono f2.r, fun p z => by (rw [h1] at z; cases z), fun _ => rfl, q pl vs G2 H3 ff g dl⟩
    · rw [hd] at h2; cases h2
  · rcases hd with ⟨hd, _⟩ | hd
    · rw [hd] at h2; cases h2
    · rw [hd] at h2; cases h2
      obtain ⟨p', vs', rfl, g1, g2⟩ := h4.2 xs rfl
      exact ⟨a, l, es, k, .ref pl, .ref p', rfl, rfl, e2.mono ff.a, (ki.mono f2.g).mono f2.r, fun x hx => (kv_keys e3' x hx).mono f2.r, fun p'' z => by (rw [h1] at z; cases z; exact h3), fun z => by (rw [h1] at z; cases z), q p' vs' G2 H3 ff g1 g2⟩
theorem lcX_core {l : Addr} {ob : Obj} {es : List Ent} {env : List SV} {te : TE} (st : Stt K H H1 σ env) (hl : H l = some (.frz ob (.ext (DX P w l es)))) (kv : KvOk K H es kvs) (f : NestedKey → Bool) (wd : NestedKey → PyData) {g : TG} {vs : List Nat} (hz : kvs.length < 100000)
    (turn : ∀ k ∈ kvs.map (·.1), ∃ env', Tgw K vs g (wipeE env vs) k.data env' ∧ EvT K tt env' (f k) ∧ (f k = true → Ev K te env' (wd k))) (Q : VK)
    (q : ∀ p vs G H2, Fr0 H H1 G H2 → H1 p = none → G p = none → H2 p = some (.lst vs) → DpAll K G vs (((kvs.map (·.1)).filter f).map wd) → Q (.ref p) H2) :
    ∀ D, H1 D = none → ∃ W : Nat → Nat → Hp → Prop, (∃ m, W 0 m (upd H1 D (.lst []))) ∧ ∀ i m H, W i m H →
      ((Itx P w l ob es).stop i H ∧ Q (.ref D) H) ∨ ((Itx P w l ob es).go i H ∧ ∃ Nx : Hp → Prop, (∀ H', Nx H' → ∃ m', m' < m ∧ W (i + 1) m' H') ∧ ∀ x H', (Itx P w l ob es).yld i H x H' → g x (L2.wipe σ vs) H' fun σ2 H2 => L2.wipe σ2 vs = L2.wipe σ vs ∧ tt σ2 H2 fun b H3 => if b = true then te σ2 H3 fun y H4 => ∃ acc, H4 D = some (.lst acc) ∧ acc.length < sizeLine ∧ Nx (upd H4 D (.lst (acc ++ [y]))) else Nx H3) := by
  intro D hD
  have hlen := kv_len kv
  have nD : ∀ l, Ow (L2.wipe σ vs) (wipeE env vs) l → ¬ l = D := fun l z e => (st.owned (Ow.wipe z)).2 (by rw [e]; exact hD)
  have hkl : (kvs.map (·.1)).length = kvs.length := List.length_map _
  refine ⟨fun n m H' => m = kvs.length - n ∧ n ≤ kvs.length ∧ Mk K H H1 D ((((kvs.map (·.1)).take n).filter f).map wd) H', ⟨kvs.length, rfl, Nat.zero_le _, mk_start st.e hD⟩, ?_⟩
  rintro n m H' ⟨rfl, hn, G, ac, f1, hG, hac, da⟩
  have hd : H' l = some (.frz ob (.ext (DX P w l es))) := f1.r _ _ (f1.g _ _ hl)
  by_cases hlt : n < kvs.length
  · refine .inr ⟨⟨hd, by rw [hlen]; exact hlt⟩, fun H' => Mk K H H1 D ((((kvs.map (·.1)).take (n + 1)).filter f).map wd) H', fun Hx p => ⟨kvs.length - (n + 1), by omega, rfl, hlt, p⟩, fun x Hx y => ?_⟩
    obtain ⟨rfl, e, he, rfl⟩ := y
    have at' : ∀ {es : List Ent} {kvs : List Kv} (n : Nat) {e : Ent}, KvOk K G es kvs → es[n]? = some e → (kvs.map (·.1))[n]? = some e.1 ∧ KeyIn K G e.2.1 e.1 := by
      intro es kvs n e hk
      induction hk generalizing n with
      | nil => intro z; simp at z
      | cons ha _ _ _ ih =>
        intro z
        cases n with
        | zero => simp at z; subst z; exact ⟨rfl, ha⟩
        | succ n => simp at z; exact ih n z
    obtain ⟨ek, ki⟩ := at' n (kv.mono f1.g) he
    obtain ⟨env', tg, ht, hx⟩ := turn e.1 (List.mem_of_getElem? ek)
    refine tg _ G Hx (.ref e.2.1) ((st.wipe vs).monoW f1 nD) ki.1 _ fun σ' st' o hw => ⟨?_, ?_⟩
    · rw [hw]; exact wipe_wipe fun _ z => z
    · rw [filter_next ek]
      exact mk_turn f1 hG hac da (take_short (by rw [hkl]; exact hz)) st' ht hx
  · obtain rfl : n = kvs.length := by omega
    refine .inl ⟨⟨hd, by rw [hlen]; exact Nat.le_refl _⟩, ?_⟩
    rw [← hkl, List.take_length] at da
    have ff : Fr0 H H1 G H' := (Fr.refl (W := fun _ => False) st.e).trans f1 fun p z => .inr (by rw [z]; exact hD)
    exact q D ac G H' ff hD hG hac da
/-- [e for k in d if ..], d held as it is -/
theorem eo_lcX (h : env[i]? = some (.dcf P w kvs)) (f : NestedKey → Bool) (wd : NestedKey → PyData) {g : TG} {vs : List Nat} (hz : kvs.length < 100000) (turn : ∀ k ∈ kvs.map (·.1), ∃ env', Tgw K vs g (wipeE env vs) k.data env' ∧ EvT K tt env' (f k) ∧ (f k = true → Ev K te env' (wd k))) :
    EvO K (tLc (iX P w (tVar i)) g tt te vs) env (((kvs.map (·.1)).filter f).map wd) := fun σ H H1 st Q q => by
  obtain ⟨o, a, l, ob, es, rfl, hl, kv⟩ := st.get h
  exact ⟨_, a, l, es, rfl, .inr ⟨ob, st.e _ _ hl, lcX_core st hl kv f wd hz turn Q q⟩⟩
/-- gives a new list; the state is then told by env' -/
def EvZ (K : PySem.W.Frag) (te : TE) (env env' : List SV) (xs : List PyData) : Prop := ∀ σ H H1, Stt K H H1 σ env → ∀ Q : VK, (∀ p vs G H2, Fr (Ow σ env) H H1 G H2 → Stt K G H2 σ env' → (∀ l, Ow σ env' l → Ow σ env l) → H1 p = none → G p = none → H2 p = some (.lst vs) → DpAll K G vs xs → Q (.ref p) H2) → te σ H1 Q
/-- [e for k in d if ..], from then on d is held as it is -/
theorem ez_lcX (h : env[i]? = some (.dct P w kvs)) (f : NestedKey → Bool) (wd : NestedKey → PyData) {g : TG} {vs : List Nat} (hz : kvs.length < 100000) (turn : ∀ k ∈ kvs.map (·.1), ∃ env', Tgw K vs g (wipeE (env.set i (.dcf P w kvs)) vs) k.data env' ∧ EvT K tt env' (f k) ∧ (f k = true → Ev K te env' (wd k))) :
    EvZ K (tLc (iX P w (tVar i)) g tt te vs) env (env.set i (.dcf P w kvs)) (((kvs.map (·.1)).filter f).map wd) := fun σ H H1 st Q q => by
  obtain ⟨l, es, a, hl, kv, fz⟩ := st.freezeX h
  refine ⟨_, a, l, es, rfl, .inl ⟨hl, fun o => ?_⟩⟩
  obtain ⟨st2, f2, o2⟩ := fz o
  have hn : H l = none := (st.owned ⟨i, _, h, rfl, a⟩).1
  refine lcX_core st2 (ob := o) upd_same (kv.mono (newS hn)) f wd hz turn Q fun p vs G H2 f3 hp hg h2 dv => ?_
  exact q p vs G H2 (f2.tr0 f3) (st2.mono f3) o2 (f2.m _ hp) hg h2 dv
theorem ez_sort {α : Type} (en : α → PyData) {zs : List α} {env' : List SV} (ha : EvZ K ta env env' (zs.map en)) (al : ∀ a b, PySem.W.alike (en a) (en b) = true) (so : (∀ a, ∃ x r, en a = .tuple (x :: r)) ∨ ∀ a, en a ≠ .none ∧ ∀ ys, en a ≠ .tuple ys) (hl : zs.length ≤ 100000) (hd : ∀ a, (en a).depth ≤ 8) :
    EvZ K (tCB (rSortD K) (tCons ta tNil)) env env' ((zs.mergeSort (PySem.W.dataLe false en)).map en) := fun σ H H1 st Q q =>
  ha σ H H1 st _ fun p vs G H2 f st2 ow hp hg h2 dv => by
    have em : (zs.mergeSort (PySem.W.dataLe false en)).map en = (zs.map en).mergeSort (PySem.W.dataLe false id) := List.map_mergeSort (r := PySem.W.dataLe false en) (s := PySem.W.dataLe false id) (f := en) fun _ _ _ _ => rfl
    refine ⟨G, p, vs, zs.map en, rfl, f.r, .inl (.inl h2), dv, PySem.W.AllAlike.of al, ?_, by rw [List.length_map]; exact hl, fun d h => ?_, fun ys p2 dy hp2 => ?_⟩
    · rcases so with so | so
      · exact PySem.W.Sortable.tuples so
      · exact PySem.W.Sortable.others so
    · obtain ⟨b, _, rfl⟩ := List.mem_map.mp h; exact hd b
    · rw [← em] at dy
      have f3 : Fr0 G H2 G (upd H2 p2 (.lst ys)) := Fr.hid f.r hp2
      exact q p2 ys G _ (f.tr0 f3) (st2.mono f3) ow (f.m _ hp2) (f.r.free hp2) upd_same dy
theorem sx_setZ {env' : List SV} (h : EvZ K te env env' xs) : Sx K X (tAsg te (gName j)) env (.nx (env'.set j (.own xs))) := fun σ H H1 st D q =>
  h σ H H1 st _ fun p vs G H2 f st2 ow hp hg h2 dv => by
    refine q _ G H2 f (st2.setO ⟨p, vs, rfl, hg, h2, dv⟩ fun j' s b1 b2 _ z => ?_) fun l z => ?_
    · exact (st.owned (ow _ ⟨j', s, b1, b2, z⟩)).2 hp
    · rcases Ow.set z with z | ⟨_, z⟩
      · exact .inl (ow _ z)
      · cases z; exact .inr hp
end
end Pf

/-! min of two lists; d.get -/
namespace Pf
open PySem PySem.Spec PyProof.Rows L2
section
variable {prog : Program} {w : World}
variable {A : Around} {s : Shared}
variable {E : Value → Shared → Prop}
/-- the three turns of min(a, b) -/
theorem min_turns {a b : Value} {k : Bool} {S I : Addr} {fp wr : List Addr} {St : Nat → Heap → Prop} {h0 : Heap} {R : Result → Shared → Prop} (W : Walks prog w A.in1 I fp wr 2 (fun i v => #[a, b][i]? = some v) St) (hSf : S ∉ fp)
    (hold : ∀ c o, h0.get? c = some o → c ∉ wr ∧ c ≠ S)
    (hcmp : ∀ (s' : Shared) (Q' E' : Value → Shared → Prop), (∀ c o, h0.get? c = some o → s'.heap.get? c = some o) → Q' (.bool k) s' → wpAny (model prog w) A.in1 (richCompare .Lt b a) Q' E' s')
    {c0 : Nat} (st0 : St 0 s.heap) (hS : s.heap.get? S = some { cls := .type "list", dict := none, data := .seq #[] c0, slots := #[] }) (ho : ∀ c o, h0.get? c = some o → s.heap.get? c = some o)
    (hR : ∀ h' tk, (∀ c o, h0.get? c = some o → h'.get? c = some o) → R (.ok (.ret (if k then b else a))) { s with heap := h', toks := tk }) : codeAny (model prog w) A (.builtin "min.loop" ⟨[.ref I, .none, .ref S], []⟩) R s := by
  have nw : S ∉ wr := fun z => hSf (W.sub _ z)
  have nm : (toString "min" ++ toString ".loop" : String) = "min.loop" := by decide
  have last : ∀ (s : Shared) (v : Value) (c : Nat), St 2 s.heap → s.heap.get? S = some { cls := .type "list", dict := none, data := .seq #[v, v] c, slots := #[] } → (∀ h' tk, (∀ b o, b ∉ wr → b ≠ S → s.heap.get? b = some o → h'.get? b = some o) → R (.ok (.ret v)) { s with heap := h', toks := tk }) → codeAny (model prog w) A (.builtin "min.loop" ⟨[.ref I, .none, .ref S], []⟩) R s := by
    intro s v c st hS hR
    refine (codeAny_builtin F.entry_min_loop ?_)
    rw [(Around.under_plainId F.plain_min_loop _)]
    show wpAny (model prog w) A.in1 (seqItems? (.ref S) >>= _) _ _ s
    apply wpAny_bind
    refine wpAny_seqItems hS rfl ?_
    show wpAny (model prog w) A.in1 (tryCatch (pyNext (.ref I)) _ >>= _) _ _ s
    apply wpAny_bind
    refine wpAny_tryCatch (W.done s _ _ st fun h1 tk hk => ?_)
    have hS1 := (hk S _ nw hS)
    show wpAny (model prog w) A.in1 (updateSeq S (fun _ => #[]) >>= _) _ _ _
    apply wpAny_bind
    refine wpAny_updateSeq hS1 rfl (wpAny_bind (wpAny_letGo (wpAny_pure ?_)))
    exact hR _ tk fun d o n1 n2 e => (Heap.get?_update_other _ _ (Ne.symm n2)).trans (hk d o n1 e)
  refine (codeAny_builtin F.entry_min_loop ?_)
  rw [(Around.under_plainId F.plain_min_loop _)]
  show wpAny (model prog w) A.in1 (seqItems? (.ref S) >>= _) _ _ s
  apply wpAny_bind
  refine wpAny_seqItems hS rfl ?_
  show wpAny (model prog w) A.in1 (tryCatch (pyNext (.ref I)) _ >>= _) _ _ s
  apply wpAny_bind
  refine wpAny_tryCatch (W.item 0 s _ _ (by decide) st0 fun v h1 tk1 hv st1 hk1 => ?_)
  have ev : a = v := by simpa using hv
  subst ev
  have hS1 := (hk1 S _ nw hS)
  show wpAny (model prog w) A.in1 (updateSeq S (fun _ => #[a, a]) >>= _) _ _ _
  apply wpAny_bind
  refine wpAny_updateSeq hS1 rfl ?_
  rw [nm]
  apply wpAny_pure
  refine ⟨plainId_quiet F.plain_min_loop _, ?_⟩
  have st1' : St 1 (h1.update S (Obj.mapSeq fun _ => #[a, a])) := W.frame _ _ _ st1 fun d hd o e => (Heap.get?_update_other _ _ (fun z : S = d => hSf (by rw [z]; exact hd))).trans e
  have hS2 : (h1.update S (Obj.mapSeq fun _ => #[a, a])).get? S = some _ := Heap.get?_update_self _ hS1 rfl
  have ho1 : ∀ c o, h0.get? c = some o → (h1.update S (Obj.mapSeq fun _ => #[a, a])).get? c = some o := fun c o e => (Heap.get?_update_other _ _ (Ne.symm (hold c o e).2)).trans (hk1 c o (hold c o e).1 (ho c o e))
  generalize h1.update S (Obj.mapSeq fun _ => #[a, a]) = h2 at st1' hS2 ho1
  refine (codeAny_builtin F.entry_min_loop ?_)
  rw [(Around.under_plainId F.plain_min_loop _)]
  show wpAny (model prog w) A.in1 (seqItems? (.ref S) >>= _) _ _ _
  apply wpAny_bind
  refine wpAny_seqItems hS2 rfl ?_
  show wpAny (model prog w) A.in1 (tryCatch (pyNext (.ref I)) _ >>= _) _ _ _
  apply wpAny_bind
  refine wpAny_tryCatch (W.item 1 _ _ _ (by decide) st1' fun v h3 tk3 hv st2 hk3 => ?_)
  have ev : b = v := by simpa using hv
  subst ev
  have hS3 := (hk3 S _ nw hS2)
  have ho3 : ∀ c o, h0.get? c = some o → h3.get? c = some o := fun c o e => hk3 c o (hold c o e).1 (ho1 c o e)
  show wpAny (model prog w) A.in1 (tryCatch (holding [b, b] (richCompare .Lt b a >>= _)) _ >>= _) _ _ _
  apply wpAny_bind
  refine wpAny_tryCatch (wpAny_holding (wpAny_bind (hcmp _ _ _ ho3 ?_)))
  apply wpAny_bind
  refine wpAny_holding (wpAny_truthy_bool ?_)
  apply wpAny_bind
  refine wpAny_letGo (wpAny_pure ?_)
  cases k with
  | true =>
    simp only [if_true]
    apply wpAny_bind
    apply wpAny_updateSeq hS3 rfl
    apply wpAny_bind
    refine wpAny_letGo ?_
    rw [nm]
    refine wpAny_pure ⟨plainId_quiet F.plain_min_loop _, last _ b _ (W.frame _ _ _ st2 fun d hd o e => (Heap.get?_update_other _ _ (fun z : S = d => hSf (by rw [z]; exact hd))).trans e) (Heap.get?_update_self _ hS3 rfl) fun h' tk hk => ?_⟩
    exact hR h' tk fun c o e => hk c o (hold c o e).1 (hold c o e).2 ((Heap.get?_update_other _ _ (Ne.symm (hold c o e).2)).trans (ho3 c o e))
  | false =>
    simp only [if_false, Bool.false_eq_true]
    apply wpAny_bind
    refine wpAny_letGo ?_
    rw [nm]
    refine wpAny_pure ⟨plainId_quiet F.plain_min_loop _, last _ a _ st2 hS3 fun h' tk hk => ?_⟩
    exact hR h' tk fun c o e => hk c o (hold c o e).1 (hold c o e).2 (ho3 c o e)
theorem min_pair {a b : Value} {k : Bool} {Q : Value → Shared → Prop} (hh : A.handled = none)
    (hcmp : ∀ (s' : Shared) (Q' E' : Value → Shared → Prop), (∀ c o, s.heap.get? c = some o → s'.heap.get? c = some o) → Q' (.bool k) s' → wpAny (model prog w) A.in1 (richCompare .Lt b a) Q' E' s')
    (h : ∀ h' tk, (∀ c o, s.heap.get? c = some o → h'.get? c = some o) → Q (if k then b else a) { s with heap := h', toks := tk }) : wpAny (model prog w) A (call (.builtin "min") [a, b]) Q E s := by
  have nm : (toString "min" ++ toString ".loop" : String) = "min.loop" := by decide
  have ht : (s.heap.push { cls := .type "tuple", data := .seq #[a, b] }).IsTuple s.heap.objs.size #[a, b] := ⟨_, Heap.get?_push_size _ rfl, rfl, 0, rfl⟩
  have zs : (s.heap.push { cls := .type "tuple", data := .seq #[a, b] }).objs.size = s.heap.objs.size + 1 := Heap.size_push ..
  have W := Walks.tuple (prog := prog) (w := w) (A := A.in1) hh (s.heap.push { cls := .type "tuple", data := .seq #[a, b] }).objs.size s.heap.objs.size (by rw [zs]; exact Nat.ne_of_lt (Nat.lt_succ_self _)) #[a, b]
  generalize eI : (s.heap.push { cls := .type "tuple", data := .seq #[a, b] }).objs.size = I at W
  have hI0 : I = s.heap.objs.size + 1 := by rw [← eI, zs]
  have fresh : ∀ c o, s.heap.get? c = some o → c ≠ I ∧ c ≠ I + 1 := fun c o e => by
    have z : c < s.heap.objs.size := Heap.lt_size e
    rw [hI0]
    exact ⟨Nat.ne_of_lt (Nat.lt_succ_of_lt z), Nat.ne_of_lt (Nat.lt_succ_of_lt (Nat.lt_succ_of_lt z))⟩
  refine call_function_tree F.kind_min F.plain_min F.entry_min (F.args_min2 a b) (wpAny_bind (wpAny_of_eq (show Builtin.Builtins.bindParams "min" ["key", "default"] 0 ⟨[], []⟩ = pure [none, none] from rfl) ?_))
  show wpAny _ _ (newTuple [a, b] >>= _) _ _ s
  apply wpAny_bind
  refine wpAny_newObj_type ?_
  apply wpAny_bind
  refine wpAny_pyIter_tuple ht ?_
  rw [eI]
  apply wpAny_bind
  refine wpAny_newObj_type ?_
  rw [nm]
  apply wpAny_pure
  refine ⟨plainId_quiet F.plain_min_loop _, ?_⟩
  have z2 : ((s.heap.push { cls := .type "tuple", data := .seq #[a, b] }).push { cls := .type "tuple_iterator", data := .fields #[.ref s.heap.objs.size, .int 0 0] }).objs.size = I + 1 := by rw [Heap.size_push, eI]
  have hI : ((s.heap.push { cls := .type "tuple", data := .seq #[a, b] }).push { cls := .type "tuple_iterator", data := .fields #[.ref s.heap.objs.size, .int 0 0] }).get? I = some { cls := .type "tuple_iterator", data := .fields #[.ref s.heap.objs.size, .int 0 0] } := by rw [← eI]; exact Heap.get?_push_size _ rfl
  refine min_turns (h0 := s.heap) (k := k) W (fun z => ?_) (fun c o e => ⟨fun z => ?_, fun z => ?_⟩) hcmp ⟨?_, ?_⟩ (Heap.get?_push_size _ rfl) (fun c o e => Heap.get?_push_of_some _ (Heap.get?_push_of_some _ (Heap.get?_push_of_some _ e))) fun h' tk hk => h h' tk hk
  · have z' : (I + 1 : Nat) ∈ [I, s.heap.objs.size] := by rw [← z2]; exact z
    rcases List.mem_cons.mp z' with y | y
    · exact Nat.succ_ne_self I y
    · have := List.mem_singleton.mp y
      rw [hI0] at this; omega
  · exact (fresh c o e).1 (List.mem_singleton.mp z)
  · exact (fresh c o e).2 (z.trans z2)
  · exact ⟨_, Heap.get?_push_of_some _ hI, rfl, rfl⟩
  · exact (ht.push _).push _
/-- min(a, b), two lists of whole numbers -/
def rMin2L (K : PySem.W.Frag) : List V → Hp → VK → Prop := fun vs H Q => ∃ (x y : V) (d e : PyData), vs = [x, y] ∧ Dp K H x d ∧ Dp K H y e ∧ PySem.W.alike e d = true ∧ e ≠ .none ∧ e.depth ≤ 8 ∧ Q (if PySem.W.dataLt e d then y else x) H
theorem cr_min2L {X : Cx} (hc : X.calm = true) (hu : X.A.units + 65 < cLine) : CallR X (.builtin "min") (rMin2L X.K) := by
  intro pins s σ H vs us Q I r h
  obtain ⟨x, y, d, e, rfl, hx, hy, al, hn, hz, q⟩ := h
  obtain ⟨u, v, rfl, r1, r2⟩ := L2.vals2 r
  obtain ⟨as, w1⟩ := Dp.reads I d x u hx r1
  obtain ⟨bs, w2⟩ := Dp.reads I e y v hy r2
  refine min_pair (k := PySem.W.dataLt e d) (I.ok.hd hc) (fun s' Q' E' hk q' => ?_) fun h' tk hk => ⟨_, H, I.kept hk, ?_, q⟩
  · exact PySem.W.rcLt_alike e d _ s' v u bs as (PyProof.Rows.Reads.keeps hk w2) (PyProof.Rows.Reads.keeps hk w1) al hn (by show X.A.units + 1 + _ < cLine; omega) _ _ _ _ q'
  · cases PySem.W.dataLt e d with
    | true => exact r2
    | false => exact r1
end
section
variable {X : Cx}
/-- d.get(k, x) -/
theorem pe_getX {o k x : Expr} {to tk tx : TE} {apos cpos : Pos} (hr : X.A.units + 65 < cLine) (ho : PE X o to) (ha : PA X [k, x] (tCons tk (tCons tx tNil)))
    (hb : attributeBase o "get" X.env (eval o X.env) = eval o X.env := by rfl)
    (hf : ((backTo cpos (starEach [k, x] X.env)).all (fun x => !x.1) && (backToKw cpos (keywordEach [] X.env)).all (fun x => x.1.isSome) && decide (([k, x] : List Expr).length + ([] : List Keyword).length + (if ([] : List Keyword).isEmpty then 0 else 1) < 30)) = true := by rfl)
    (hl : (apos.endLine == cpos.line) = true := by rfl) (hs : starEach [k, x] X.env = (false, eval k X.env) :: starEach [x] X.env := by rfl) (hp : (backTo cpos (starEach [x] X.env)).any (·.1) = false := by rfl) :
    PE X (.Call (.Attribute o "get" apos) [k, x] [] cpos) (tGetX X.prog X.w X.K to tk tx) := ⟨fun pins s σ H Q I h => by
  refine wpAny_Call_method_late hb hf hl rfl (thn (ho.run pins s σ H _ I h) fun v s1 ⟨x1, H1, I1, r1, ⟨D, xs, e1, hD, hx1⟩, q1⟩ => ?_)
  subst e1
  have r1' : v = .ref D := r1
  subst r1'
  obtain ⟨e0, dd⟩ := hD.of I1 hx1
  have dk : Heap.DictKeyed (nestedKind X.prog X.w) s1.heap D (pairsH xs) := ⟨xs, dd, rfl⟩
  refine ⟨"dict", "dict.get", F.plainAttrs_dict, F.slot_dict_get, F.type_dict_get, dk.typeIs, fun a e => ?_, ?_⟩
  · cases e
    obtain ⟨o', es, ep, g1, g2, _⟩ := dd
    exact ⟨o', g1, g2.2.1⟩
  · have hA := ha.run cpos pins s1 σ H1 (fun vs H2 => rGetX X.prog X.w X.K (.ref D) vs H2 Q) I1 q1
    rw [hs] at hA ⊢
    refine Calls.callWith_builtin (by show (false || (backTo cpos (starEach [x] X.env)).any (·.1)) = false; rw [hp] <;> rfl) (Calls.evalArgs_plain ?_)
    exact thn hA fun us s2 ⟨vs, H2, I2, r2, q2⟩ => mt_getX hr pins s2 σ H2 (.ref D) vs (.ref D) us Q I2 rfl r2 q2⟩
end
section
variable {K : PySem.W.Frag} {env : List SV} {ta tb te : TE}
theorem ek_min2 {xs ys : List Int} (ha : EvKn K ta env (xs.map .int)) (hb : EvKn K tb env (ys.map .int)) : EvKn K (tCB (rMin2L K) (tCons ta (tCons tb tNil))) env ((if ys < xs then ys else xs).map .int) := fun σ H H1 st Q q =>
  ha σ H H1 st _ fun p vs G H2 f g dv => hb σ G H2 (st.mono f) _ fun p2 vs2 G2 H3 f2 g2 dv2 => by
    have e : PySem.W.dataLt (.list (ys.map .int)) (.list (xs.map .int)) = decide (ys < xs) := by
      rw [PySem.W.dataLt_list]; exact PySem.W.dataLt_ints ys xs
    have g3 := f2.g _ _ g
    refine ⟨.ref p, .ref p2, _, _, rfl, dm f2.r (dp_list g3 (dms f2.g dv)), dm f2.r (dp_list g2 dv2), by rw [PySem.W.alike]; exact PySem.W.alike_ints _ _, (fun z => nomatch z), ?_, ?_⟩
    · rw [PyData.depth, PySem.W.depth_ints]; decide
    · rw [e]
      by_cases c : ys < xs
      · rw [decide_eq_true c, if_pos c] at *
        exact q p2 vs2 G2 H3 (f.tr0 f2) g2 dv2
      · rw [decide_eq_false c, if_neg c] at *
        exact q p vs G2 H3 (f.tr0 f2) g3 (dms f2.g dv)
end
end Pf

/-! a def that gives a list of its own within a tuple; lists that are forgotten -/
namespace Pf
open PySem PySem.Spec PyProof.Rows L2
/-- what is known, but for lists that begin with a whole number -/
def noI (H : Hp) : Hp := fun p => match H p with
  | some (.lst (.int _ :: _)) => none
  | x => x
theorem noI_same (H : Hp) : Same (noI H) H := fun p o e => by
  unfold noI at e
  split at e
  · cases e
  · exact e
theorem noI_keep {H : Hp} {p : Addr} {o : HO} (e : H p = some o) (n : ∀ i t, o ≠ .lst (.int i :: t)) : noI H p = some o := by
  unfold noI
  split
  · rename_i i t h; rw [e] at h; exact absurd (Option.some.inj h) (n _ _)
  · exact e
theorem noI_int {H : Hp} {p : Addr} {i : Int} {t : List V} (e : H p = some (.lst (.int i :: t))) : noI H p = none := by
  unfold noI; rw [e]
def headI : List PyData → Bool
  | .int _ :: _ => true
  | _ => false
mutual
/-- no list within begins with a whole number -/
def clean : PyData → Bool
  | .list ds => !headI ds && cleans ds
  | .tuple ds => cleans ds
  | _ => true
def cleans : List PyData → Bool
  | [] => true
  | d :: r => clean d && cleans r
end
section
variable {K : PySem.W.Frag} {H : Hp}
theorem noI_sqt {a : Addr} {vs : List V} (h : SqT K H a vs) : SqT K (noI H) a vs := by
  rcases h with (h | ⟨o, h⟩) | h
  · exact .inl (.inl (noI_keep h fun _ _ z => nomatch z))
  · exact .inl (.inr ⟨o, noI_keep h fun _ _ z => nomatch z⟩)
  · exact .inr h
theorem noI_sql {a : Addr} {vs : List V} (hv : ∀ i t, vs ≠ .int i :: t) (h : SqL K H a vs) : SqL K (noI H) a vs := by
  rcases h with (h | ⟨o, h⟩) | h
  · exact .inl (.inl (noI_keep h fun i t z => hv i t (by injection z)))
  · exact .inl (.inr ⟨o, noI_keep h fun _ _ z => nomatch z⟩)
  · exact .inr h
theorem head_no {vs : List V} {ds : List PyData} (h : DpAll K H vs ds) (c : headI ds = false) : ∀ i t, vs ≠ .int i :: t := fun i t e => by
  subst e
  cases h with
  | cons a b => cases a; cases c
mutual
theorem dp_clean : ∀ {v : V} {d : PyData}, Dp K H v d → clean d = true → Dp K (noI H) v d
  | _, _, .non, _ => .non
  | _, _, .bl b, _ => .bl b
  | _, _, .int i, _ => .int i
  | _, _, .str x, _ => .str x
  | _, _, .lst a b, c => by
    rw [clean, Bool.and_eq_true, Bool.not_eq_true'] at c
    exact .lst (noI_sql (head_no b c.1) a) (dpa_clean b c.2)
  | _, _, .tup a b, c => by
    rw [clean] at c
    exact .tup (noI_sqt a) (dpa_clean b c)
theorem dpa_clean : ∀ {vs : List V} {ds : List PyData}, DpAll K H vs ds → cleans ds = true → DpAll K (noI H) vs ds
  | _, _, .nil, _ => .nil
  | _, _, .cons a b, c => by
    rw [cleans, Bool.and_eq_true] at c
    exact .cons (dp_clean a c.1) (dpa_clean b c.2)
end
/-- a list of whole numbers that is known behind a start without such ones is new -/
theorem new_list {H0 H1 G H2 : Hp} {W : Addr → Prop} (f : Fr W (noI H0) H1 G H2) (hw : ∀ p, ¬ W p) {p : Addr} {i : Int} {t : List V} (g : G p = some (.lst (.int i :: t))) : H1 p = none := by
  have h0 : noI H0 p = none := by
    cases e : noI H0 p with
    | none => rfl
    | some o =>
      have e2 := f.g _ _ e
      rw [g] at e2
      obtain rfl := Option.some.inj e2
      have e3 := noI_same H0 _ _ e
      rw [noI_int e3] at e; cases e
  cases e : H1 p with
  | none => rfl
  | some o =>
    have := f.n p (hw p) h0 (by rw [e]; exact fun z => nomatch z)
    rw [g] at this; cases this
end
section
variable {K : PySem.W.Frag} {X : WX} {env env' : List SV} {ta tb te : TE} {xs rs ds : List PyData} {d : PyData} {oc : Oc} {aa : TA} {u : TS} {i : Nat} {H H1 : Hp} {σ : L2.St} {k : Str}
theorem sx_retK (h : EvKn K te env xs) : Sx K X (tRet te) env (.rk xs) := fun σ H H1 st D q =>
  h σ H H1 st _ fun p vs G H2 f g dv => q p vs G H2 (f.mono fun _ z => z.elim) g dv
/-- return (text, a new list) -/
theorem sx_retG {s : Str} (h : EvO K te env xs) : Sx K X (tRet (tTup (tCons (tC (.str s)) (tCons te tNil)))) env (.rg s xs []) := fun σ H H1 st D q =>
  h σ H H1 st _ fun p vs G H2 f hp hg h2 dv => ⟨sz_ok (Nat.le_of_ble_eq_true rfl), fun t ht => by
    have nt : p ≠ t := fun z => by rw [z, ht] at h2; cases h2
    have f2 : Fr0 G H2 (upd G t (.tup [.str s, .ref p])) (upd H2 t (.tup [.str s, .ref p])) := Fr.new f.r ht
    exact q t p vs [] _ _ ((f.tr0 f2).mono fun _ z => z.elim) (.inl (.inl upd_same)) .nil (.inr hp) (by rw [upd_ne nt]; exact hg) (by rw [upd_ne nt]; exact h2) (dms f2.g dv)⟩
/-- return (text, one's own list, data) -/
theorem sx_retG3 {s : Str} (h : env[i]? = some (.own xs)) (he : Ev K te env d) : Sx K X (tRet (tTup (tCons (tC (.str s)) (tCons (tVar i) (tCons te tNil))))) env (.rg s xs [d]) := fun σ H H1 st D q => by
  obtain ⟨l, vs, a, b, c, dv⟩ := st.own h
  refine ⟨_, a, he σ H H1 st _ fun v G H2 f dd => ⟨sz_ok (Nat.le_of_ble_eq_true rfl), fun t ht => ?_⟩⟩
  obtain ⟨l', vs', a', b', c', dv'⟩ := (st.mono f).own h
  rw [a] at a'; cases a'
  have nt : l ≠ t := fun z => by rw [z, ht] at c'; cases c'
  have f2 : Fr0 G H2 (upd G t (.tup [.str s, .ref l, v])) (upd H2 t (.tup [.str s, .ref l, v])) := Fr.new f.r ht
  exact q t l vs' [v] _ _ ((f.tr0 f2).mono fun _ z => z.elim) (.inl (.inl upd_same)) (.cons (dm f2.g dd) .nil) (.inl ⟨i, _, h, rfl, a⟩) (by rw [upd_ne nt]; exact b') (by rw [upd_ne nt]; exact c') (dms f2.g dv')
/-- a def that gives such a tuple, or raises -/
def spGd (K : PySem.W.Frag) (R : List PyData → Str × List PyData × List PyData → Prop) (B : List PyData → Value → Prop) : Sp := fun vs H1 Q E => ∃ H ds, Same H H1 ∧ DpAll K H vs ds ∧
  ((∃ o, R ds o ∧ ∀ t l ws us G H2, Fr0 H H1 G H2 → SqT K G t (.str o.1 :: .ref l :: us) → DpAll K G us o.2.2 → H1 l = none → G l = none → H2 l = some (.lst ws) → DpAll K G ws o.2.1 → Q (.ref t) H2) ∨ ∃ c, B ds c ∧ ∀ G H2, Fr0 H H1 G H2 → E c none H2)
variable {R : List PyData → Str × List PyData × List PyData → Prop} {B : List PyData → Value → Prop} {E : L2.St → XK} {c : Value}
theorem known_new {G H2 : Hp} {l : Addr} {ws : List V} (ff : Fr0 H H1 G H2) (hn : H1 l = none) (hg : G l = none) (h2 : H2 l = some (.lst ws)) : Fr0 H H1 (upd G l (.lst ws)) H2 := ⟨ff.g.trans (newS hg), fun p o z => by
    by_cases e : p = l
    · subst e; rw [upd_same] at z; rw [← z]; exact h2
    · rw [upd_ne e] at z; exact ff.r _ _ z, ff.s, fun p w z1 z2 => by
    by_cases e : p = l
    · subst e; exact absurd hn z2
    · rw [upd_ne e]; exact ff.n p w z1 z2, ff.m⟩
theorem sx_setGd (ha : EvA K aa env ds) (hr : R ds (k, xs, rs)) : Sx K X (tAsg (tCallS (spGd K R B) E aa) (gName i)) env (.nx (env.set i (.kpg k xs rs))) := fun σ H H1 st D q =>
  ha σ H H1 st _ fun vs G H2 f dv => ⟨G, ds, f.r, dv, .inl ⟨(k, xs, rs), hr, fun t l ws us G3 H3 f3 ht hu h1 hg h2 hd => by
    have ff := known_new (f.tr0 f3) (f.m _ h1) hg h2
    refine q _ _ _ (ff.mono fun _ z => z.elim) ((st.mono ff).setV (s₀ := .kpg k xs rs) rfl ⟨t, l, ws, us, rfl, sqt (newS hg) ht, upd_same, dms (newS hg) hd, dms (newS hg) hu⟩) fun p z => ?_
    rcases Ow.set z with z | ⟨z, _⟩
    · exact .inl z
    · cases z⟩⟩
/-- as data -/
theorem ev_callGd (ha : EvA K aa env ds) (hr : R ds (k, xs, rs)) : Ev K (tCallS (spGd K R B) E aa) env (.tuple (.str k :: .list xs :: rs)) := fun σ H H1 st Q q =>
  ha σ H H1 st _ fun vs G H2 f dv => ⟨G, ds, f.r, dv, .inl ⟨(k, xs, rs), hr, fun t l ws us G3 H3 f3 ht hu h1 hg h2 hd => by
    have ff := known_new (f.tr0 f3) (f.m _ h1) hg h2
    exact q _ _ _ ff (.tup (sqt (newS hg) ht) (.cons (.str k) (.cons (dp_list upd_same (dms (newS hg) hd)) (dms (newS hg) hu))))⟩⟩
theorem evx_callGd (ha : EvA K aa env ds) (hb : B ds c) : EvX K X (tCallS (spGd K R B) (WE X) aa) env c := fun σ H H1 st Q q =>
  ha σ H H1 st _ fun vs G H2 f dv => ⟨G, ds, f.r, dv, .inr ⟨c, hb, fun G3 H3 f3 => q G3 H3 (f.tr0 f3)⟩⟩
theorem ev_kpg (h : env[i]? = some (.kpg k xs rs)) : Ev K (tVar i) env (.tuple (.str k :: .list xs :: rs)) := fun σ H H1 st Q q => by
  obtain ⟨o, a, t, l, vs, us, rfl, e1, e2, e3, e4⟩ := st.get h
  exact ⟨_, a, q _ H H1 (Fr.refl st.e) (.tup e1 (.cons (.str k) (.cons (dp_list e2 e3) e4)))⟩
theorem atI_one {α : Type} {x y : α} {t : List α} : atI (x :: y :: t) (1 : Int) = some y := by
  unfold atI ixN
  rw [if_pos (by decide), if_pos (by rw [List.length_cons, List.length_cons]; omega)]; rfl
/-- the list within, as it is -/
theorem ek_kpg (h : env[i]? = some (.kpg k xs rs)) : EvKn K (tOp (rIxT K) (tVar i) (tC (.int 1))) env xs := fun σ H H1 st Q q => by
  obtain ⟨o, a, t, l, vs, us, rfl, e1, e2, e3, e4⟩ := st.get h
  exact ⟨_, a, t, _, 1, _, rfl, rfl, sqt st.e e1, atI_one, q l vs H H1 (Fr.refl st.e) e2 e3⟩
/-- what stays when lists of whole numbers are forgotten -/
inductive Keeps : List SV → List SV → Prop where
  | nil : Keeps [] []
  | no {s : SV} {a b : List SV} : Keeps a b → Keeps (s :: a) (.no :: b)
  | dat {d : PyData} {a b : List SV} : clean d = true → Keeps a b → Keeps (.dat d :: a) (.dat d :: b)
  | own {xs : List PyData} {a b : List SV} : cleans xs = true → Keeps a b → Keeps (.own xs :: a) (.own xs :: b)
theorem Keeps.len : ∀ {a b : List SV}, Keeps a b → b.length = a.length
  | _, _, .nil => rfl
  | _, _, .no h => congrArg Nat.succ h.len
  | _, _, .dat _ h => congrArg Nat.succ h.len
  | _, _, .own _ h => congrArg Nat.succ h.len
theorem Keeps.at : ∀ {a b : List SV}, Keeps a b → ∀ (i : Nat) s, b[i]? = some s → s = .no ∨ (a[i]? = some s ∧ ((∃ d, s = .dat d ∧ clean d = true) ∨ ∃ xs, s = .own xs ∧ cleans xs = true))
  | _, _, .nil, i, s, e => by simp at e
  | _, _, .no h, 0, s, e => by simp at e; exact .inl e.symm
  | _, _, .no h, i + 1, s, e => h.at i s (by simpa using e)
  | _, _, .dat c h, 0, s, e => by simp at e; subst e; exact .inr ⟨rfl, .inl ⟨_, rfl, c⟩⟩
  | _, _, .dat c h, i + 1, s, e => h.at i s (by simpa using e)
  | _, _, .own c h, 0, s, e => by simp at e; subst e; exact .inr ⟨rfl, .inr ⟨_, rfl, c⟩⟩
  | _, _, .own c h, i + 1, s, e => h.at i s (by simpa using e)
/-- t[1].clear(), the end gives True whatever stands -/
theorem sx_clearG {j : Int} {ys : List PyData} (h : env[i]? = some (.kpg k (.int j :: ys) rs)) (kp : Keeps env env') (hu : Sx K X u env' .rb) : Sx K X (tSeq (tDrop (tBM0 K "list" rClear (tOp (rIxT K) (tVar i) (tC (.int 1))))) u) env .rb := fun σ H H1 st D q => by
  obtain ⟨o, a, t, l, vs, us, rfl, e1, e2, e3, e4⟩ := st.get h
  obtain ⟨vs', rfl⟩ : ∃ vs', vs = .int j :: vs' := by
    cases e3 with
    | cons a b => cases a; exact ⟨_, rfl⟩
  have h1 := st.e _ _ e2
  refine ⟨_, a, t, _, 1, _, rfl, rfl, sqt st.e e1, atI_one, .inl ⟨rfl, _, .inl (.inl h1)⟩, l, _, rfl, rfl, h1, ?_⟩
  have hl : noI H l = none := noI_int e2
  have nl : ∀ p o, noI H p = some o → p ≠ l := fun p o z y => by rw [y, hl] at z; cases z
  refine hu σ (noI H) (upd H1 l (.lst [])) ⟨fun p o z => ?_, by rw [kp.len]; exact st.l, fun n x s ex es => ?_, fun n m s s' p nm b1 b2 o1 o2 a1 => ?_⟩ D q
  · rw [upd_ne (nl p o z)]; exact st.e _ _ (noI_same H _ _ z)
  · rcases kp.at n s es with rfl | ⟨e, ⟨d, rfl, cd⟩ | ⟨zs, rfl, cz⟩⟩
    · trivial
    · obtain ⟨v, x1, x2⟩ := st.ok n x _ ex e
      exact ⟨v, x1, dp_clean x2 cd⟩
    · obtain ⟨l2, ws, x1, x2, x3, x4⟩ := st.ok n x _ ex e
      have n2 : l2 ≠ l := fun z => by rw [z, e2] at x2; cases x2
      refine ⟨l2, ws, x1, ?_, by rw [upd_ne n2]; exact x3, dpa_clean x4 cz⟩
      cases y : noI H l2 with
      | none => rfl
      | some o => have := noI_same H _ _ y; rw [x2] at this; cases this
  · have up : ∀ (n : Nat) (s : SV), env'[n]? = some s → s.isOwn = true → env[n]? = some s := fun n s e os => by
      rcases kp.at n s e with rfl | ⟨e, _⟩
      · cases os
      · exact e
    exact st.ne n m s s' p nm (up n s b1 o1) (up m s' b2 o2) o1 o2 a1
theorem sx_retB (h : Ev K te env (.bool true)) : Sx K X (tRet te) env .rb := fun σ H H1 st D q =>
  h σ H H1 st _ fun v G H2 f dv => by cases dv; exact q H2
theorem sx_less_rb {env1 : List SV} (l : Less env1 env) (h : Sx K X u env1 .rb) : Sx K X u env .rb := sx_lessL l h
end
end Pf

namespace Pf
open PySem PySem.Spec PyProof.Rows L2
section
variable {K : PySem.W.Frag} {X : WX} {env : List SV} {ta tb te : TE} {tt : TT} {xs : List PyData}
theorem sx_augI {i : Nat} {a b : Int} (h : env[i]? = some (.dat (.int a))) (he : Ev K te env (.int b)) : Sx K X (tAug i te (ipI fun i j => i + j)) env (.nx (env.set i (.dat (.int (a + b))))) := fun σ H H1 st D q => by
  obtain ⟨v, e1, e2⟩ := st.dat h
  cases e2
  refine ⟨_, e1, he σ H H1 st _ fun v G H2 f dv => ?_⟩
  cases dv
  refine ⟨a, b, rfl, rfl, q _ G H2 (f.mono fun _ z => z.elim) ((st.mono f).setD (.int _)) fun l z => ?_⟩
  rcases Ow.set z with z | ⟨z, _⟩
  · exact .inl z
  · cases z
/-- all but what stands at l -/
def rem (H : Hp) (l : Addr) : Hp := fun p => if p = l then none else H p
theorem rem_ne {H : Hp} {l p : Addr} (h : p ≠ l) : rem H l p = H p := if_neg h
mutual
def nolist : PyData → Bool
  | .list _ => false
  | .tuple ds => nolists ds
  | _ => true
def nolists : List PyData → Bool
  | [] => true
  | d :: r => nolist d && nolists r
end
mutual
theorem dp_rem {G : Hp} {l : Addr} {ws : List V} (g : G l = some (.lst ws)) : ∀ {v : V} {d : PyData}, Dp K G v d → nolist d = true → Dp K (rem G l) v d
  | _, _, .non, _ => .non
  | _, _, .bl b, _ => .bl b
  | _, _, .int i, _ => .int i
  | _, _, .str x, _ => .str x
  | _, _, .lst a b, c => by rw [nolist] at c; cases c
  | _, _, .tup (a := a) h b, c => by
    rw [nolist] at c
    refine .tup ?_ (dpa_rem g b c)
    rcases h with (h | ⟨o, h⟩) | h
    · exact .inl (.inl (by rw [rem_ne (fun z => by rw [z, g] at h; cases h)]; exact h))
    · exact .inl (.inr ⟨o, by rw [rem_ne (fun z => by rw [z, g] at h; cases h)]; exact h⟩)
    · exact .inr h
theorem dpa_rem {G : Hp} {l : Addr} {ws : List V} (g : G l = some (.lst ws)) : ∀ {vs : List V} {ds : List PyData}, DpAll K G vs ds → nolists ds = true → DpAll K (rem G l) vs ds
  | _, _, .nil, _ => .nil
  | _, _, .cons a b, c => by
    rw [nolists, Bool.and_eq_true] at c
    exact .cons (dp_rem g a c.1) (dpa_rem g b c.2)
end
/-- within an expression whose answer holds no list, one's own list may be read as data -/
theorem ev_fixT {d : PyData} (i : Nat) (h : env[i]? = some (.own xs)) (nl : nolist d = true) (k : Ev K te (env.set i (.dat (.list xs))) d) : Ev K te env d := fun σ H H1 st Q q => by
  obtain ⟨l, vs, a, b, c, st'⟩ := st.freeze h
  refine k σ _ H1 st' Q fun v G H2 f dv => ?_
  have g : G l = some (.lst vs) := f.g _ _ upd_same
  refine q v (rem G l) H2 ⟨fun p o z => ?_, fun p o z => ?_, f.s, fun p w z1 z2 => ?_, f.m⟩ (dp_rem g dv nl)
  · have n : p ≠ l := fun y => by rw [y, b] at z; cases z
    rw [rem_ne n]; exact f.g _ _ (by rw [upd_ne n]; exact z)
  · by_cases n : p = l
    · subst n; unfold rem at z; rw [if_pos rfl] at z; cases z
    · rw [rem_ne n] at z; exact f.r _ _ z
  · by_cases n : p = l
    · subst n; unfold rem; rw [if_pos rfl]
    · rw [rem_ne n]; exact f.n p w (by rw [upd_ne n]; exact z1) z2
theorem eo_if {b : Bool} (h : EvT K tt env b) (h1 : b = true → EvO K ta env xs) (h2 : b = false → EvO K tb env xs) : EvO K (tIf tt ta tb) env xs := fun σ H H1 st Q q =>
  h σ H H1 st _ fun G H2 f => by
    cases b with
    | true => exact h1 rfl σ G H2 (st.mono f) Q fun p vs G3 H3 f3 a1 a2 a3 a4 => q p vs G3 H3 (f.tr0 f3) (f.m _ a1) a2 a3 a4
    | false => exact h2 rfl σ G H2 (st.mono f) Q fun p vs G3 H3 f3 a1 a2 a3 a4 => q p vs G3 H3 (f.tr0 f3) (f.m _ a1) a2 a3 a4
end
section
variable {K : PySem.W.Frag} {X : WX} {env : List SV} {t u : TS} {oc : Oc} {te : TE} {xs : List PyData} {i j : Nat}
/-- for over range(n), a turn may end the whole -/
theorem sx_forR1E {n : Nat} {aa : TA} {g : TG} {k : Int} (h : EvA K aa env [.int k]) (hk : -100000 ≤ k ∧ k ≤ 100000) (hn : k.toNat = n) (Inv : Nat → List SV) (h0 : Inv 0 = env) (o : Nat → Bool) (ex : Oc) (hx : ex.isNx = false) (hb : ∀ e, ex ≠ .bk e) (hc : ∀ e, ex ≠ .ct e)
    (go : ∀ i : Nat, i < n → (∀ j, j < i → o j = false) → ∃ env', Tg K g (Inv i) (.int i) env' ∧ ((o i = false → Go K X t env' (Inv (i + 1))) ∧ (o i = true → oc = ex ∧ Sx K X t env' ex)))
    (rest : (∀ j, j < n → o j = false) → Sx K X u (Inv n) oc) : Sx K X (tSeq (tFor (iRng1 aa) g t) u) env oc := fun σ H H1 st D q => by
  refine h σ H H1 st _ fun vs G0 H2 f dv => ?_
  cases dv with
  | cons a b =>
      cases b; cases a
      have f' : Fr (Ow σ env) H H1 G0 H2 := f.mono fun _ z => z.elim
      refine ⟨k, rfl, by omega, by omega, for_range (lo := 0) (n := k.toNat) (fun i σ' H' => Pt K (Ow σ env) G0 H2 Inv i σ' H' ∧ ∀ j, j < i → o j = false) ⟨⟨G0, Fr.refl f.r, by rw [h0]; exact st.mono f, fun l z => .inl (by rw [h0] at z; exact z)⟩, fun j hj => absurd hj (Nat.not_lt_zero j)⟩ (fun i σ' H' hi p => ?_) (fun σ' H' p => ?_)⟩
      · obtain ⟨⟨G, f2, st2, ow⟩, hj⟩ := p
        obtain ⟨env', tg, g1, g2⟩ := go i (by omega) hj
        rw [Int.zero_add]
        refine tg σ' G H' _ st2 (.int _) _ fun σ2 st3 o3 => ?_
        have ow3 : ∀ l, Ow σ2 env' l → Ow σ env l ∨ H2 l = none := fun l z => ow l (o3 l z)
        cases hoi : o i with
        | false =>
          have nx : ∀ σ3 G3 H3, Fr (Ow σ2 env') G H' G3 H3 → Stt K G3 H3 σ3 (Inv (i + 1)) → (∀ l, Ow σ3 (Inv (i + 1)) l → Ow σ2 env' l ∨ H' l = none) → Pt K (Ow σ env) G0 H2 Inv (i + 1) σ3 H3 ∧ ∀ j, j < i + 1 → o j = false := fun σ3 G3 H3 f3 st4 o4 =>
            ⟨⟨G3, f2.trans f3 ow3, st4, fun l z => (o4 l z).elim (ow3 l) fun z => .inr (f2.m l z)⟩, fun j hj' => by
              rcases Nat.lt_succ_iff_lt_or_eq.mp hj' with z | z
              · exact hj j z
              · rw [z]; exact hoi⟩
          rcases g1 hoi with w | w
          · exact w σ2 G H' st3 _ nx
          · exact w σ2 G H' st3 _ nx
        | true =>
          obtain ⟨eo, w⟩ := g2 hoi
          refine w σ2 G H' st3 _ ?_
          have q' : OcOk K X (Ow σ2 env') D G H' ex := by
            rw [eo] at q
            refine (q.tr f' fun l z => .inl z).tr f2 ow3
          cases ex with
          | nx e => cases hx
          | bk e => exact absurd rfl (hb e)
          | ct e => exact absurd rfl (hc e)
          | ex c e => exact q'
          | rt d => exact q'
          | rl x => exact q'
          | rr v => exact q'
          | rw vs e => exact q'
          | rk xs => exact q'
          | rg k xs rs => exact q'
          | rb => exact q'
      · obtain ⟨⟨G, f2, st2, ow⟩, hj⟩ := p
        rw [hn] at st2 ow hj
        exact rest hj σ' G H' st2 D ((q.tr f' fun l z => .inl z).tr f2 ow)

/-- a name for what another name owns: the other is told no more -/
theorem sx_move {s : SV} (h : env[i]? = some s) (ho : s.isOwn = true) (ij : i ≠ j) : Sx K X (tAsg (tVar i) (gName j)) env (.nx ((env.set i .no).set j s)) := fun σ H H1 st D q => by
  obtain ⟨o, a, ok⟩ := st.get h
  obtain ⟨p, rfl⟩ : ∃ p, o = some (.ref p) := by
    cases s with
    | own xs => obtain ⟨l, vs, e, _⟩ := ok; exact ⟨l, e⟩
    | obj x => obtain ⟨l, e, _⟩ := ok; exact ⟨l, e⟩
    | ownA l xs => exact ⟨l, ok.1⟩
    | dct P w kvs => obtain ⟨l, xs, e, _⟩ := ok; exact ⟨l, e⟩
    | _ => cases ho
  have hi : i < env.length := (List.getElem?_eq_some_iff.mp h).1
  have st0 : Stt K H H1 σ (env.set i .no) := st.re h (fun _ _ _ => trivial) fun z => nomatch z
  refine ⟨_, a, q _ H H1 (Fr.refl st.e) (st0.setO ok fun n s' b1 b2 _ z => ?_) fun l z => ?_⟩
  · by_cases c : i = n
    · subst c; rw [List.getElem?_set_self hi] at b1; cases b1; cases b2
    · rw [List.getElem?_set_ne c] at b1
      exact st.ne i n s s' p c h b1 ho b2 a z
  · rcases Ow.set z with z | ⟨_, z⟩
    · exact .inl (Ow.re (s' := .no) h (fun z => by cases z) z)
    · cases z; exact .inl ⟨i, s, h, ho, a⟩
/-- a known list gets a name -/
theorem sx_setKn (h : EvKn K te env xs) : Sx K X (tAsg te (gName i)) env (.nx (env.set i (.kl xs))) := fun σ H H1 st D q =>
  h σ H H1 st _ fun p vs G H2 f g dv => q _ G H2 (f.mono fun _ z => z.elim) ((st.mono f).setV (s₀ := .kl xs) rfl ⟨p, vs, rfl, g, dv⟩) fun l z => by
    rcases Ow.set z with z | ⟨z, _⟩
    · exact .inl z
    · cases z
theorem ek_kl (h : env[i]? = some (.kl xs)) : EvKn K (tVar i) env xs := fun σ H H1 st Q q => by
  obtain ⟨o, a, p, vs, rfl, e1, e2⟩ := st.get h
  exact ⟨_, a, q p vs H H1 (Fr.refl st.e) e1 e2⟩
end
end Pf

namespace MG
open PySem PySem.Spec PyProof.Rows L2 Pf
/-! ### the mazes as data -/
abbrev Door := Int × Int × Option Int
abbrev Key2 := Int × Int
structure Maze where
  n : Int
  ds : List Door
  ks : List Key2
def optD : Option Int → PyData
  | none => .none
  | some i => .int i
def doorD (d : Door) : PyData := .tuple [.int d.1, .int d.2.1, optD d.2.2]
def keyD (k : Key2) : PyData := .tuple [.int k.1, .int k.2]
def mazeD (m : Maze) : PyData := .tuple [.int m.n, .list (m.ds.map doorD), .list (m.ks.map keyD)]
def handD (l : List Int) : PyData := .tuple (l.map .int)
/-- the kinds that lie in the room, rising, each once -/
def insI (x : Int) : List Int → List Int
  | [] => [x]
  | y :: r => if x < y then x :: y :: r else if x = y then y :: r else y :: insI x r
def rise (l : List Int) : List Int := l.foldr insI []
theorem insI_mem {x k : Int} : ∀ {l : List Int}, k ∈ insI x l ↔ k = x ∨ k ∈ l
  | [] => by simp [insI]
  | y :: r => by
    unfold insI
    split
    · simp
    · split
      · rename_i h; subst h; simp
      · rw [List.mem_cons, insI_mem, List.mem_cons]
        constructor
        · rintro (h | h | h) <;> simp [h]
        · rintro (h | h | h) <;> simp [h]
theorem insI_up {x : Int} : ∀ {l : List Int}, l.Pairwise (· < ·) → (insI x l).Pairwise (· < ·)
  | [], _ => by simp [insI]
  | y :: r, h => by
    have h' := List.pairwise_cons.mp h
    unfold insI
    split
    · rename_i c
      refine List.pairwise_cons.mpr ⟨fun k hk => ?_, h⟩
      rcases List.mem_cons.mp hk with z | z
      · rw [z]; exact c
      · exact Int.lt_trans c (h'.1 k z)
    · split
      · exact h
      · rename_i c1 c2
        refine List.pairwise_cons.mpr ⟨fun k hk => ?_, insI_up h'.2⟩
        rcases insI_mem.mp hk with z | z
        · subst z; omega
        · exact h'.1 k z
theorem rise_mem {k : Int} : ∀ {l : List Int}, k ∈ rise l ↔ k ∈ l
  | [] => by simp [rise]
  | x :: r => by
    show k ∈ insI x (rise r) ↔ _
    rw [insI_mem, rise_mem, List.mem_cons]
theorem rise_up : ∀ (l : List Int), (rise l).Pairwise (· < ·)
  | [] => List.Pairwise.nil
  | x :: r => insI_up (rise_up r)
def keysAmong (ks : List Key2) (rs : List Int) : List Int := rise ((ks.filter fun k => decide (k.1 ∈ rs)).map (·.2))
def keysIn (ks : List Key2) (r : Int) : List Int := rise ((ks.filter fun k => decide (k.1 = r)).map (·.2))
def taken (ks : List Key2) (r : Int) (held : List Int) : List Int := rise (held ++ keysIn ks r)
def inRoom (n r : Int) : Prop := 0 ≤ r ∧ r < n
instance (n r : Int) : Decidable (inRoom n r) := by unfold inRoom; infer_instance
theorem ints_len {l : List Int} : (l.map PyData.int).length = l.length := List.length_map _
theorem atI_nat' {α : Type} {xs : List α} {j : Nat} {x : α} (h : xs[j]? = some x) : atI xs (j : Int) = some x := by
  have hj := (List.getElem?_eq_some_iff.mp h).1
  unfold atI ixN
  rw [if_pos (by omega), if_pos (by omega)]
  show xs[(j : Int).toNat]? = _
  rw [Int.toNat_natCast]; exact h
theorem atI_int {α : Type} {xs : List α} {i : Int} {x : α} (h0 : 0 ≤ i) (h : xs[i.toNat]? = some x) : atI xs i = some x := by
  have hj := (List.getElem?_eq_some_iff.mp h).1
  unfold atI ixN
  rw [if_pos h0, if_pos (by omega)]
  exact h
theorem eqv_int (i j : Int) : PyData.eqv (.int i) (.int j) = decide (i = j) := by
  by_cases h : i = j
  · subst h; simp [PyData.eqv]
  · rw [decide_eq_false h]; simp [PyData.eqv, h]
theorem ints_flat (l : List Int) : (l.map PyData.int).all flatD = true := by
  rw [List.all_eq_true]
  intro z hz
  obtain ⟨i, _, rfl⟩ := List.mem_map.mp hz; rfl
theorem ints_any (l : List Int) (k : Int) : ((l.map PyData.int).any fun z => eqF z (.int k)) = decide (k ∈ l) := by
  rw [Bool.eq_iff_iff, List.any_eq_true, decide_eq_true_eq]
  constructor
  · rintro ⟨z, hz, h⟩
    obtain ⟨i, hi, rfl⟩ := List.mem_map.mp hz
    have : i = k := of_decide_eq_true h
    rw [← this]; exact hi
  · intro h
    exact ⟨.int k, List.mem_map.mpr ⟨k, h, rfl⟩, decide_eq_true rfl⟩
local macro_rules
  | `(tactic| walk_at "ev1") => `(tactic| first
    | ((with_reducible apply ev_var); exact rfl)
    | ((with_reducible apply ev_c); exact rfl)
    | with_reducible apply ev_eqI
    | with_reducible apply ev_neI
    | with_reducible apply ev_I0
    | with_reducible apply ev_I
    | with_reducible apply ev_U
    | with_reducible apply ev_isN
    | with_reducible apply ev_notN
    | with_reducible apply ev_call
    | with_reducible apply ev_tup
    | with_reducible apply ev_lst
    | with_reducible apply ev_inT
    | with_reducible apply ev_niT
    | with_reducible apply ev_abs
    | with_reducible apply ev_intb
    | with_reducible apply ev_min2
    | with_reducible apply ev_max2
    | with_reducible apply ea_cons
    | with_reducible exact ea_nil
    | with_reducible apply ev_andV
    | with_reducible apply ev_orV
    | with_reducible apply ev_notV
    | with_reducible apply ev_if
    | with_reducible apply et_test
    | with_reducible apply et_B
    | with_reducible apply et_and
    | with_reducible apply et_or
    | with_reducible apply et_not
    | ((with_reducible apply el_var); exact rfl)
    | with_reducible intro _
    | (show vd _ = some _; rfl)
    | exact Nat.le_of_ble_eq_true rfl
    | (show flatD _ = true; rfl)
    | (show List.all _ flatD = true; rfl)
    | exact (cm1 ⟨by decide, by decide⟩)
    | exact (cm0 ⟨by decide, by decide⟩)
    | (show CDiv _ _; exact ⟨by decide, by decide⟩)
    | (show CPow _ _; exact ⟨by decide, by decide, by decide⟩))
local macro_rules
  | `(tactic| walk_at "ev") => `(tactic| repeat' walk_at "ev1")
local macro_rules
  | `(tactic| walk_at "less") => `(tactic| repeat' first
    | exact Less.nil
    | apply Less.keep
    | apply Less.drop)

def topS (i : Nat) : Stmt := PySem.Challenge.pw_mazeguide_k10_the_least_walk.main.body.getD i (.Pass ⟨0, 0, 0, 0⟩)
abbrev s_need_room : Stmt := topS 4
abbrev n_need_room : List PySem.Str := ["rooms", "room"]
theorem sc_need_room : FnScope n_need_room ["rooms", "room"] (defScope s_need_room) := ⟨rfl, rfl, rfl, by decide +kernel, rfl, by decide +kernel, by decide +kernel⟩
abbrev s_keys_in : Stmt := topS 5
abbrev n_keys_in : List PySem.Str := ["maze", "room"]
theorem sc_keys_in : FnScope n_keys_in ["maze", "room"] (defScope s_keys_in) := ⟨rfl, rfl, rfl, by decide +kernel, rfl, by decide +kernel, by decide +kernel⟩
abbrev s_keys_among : Stmt := topS 6
abbrev n_keys_among : List PySem.Str := ["maze", "rooms", "room", "kind"]
theorem sc_keys_among : FnScope n_keys_among ["maze", "rooms"] (defScope s_keys_among) := ⟨rfl, rfl, rfl, by decide +kernel, rfl, by decide +kernel, by decide +kernel⟩
abbrev s_taken : Stmt := topS 7
abbrev n_taken : List PySem.Str := ["maze", "room", "held"]
theorem sc_taken : FnScope n_taken ["maze", "room", "held"] (defScope s_taken) := ⟨rfl, rfl, rfl, by decide +kernel, rfl, by decide +kernel, by decide +kernel⟩
abbrev s_opens : Stmt := topS 9
abbrev n_opens : List PySem.Str := ["door", "held", "lock"]
theorem sc_opens : FnScope n_opens ["door", "held"] (defScope s_opens) := ⟨rfl, rfl, rfl, by decide +kernel, rfl, by decide +kernel, by decide +kernel⟩
abbrev s_steps : Stmt := topS 10
abbrev n_steps : List PySem.Str := ["maze", "room", "held", "rooms", "doors", "_", "states", "door", "there"]
theorem sc_steps : FnScope n_steps ["maze", "room", "held"] (defScope s_steps) := ⟨rfl, rfl, rfl, by decide +kernel, rfl, by decide +kernel, by decide +kernel⟩
abbrev s_far_end : Stmt := topS 11
abbrev n_far_end : List PySem.Str := ["door", "room", "one", "other", "_"]
theorem sc_far_end : FnScope n_far_end ["door", "room"] (defScope s_far_end) := ⟨rfl, rfl, rfl, by decide +kernel, rfl, by decide +kernel, by decide +kernel⟩
abbrev s_come : Stmt := topS 13
abbrev n_come : List PySem.Str := ["maze", "start", "reached", "ways"]
theorem sc_come : FnScope n_come ["maze", "start"] (defScope s_come) := ⟨rfl, rfl, rfl, by decide +kernel, rfl, by decide +kernel, by decide +kernel⟩
abbrev s_ways_out : Stmt := topS 14
abbrev n_ways_out : List PySem.Str := ["maze", "reached", "held", "ways", "door", "outside", "end"]
theorem sc_ways_out : FnScope n_ways_out ["maze", "reached"] (defScope s_ways_out) := ⟨rfl, rfl, rfl, by decide +kernel, rfl, by decide +kernel, by decide +kernel⟩
abbrev s_guide : Stmt := topS 15
abbrev n_guide : List PySem.Str := ["maze", "start", "goal", "reached"]
theorem sc_guide : FnScope n_guide ["maze", "start", "goal"] (defScope s_guide) := ⟨rfl, rfl, rfl, by decide +kernel, rfl, by decide +kernel, by decide +kernel⟩
abbrev s_least_walk : Stmt := topS 16
abbrev n_least_walk : List PySem.Str := ["maze", "start", "goal", "first", "states", "walks", "at", "room", "held", "state"]
theorem sc_least_walk : FnScope n_least_walk ["maze", "start", "goal"] (defScope s_least_walk) := ⟨rfl, rfl, rfl, by decide +kernel, rfl, by decide +kernel, by decide +kernel⟩
abbrev s_l_mix : Stmt := topS 18
abbrev n_l_mix : List PySem.Str := ["_law_cell", "_law_k", "_law_number"]
theorem sc_l_mix : FnScope n_l_mix ["_law_cell", "_law_k"] (defScope s_l_mix) := ⟨rfl, rfl, rfl, by decide +kernel, rfl, by decide +kernel, by decide +kernel⟩
abbrev s_l_whole : Stmt := topS 19
abbrev n_l_whole : List PySem.Str := ["_law_found"]
theorem sc_l_whole : FnScope n_l_whole ["_law_found"] (defScope s_l_whole) := ⟨rfl, rfl, rfl, by decide +kernel, rfl, by decide +kernel, by decide +kernel⟩
abbrev s_l_cell_at : Stmt := topS 20
abbrev n_l_cell_at : List PySem.Str := ["_law_script", "_law_k"]
theorem sc_l_cell_at : FnScope n_l_cell_at ["_law_script", "_law_k"] (defScope s_l_cell_at) := ⟨rfl, rfl, rfl, by decide +kernel, rfl, by decide +kernel, by decide +kernel⟩
abbrev s_l_size : Stmt := topS 21
abbrev n_l_size : List PySem.Str := ["_law_script", "_law_first", "_law_number", "_law_some"]
theorem sc_l_size : FnScope n_l_size ["_law_script"] (defScope s_l_size) := ⟨rfl, rfl, rfl, by decide +kernel, rfl, by decide +kernel, by decide +kernel⟩
abbrev s_l_lock : Stmt := topS 22
abbrev n_l_lock : List PySem.Str := ["_law_number"]
theorem sc_l_lock : FnScope n_l_lock ["_law_number"] (defScope s_l_lock) := ⟨rfl, rfl, rfl, by decide +kernel, rfl, by decide +kernel, by decide +kernel⟩
abbrev s_l_rank : Stmt := topS 23
abbrev n_l_rank : List PySem.Str := ["_law_place", "_law_size_here"]
theorem sc_l_rank : FnScope n_l_rank ["_law_place", "_law_size_here"] (defScope s_l_rank) := ⟨rfl, rfl, rfl, by decide +kernel, rfl, by decide +kernel, by decide +kernel⟩
abbrev s_l_ranks : Stmt := topS 24
abbrev n_l_ranks : List PySem.Str := ["_law_first", "_law_size_here", "_law_number", "_law_name", "_law_made", "_law_one", "_law_other", "_law_rank_here", "_law_door"]
theorem sc_l_ranks : FnScope n_l_ranks ["_law_first", "_law_size_here"] (defScope s_l_ranks) := ⟨rfl, rfl, rfl, by decide +kernel, rfl, by decide +kernel, by decide +kernel⟩
abbrev s_l_many : Stmt := topS 25
abbrev n_l_many : List PySem.Str := ["_law_first", "_law_size_here", "_law_number", "_law_made", "_law_k", "_law_near", "_law_lock_here"]
theorem sc_l_many : FnScope n_l_many ["_law_first", "_law_size_here"] (defScope s_l_many) := ⟨rfl, rfl, rfl, by decide +kernel, rfl, by decide +kernel, by decide +kernel⟩
abbrev s_l_mixed : Stmt := topS 26
abbrev n_l_mixed : List PySem.Str := ["_law_first", "_law_size_here", "_law_number", "_law_made", "_law_k", "_law_lock_here", "_law_one"]
theorem sc_l_mixed : FnScope n_l_mixed ["_law_first", "_law_size_here"] (defScope s_l_mixed) := ⟨rfl, rfl, rfl, by decide +kernel, rfl, by decide +kernel, by decide +kernel⟩
abbrev s_l_built : Stmt := topS 27
abbrev n_l_built : List PySem.Str := ["_law_first", "_law_size_here", "_law_made", "_law_k", "_law_one", "_law_other", "_law_locks", "_law_turn"]
theorem sc_l_built : FnScope n_l_built ["_law_first", "_law_size_here"] (defScope s_l_built) := ⟨rfl, rfl, rfl, by decide +kernel, rfl, by decide +kernel, by decide +kernel⟩
abbrev s_l_doors : Stmt := topS 28
abbrev n_l_doors : List PySem.Str := ["_law_script", "_law_size_here", "_law_first", "_law_made", "_law_k", "_law_cell", "_law_one"]
theorem sc_l_doors : FnScope n_l_doors ["_law_script", "_law_size_here"] (defScope s_l_doors) := ⟨rfl, rfl, rfl, by decide +kernel, rfl, by decide +kernel, by decide +kernel⟩
abbrev s_l_lying : Stmt := topS 29
abbrev n_l_lying : List PySem.Str := ["_law_script", "_law_size_here", "_law_first", "_law_turn", "_law_made", "_law_k"]
theorem sc_l_lying : FnScope n_l_lying ["_law_script", "_law_size_here"] (defScope s_l_lying) := ⟨rfl, rfl, rfl, by decide +kernel, rfl, by decide +kernel, by decide +kernel⟩
abbrev s_l_taken : Stmt := topS 30
abbrev n_l_taken : List PySem.Str := ["_law_lying_here", "_law_room", "_law_held", "_law_made", "_law_kind"]
theorem sc_l_taken : FnScope n_l_taken ["_law_lying_here", "_law_room", "_law_held"] (defScope s_l_taken) := ⟨rfl, rfl, rfl, by decide +kernel, rfl, by decide +kernel, by decide +kernel⟩
abbrev s_l_steps : Stmt := topS 31
abbrev n_l_steps : List PySem.Str := ["_law_doors_here", "_law_lying_here", "_law_room", "_law_held", "_law_made", "_law_one", "_law_other", "_law_lock_here"]
theorem sc_l_steps : FnScope n_l_steps ["_law_doors_here", "_law_lying_here", "_law_room", "_law_held"] (defScope s_l_steps) := ⟨rfl, rfl, rfl, by decide +kernel, rfl, by decide +kernel, by decide +kernel⟩
abbrev s_l_hand : Stmt := topS 32
abbrev n_l_hand : List PySem.Str := ["_law_found", "_law_due_here", "_law_kind"]
theorem sc_l_hand : FnScope n_l_hand ["_law_found", "_law_due_here"] (defScope s_l_hand) := ⟨rfl, rfl, rfl, by decide +kernel, rfl, by decide +kernel, by decide +kernel⟩
abbrev s_l_row : Stmt := topS 33
abbrev n_l_row : List PySem.Str := ["_law_found", "_law_due_here", "_law_room"]
theorem sc_l_row : FnScope n_l_row ["_law_found", "_law_due_here"] (defScope s_l_row) := ⟨rfl, rfl, rfl, by decide +kernel, rfl, by decide +kernel, by decide +kernel⟩
abbrev s_l_due : Stmt := topS 34
abbrev n_l_due : List PySem.Str := ["_law_doors_here", "_law_lying_here", "_law_size_here", "_law_start", "_law_goal_here", "_law_now", "_law_seen", "_law_turn", "_law_ends", "_law_state", "_law_more", "_law_other", "_law_longer"]
theorem sc_l_due : FnScope n_l_due ["_law_doors_here", "_law_lying_here", "_law_size_here", "_law_start", "_law_goal_here"] (defScope s_l_due) := ⟨rfl, rfl, rfl, by decide +kernel, rfl, by decide +kernel, by decide +kernel⟩
abbrev s_l_rooms : Stmt := topS 35
abbrev n_l_rooms : List PySem.Str := ["_law_doors_here", "_law_lying_here", "_law_start", "_law_rooms_here", "_law_more", "_law_held", "_law_one", "_law_other", "_law_lock_here"]
theorem sc_l_rooms : FnScope n_l_rooms ["_law_doors_here", "_law_lying_here", "_law_start"] (defScope s_l_rooms) := ⟨rfl, rfl, rfl, by decide +kernel, rfl, by decide +kernel, by decide +kernel⟩
abbrev s_l_shut : Stmt := topS 36
abbrev n_l_shut : List PySem.Str := ["_law_found", "_law_doors_here", "_law_lying_here", "_law_start", "_law_rooms_here", "_law_held", "_law_room"]
theorem sc_l_shut : FnScope n_l_shut ["_law_found", "_law_doors_here", "_law_lying_here", "_law_start"] (defScope s_l_shut) := ⟨rfl, rfl, rfl, by decide +kernel, rfl, by decide +kernel, by decide +kernel⟩
abbrev s_l_goal : Stmt := topS 37
abbrev n_l_goal : List PySem.Str := ["_law_script", "_law_size_here", "_law_first"]
theorem sc_l_goal : FnScope n_l_goal ["_law_script", "_law_size_here"] (defScope s_l_goal) := ⟨rfl, rfl, rfl, by decide +kernel, rfl, by decide +kernel, by decide +kernel⟩
abbrev s_l_far : Stmt := topS 38
abbrev n_l_far : List PySem.Str := ["_law_cell", "_law_size_here"]
theorem sc_l_far : FnScope n_l_far ["_law_cell", "_law_size_here"] (defScope s_l_far) := ⟨rfl, rfl, rfl, by decide +kernel, rfl, by decide +kernel, by decide +kernel⟩
abbrev s_law : Stmt := topS 39
abbrev n_law : List PySem.Str := ["_law_script", "_law_size_here", "_law_doors_here", "_law_lying_here", "_law_start", "_law_goal_here", "_law_far_here", "_law_found", "_law_due_here", "_law_good", "_law_kept"]
theorem sc_law : FnScope n_law ["_law_script"] (defScope s_law) := ⟨rfl, rfl, rfl, by decide +kernel, rfl, by decide +kernel, by decide +kernel⟩
/-- where the top has put what -/
structure Ad where
  a_need_room : Addr
  d_need_room : FuncData
  a_keys_in : Addr
  d_keys_in : FuncData
  a_keys_among : Addr
  d_keys_among : FuncData
  a_taken : Addr
  d_taken : FuncData
  a_opens : Addr
  d_opens : FuncData
  a_steps : Addr
  d_steps : FuncData
  a_far_end : Addr
  d_far_end : FuncData
  a_come : Addr
  d_come : FuncData
  a_ways_out : Addr
  d_ways_out : FuncData
  a_guide : Addr
  d_guide : FuncData
  a_least_walk : Addr
  d_least_walk : FuncData
  a_l_mix : Addr
  d_l_mix : FuncData
  a_l_whole : Addr
  d_l_whole : FuncData
  a_l_cell_at : Addr
  d_l_cell_at : FuncData
  a_l_size : Addr
  d_l_size : FuncData
  a_l_lock : Addr
  d_l_lock : FuncData
  a_l_rank : Addr
  d_l_rank : FuncData
  a_l_ranks : Addr
  d_l_ranks : FuncData
  a_l_many : Addr
  d_l_many : FuncData
  a_l_mixed : Addr
  d_l_mixed : FuncData
  a_l_built : Addr
  d_l_built : FuncData
  a_l_doors : Addr
  d_l_doors : FuncData
  a_l_lying : Addr
  d_l_lying : FuncData
  a_l_taken : Addr
  d_l_taken : FuncData
  a_l_steps : Addr
  d_l_steps : FuncData
  a_l_hand : Addr
  d_l_hand : FuncData
  a_l_row : Addr
  d_l_row : FuncData
  a_l_due : Addr
  d_l_due : FuncData
  a_l_rooms : Addr
  d_l_rooms : FuncData
  a_l_shut : Addr
  d_l_shut : FuncData
  a_l_goal : Addr
  d_l_goal : FuncData
  a_l_far : Addr
  d_l_far : FuncData
  a_law : Addr
  d_law : FuncData
  c_MazeError : Addr
  c_NoRoom : Addr
structure Txt (K : PySem.W.Frag) (mg : PySem.Str → Option Value) (A : Ad) : Prop where
  g_need_room : mg "need_room" = some (.ref A.a_need_room)
  f_need_room : Fun K "need_room" "need_room" s_need_room A.a_need_room A.d_need_room
  g_keys_in : mg "keys_in" = some (.ref A.a_keys_in)
  f_keys_in : Fun K "keys_in" "keys_in" s_keys_in A.a_keys_in A.d_keys_in
  g_keys_among : mg "keys_among" = some (.ref A.a_keys_among)
  f_keys_among : Fun K "keys_among" "keys_among" s_keys_among A.a_keys_among A.d_keys_among
  g_taken : mg "taken" = some (.ref A.a_taken)
  f_taken : Fun K "taken" "taken" s_taken A.a_taken A.d_taken
  g_opens : mg "opens" = some (.ref A.a_opens)
  f_opens : Fun K "opens" "opens" s_opens A.a_opens A.d_opens
  g_steps : mg "steps" = some (.ref A.a_steps)
  f_steps : Fun K "steps" "steps" s_steps A.a_steps A.d_steps
  g_far_end : mg "far_end" = some (.ref A.a_far_end)
  f_far_end : Fun K "far_end" "far_end" s_far_end A.a_far_end A.d_far_end
  g_come : mg "come" = some (.ref A.a_come)
  f_come : Fun K "come" "come" s_come A.a_come A.d_come
  g_ways_out : mg "ways_out" = some (.ref A.a_ways_out)
  f_ways_out : Fun K "ways_out" "ways_out" s_ways_out A.a_ways_out A.d_ways_out
  g_guide : mg "guide" = some (.ref A.a_guide)
  f_guide : Fun K "guide" "guide" s_guide A.a_guide A.d_guide
  g_least_walk : mg "least_walk" = some (.ref A.a_least_walk)
  f_least_walk : Fun K "least_walk" "least_walk" s_least_walk A.a_least_walk A.d_least_walk
  g_l_mix : mg "_law_mix" = some (.ref A.a_l_mix)
  f_l_mix : Fun K "_law_mix" "_law_mix" s_l_mix A.a_l_mix A.d_l_mix
  g_l_whole : mg "_law_whole" = some (.ref A.a_l_whole)
  f_l_whole : Fun K "_law_whole" "_law_whole" s_l_whole A.a_l_whole A.d_l_whole
  g_l_cell_at : mg "_law_cell_at" = some (.ref A.a_l_cell_at)
  f_l_cell_at : Fun K "_law_cell_at" "_law_cell_at" s_l_cell_at A.a_l_cell_at A.d_l_cell_at
  g_l_size : mg "_law_size" = some (.ref A.a_l_size)
  f_l_size : Fun K "_law_size" "_law_size" s_l_size A.a_l_size A.d_l_size
  g_l_lock : mg "_law_lock" = some (.ref A.a_l_lock)
  f_l_lock : Fun K "_law_lock" "_law_lock" s_l_lock A.a_l_lock A.d_l_lock
  g_l_rank : mg "_law_rank" = some (.ref A.a_l_rank)
  f_l_rank : Fun K "_law_rank" "_law_rank" s_l_rank A.a_l_rank A.d_l_rank
  g_l_ranks : mg "_law_ranks" = some (.ref A.a_l_ranks)
  f_l_ranks : Fun K "_law_ranks" "_law_ranks" s_l_ranks A.a_l_ranks A.d_l_ranks
  g_l_many : mg "_law_many" = some (.ref A.a_l_many)
  f_l_many : Fun K "_law_many" "_law_many" s_l_many A.a_l_many A.d_l_many
  g_l_mixed : mg "_law_mixed" = some (.ref A.a_l_mixed)
  f_l_mixed : Fun K "_law_mixed" "_law_mixed" s_l_mixed A.a_l_mixed A.d_l_mixed
  g_l_built : mg "_law_built" = some (.ref A.a_l_built)
  f_l_built : Fun K "_law_built" "_law_built" s_l_built A.a_l_built A.d_l_built
  g_l_doors : mg "_law_doors" = some (.ref A.a_l_doors)
  f_l_doors : Fun K "_law_doors" "_law_doors" s_l_doors A.a_l_doors A.d_l_doors
  g_l_lying : mg "_law_lying" = some (.ref A.a_l_lying)
  f_l_lying : Fun K "_law_lying" "_law_lying" s_l_lying A.a_l_lying A.d_l_lying
  g_l_taken : mg "_law_taken" = some (.ref A.a_l_taken)
  f_l_taken : Fun K "_law_taken" "_law_taken" s_l_taken A.a_l_taken A.d_l_taken
  g_l_steps : mg "_law_steps" = some (.ref A.a_l_steps)
  f_l_steps : Fun K "_law_steps" "_law_steps" s_l_steps A.a_l_steps A.d_l_steps
  g_l_hand : mg "_law_hand" = some (.ref A.a_l_hand)
  f_l_hand : Fun K "_law_hand" "_law_hand" s_l_hand A.a_l_hand A.d_l_hand
  g_l_row : mg "_law_row" = some (.ref A.a_l_row)
  f_l_row : Fun K "_law_row" "_law_row" s_l_row A.a_l_row A.d_l_row
  g_l_due : mg "_law_due" = some (.ref A.a_l_due)
  f_l_due : Fun K "_law_due" "_law_due" s_l_due A.a_l_due A.d_l_due
  g_l_rooms : mg "_law_rooms" = some (.ref A.a_l_rooms)
  f_l_rooms : Fun K "_law_rooms" "_law_rooms" s_l_rooms A.a_l_rooms A.d_l_rooms
  g_l_shut : mg "_law_shut" = some (.ref A.a_l_shut)
  f_l_shut : Fun K "_law_shut" "_law_shut" s_l_shut A.a_l_shut A.d_l_shut
  g_l_goal : mg "_law_goal" = some (.ref A.a_l_goal)
  f_l_goal : Fun K "_law_goal" "_law_goal" s_l_goal A.a_l_goal A.d_l_goal
  g_l_far : mg "_law_far" = some (.ref A.a_l_far)
  f_l_far : Fun K "_law_far" "_law_far" s_l_far A.a_l_far A.d_l_far
  g_law : mg "law" = some (.ref A.a_law)
  f_law : Fun K "law" "law" s_law A.a_law A.d_law
  g_MazeError : mg "MazeError" = some (.ref A.c_MazeError)
  x_MazeError : PySem.W.excIn K A.c_MazeError [.type "ValueError", .type "Exception", .type "BaseException", .type "object"] "ValueError.__new__" = true
  k_MazeError : PySem.W.keepIn K (.ref A.c_MazeError) = true
  b_MazeError : PySem.W.subIn K (.ref A.c_MazeError) (.type "BaseException") = some true
  t_MazeError : PySem.W.typeIn K (.ref A.c_MazeError) = some (.type "type")
  i_MazeError : PySem.W.isClsIn K A.c_MazeError = true
  g_NoRoom : mg "NoRoom" = some (.ref A.c_NoRoom)
  x_NoRoom : PySem.W.excIn K A.c_NoRoom [.type "ValueError", .type "Exception", .type "BaseException", .type "object"] "ValueError.__new__" = true
  k_NoRoom : PySem.W.keepIn K (.ref A.c_NoRoom) = true
  b_NoRoom : PySem.W.subIn K (.ref A.c_NoRoom) (.type "BaseException") = some true
  t_NoRoom : PySem.W.typeIn K (.ref A.c_NoRoom) = some (.type "type")
  i_NoRoom : PySem.W.isClsIn K A.c_NoRoom = true
  s_NoRoom_NoRoom : PySem.W.subIn K (.ref A.c_NoRoom) (.ref A.c_NoRoom) = some true
  u_abs : mg "abs" = none
  u_bool : mg "bool" = none
  u_int : mg "int" = none
  u_isinstance : mg "isinstance" = none
  u_len : mg "len" = none
  u_list : mg "list" = none
  u_min : mg "min" = none
  u_range : mg "range" = none
  u_set : mg "set" = none
  u_sorted : mg "sorted" = none
  u_tuple : mg "tuple" = none
section
variable {P : Program} {w : World} {K : PySem.W.Frag} {mg : PySem.Str → Option Value} {base : Heap} {A : Ad}
theorem b_need_room (T : Txt K mg A) : Binds K A.d_need_room ["rooms", "room"] [] := T.f_need_room.binds fun _ _ _ _ _ _ us hl => match us, hl with | [_, _], _ => rfl
theorem b_keys_in (T : Txt K mg A) : Binds K A.d_keys_in ["maze", "room"] [] := T.f_keys_in.binds fun _ _ _ _ _ _ us hl => match us, hl with | [_, _], _ => rfl
theorem b_keys_among (T : Txt K mg A) : Binds K A.d_keys_among ["maze", "rooms"] [] := T.f_keys_among.binds fun _ _ _ _ _ _ us hl => match us, hl with | [_, _], _ => rfl
theorem b_taken (T : Txt K mg A) : Binds K A.d_taken ["maze", "room", "held"] [] := T.f_taken.binds fun _ _ _ _ _ _ us hl => match us, hl with | [_, _, _], _ => rfl
theorem b_opens (T : Txt K mg A) : Binds K A.d_opens ["door", "held"] [] := T.f_opens.binds fun _ _ _ _ _ _ us hl => match us, hl with | [_, _], _ => rfl
theorem b_steps (T : Txt K mg A) : Binds K A.d_steps ["maze", "room", "held"] [] := T.f_steps.binds fun _ _ _ _ _ _ us hl => match us, hl with | [_, _, _], _ => rfl
theorem b_far_end (T : Txt K mg A) : Binds K A.d_far_end ["door", "room"] [] := T.f_far_end.binds fun _ _ _ _ _ _ us hl => match us, hl with | [_, _], _ => rfl
theorem b_come (T : Txt K mg A) : Binds K A.d_come ["maze", "start"] [] := T.f_come.binds fun _ _ _ _ _ _ us hl => match us, hl with | [_, _], _ => rfl
theorem b_ways_out (T : Txt K mg A) : Binds K A.d_ways_out ["maze", "reached"] [] := T.f_ways_out.binds fun _ _ _ _ _ _ us hl => match us, hl with | [_, _], _ => rfl
theorem b_guide (T : Txt K mg A) : Binds K A.d_guide ["maze", "start", "goal"] [] := T.f_guide.binds fun _ _ _ _ _ _ us hl => match us, hl with | [_, _, _], _ => rfl
theorem b_least_walk (T : Txt K mg A) : Binds K A.d_least_walk ["maze", "start", "goal"] [] := T.f_least_walk.binds fun _ _ _ _ _ _ us hl => match us, hl with | [_, _, _], _ => rfl
theorem b_l_mix (T : Txt K mg A) : Binds K A.d_l_mix ["_law_cell", "_law_k"] [] := T.f_l_mix.binds fun _ _ _ _ _ _ us hl => match us, hl with | [_, _], _ => rfl
theorem b_l_whole (T : Txt K mg A) : Binds K A.d_l_whole ["_law_found"] [] := T.f_l_whole.binds fun _ _ _ _ _ _ us hl => match us, hl with | [_], _ => rfl
theorem b_l_cell_at (T : Txt K mg A) : Binds K A.d_l_cell_at ["_law_script", "_law_k"] [] := T.f_l_cell_at.binds fun _ _ _ _ _ _ us hl => match us, hl with | [_, _], _ => rfl
theorem b_l_size (T : Txt K mg A) : Binds K A.d_l_size ["_law_script"] [] := T.f_l_size.binds fun _ _ _ _ _ _ us hl => match us, hl with | [_], _ => rfl
theorem b_l_lock (T : Txt K mg A) : Binds K A.d_l_lock ["_law_number"] [] := T.f_l_lock.binds fun _ _ _ _ _ _ us hl => match us, hl with | [_], _ => rfl
theorem b_l_rank (T : Txt K mg A) : Binds K A.d_l_rank ["_law_place", "_law_size_here"] [] := T.f_l_rank.binds fun _ _ _ _ _ _ us hl => match us, hl with | [_, _], _ => rfl
theorem b_l_ranks (T : Txt K mg A) : Binds K A.d_l_ranks ["_law_first", "_law_size_here"] [] := T.f_l_ranks.binds fun _ _ _ _ _ _ us hl => match us, hl with | [_, _], _ => rfl
theorem b_l_many (T : Txt K mg A) : Binds K A.d_l_many ["_law_first", "_law_size_here"] [] := T.f_l_many.binds fun _ _ _ _ _ _ us hl => match us, hl with | [_, _], _ => rfl
theorem b_l_mixed (T : Txt K mg A) : Binds K A.d_l_mixed ["_law_first", "_law_size_here"] [] := T.f_l_mixed.binds fun _ _ _ _ _ _ us hl => match us, hl with | [_, _], _ => rfl
theorem b_l_built (T : Txt K mg A) : Binds K A.d_l_built ["_law_first", "_law_size_here"] [] := T.f_l_built.binds fun _ _ _ _ _ _ us hl => match us, hl with | [_, _], _ => rfl
theorem b_l_doors (T : Txt K mg A) : Binds K A.d_l_doors ["_law_script", "_law_size_here"] [] := T.f_l_doors.binds fun _ _ _ _ _ _ us hl => match us, hl with | [_, _], _ => rfl
theorem b_l_lying (T : Txt K mg A) : Binds K A.d_l_lying ["_law_script", "_law_size_here"] [] := T.f_l_lying.binds fun _ _ _ _ _ _ us hl => match us, hl with | [_, _], _ => rfl
theorem b_l_taken (T : Txt K mg A) : Binds K A.d_l_taken ["_law_lying_here", "_law_room", "_law_held"] [] := T.f_l_taken.binds fun _ _ _ _ _ _ us hl => match us, hl with | [_, _, _], _ => rfl
theorem b_l_steps (T : Txt K mg A) : Binds K A.d_l_steps ["_law_doors_here", "_law_lying_here", "_law_room", "_law_held"] [] := T.f_l_steps.binds fun _ _ _ _ _ _ us hl => match us, hl with | [_, _, _, _], _ => rfl
theorem b_l_hand (T : Txt K mg A) : Binds K A.d_l_hand ["_law_found", "_law_due_here"] [] := T.f_l_hand.binds fun _ _ _ _ _ _ us hl => match us, hl with | [_, _], _ => rfl
theorem b_l_row (T : Txt K mg A) : Binds K A.d_l_row ["_law_found", "_law_due_here"] [] := T.f_l_row.binds fun _ _ _ _ _ _ us hl => match us, hl with | [_, _], _ => rfl
theorem b_l_due (T : Txt K mg A) : Binds K A.d_l_due ["_law_doors_here", "_law_lying_here", "_law_size_here", "_law_start", "_law_goal_here"] [] := T.f_l_due.binds fun _ _ _ _ _ _ us hl => match us, hl with | [_, _, _, _, _], _ => rfl
theorem b_l_rooms (T : Txt K mg A) : Binds K A.d_l_rooms ["_law_doors_here", "_law_lying_here", "_law_start"] [] := T.f_l_rooms.binds fun _ _ _ _ _ _ us hl => match us, hl with | [_, _, _], _ => rfl
theorem b_l_shut (T : Txt K mg A) : Binds K A.d_l_shut ["_law_found", "_law_doors_here", "_law_lying_here", "_law_start"] [] := T.f_l_shut.binds fun _ _ _ _ _ _ us hl => match us, hl with | [_, _, _, _], _ => rfl
theorem b_l_goal (T : Txt K mg A) : Binds K A.d_l_goal ["_law_script", "_law_size_here"] [] := T.f_l_goal.binds fun _ _ _ _ _ _ us hl => match us, hl with | [_, _], _ => rfl
theorem b_l_far (T : Txt K mg A) : Binds K A.d_l_far ["_law_cell", "_law_size_here"] [] := T.f_l_far.binds fun _ _ _ _ _ _ us hl => match us, hl with | [_, _], _ => rfl
theorem b_law (T : Txt K mg A) : Binds K A.d_law ["_law_script"] [] := T.f_law.binds fun _ _ _ _ _ _ us hl => match us, hl with | [_], _ => rfl
/-! how many kinds there may be -/
theorem up_short : ∀ {l : List Int} {a b : Int}, l.Pairwise (· < ·) → (∀ x ∈ l, a ≤ x ∧ x < b) → (l.length : Int) ≤ (if a ≤ b then b - a else 0)
  | [], a, b, _, _ => by
    show (0 : Int) ≤ _
    split <;> omega
  | x :: r, a, b, h, k => by
    have h' := List.pairwise_cons.mp h
    obtain ⟨k1, k2⟩ := k x List.mem_cons_self
    have ih := up_short (a := x + 1) (b := b) h'.2 fun y hy => ⟨by have := h'.1 y hy; omega, (k y (List.mem_cons_of_mem _ hy)).2⟩
    rw [List.length_cons]
    rw [if_pos (by omega)] at ih ⊢
    omega
/-- keys of the five kinds, at most sixty -/
def okKeys (ks : List Key2) : Prop := ks.length ≤ 60 ∧ ∀ k ∈ ks, 0 ≤ k.2 ∧ k.2 < 5
theorem keysIn_kind {ks : List Key2} (h : okKeys ks) {r : Int} : ∀ x ∈ keysIn ks r, 0 ≤ x ∧ x < 5 := fun x hx => by
  unfold keysIn at hx
  rw [rise_mem] at hx
  obtain ⟨k, hk, rfl⟩ := List.mem_map.mp hx
  exact h.2 k (List.mem_filter.mp hk).1
theorem keysIn_len {ks : List Key2} (h : okKeys ks) {r : Int} : (keysIn ks r).length ≤ 5 := by
  have := up_short (rise_up _) (keysIn_kind h (r := r))
  rw [if_pos (by decide)] at this
  have e : keysIn ks r = rise ((ks.filter fun k => decide (k.1 = r)).map (·.2)) := rfl
  rw [e]; omega

/-! need_room -/
def R_need_room (ds : List PyData) (d : PyData) : Prop := ∃ n r : Int, inRoom n r ∧ ds = [.int n, .int r] ∧ d = .none
def B_need_room (A : Ad) (ds : List PyData) (c : Value) : Prop := ∃ n r : Int, ¬ inRoom n r ∧ ds = [.int n, .int r] ∧ c = .ref A.c_NoRoom
theorem ok_need_room (T : Txt K mg A) : FnOk P w K mg base (L2.CX P w) 1 A.a_need_room A.d_need_room ["rooms", "room"] (spX K R_need_room (B_need_room A)) := by
  refine T.f_need_room.okX sc_need_room (fun vs H Q E h => ?_) (fun cdv Ar outer s H vs Q E hr h => ?_)
  · obtain ⟨H0, ds, sm, dv, ⟨d, ⟨n, r, _, rfl, _⟩, _⟩ | ⟨c, ⟨n, r, _, rfl, _⟩, _⟩⟩ := h <;> exact dpa_len dv
  obtain ⟨H0, ds, sm, dv, hh⟩ := h
  refine ⟨_, (pss_one (ps_if (PW.pt (pw_or (pt_cmpR op_lt (pv 1) pe_int (nomark _)) (pw_or1 (pt_cmpR op_ge (pv 1) (pv 0) (nomark _))))) (pss_one (ps_raise rfl (takes_of rfl rfl rfl rfl) (pmk_own PySem.F.excBase_ValueError T.x_NoRoom T.g_NoRoom T.k_NoRoom (raises_own T.b_NoRoom T.t_NoRoom) rfl))) pss_nil)), ?_⟩
  rcases hh with ⟨d, ⟨n, r, hr0, rfl, rfl⟩, q⟩ | ⟨c, ⟨n, r, hr0, rfl, rfl⟩, q⟩
  · refine Pf.run (X := fun cls d _ H => E cls d H) (oc := .nx [.dat (.int n), .dat (.int r)]) sm dv rfl ?_ (fun σ G H2 f _ _ => q _ G H2 f .non)
    refine sx_no (EvT.is (b := decide (r < 0) || decide (n ≤ r)) ?_ ?_) sx_next
    · walk_at "ev"
    · unfold inRoom at hr0
      rw [decide_eq_false (by omega), decide_eq_false (by omega)]; rfl
  · refine Pf.run (X := fun cls d _ H => E cls d H) (oc := .ex (.ref A.c_NoRoom) [.dat (.int n), .dat (.int r)]) sm dv rfl ?_ (fun σ G H2 f _ _ => q G H2 f)
    refine sx_yes (EvT.is (b := decide (r < 0) || decide (n ≤ r)) ?_ ?_) (fun σ H H1 st D q => q σ H H1 (Fr.refl st.e) st fun l z => .inl z)
    · walk_at "ev"
    · unfold inRoom at hr0
      rw [Bool.or_eq_true, decide_eq_true_eq, decide_eq_true_eq]; omega

/-! keys_among, keys_in -/
def R_keys_among (ds : List PyData) (d : PyData) : Prop := ∃ (m : Maze) (rs : List Int), m.ks.length ≤ 60 ∧ ds = [mazeD m, .list (rs.map .int)] ∧ d = handD (keysAmong m.ks rs)
theorem ok_keys_among (T : Txt K mg A) : FnOk P w K mg base CX0 1 A.a_keys_among A.d_keys_among ["maze", "rooms"] (spG K R_keys_among) := by
  refine T.f_keys_among.ok sc_keys_among (fun vs H Q E h => ?_) (fun cdv Ar outer s H vs Q E hr h => ?_)
  · obtain ⟨H0, ds, d, sm, dv, ⟨m, rs, _, rfl, _⟩, _⟩ := h; exact dpa_len dv
  obtain ⟨H0, ds, d, sm, dv, ⟨m, rs, hk, rfl, rfl⟩, q⟩ := h
  refine ⟨_, (pss_one (ps_ret (pe_callTy call_tuple_of (by rfl) T.u_tuple (by decide +kernel) (pa_cons (pe_callB (cr_sortedSet rfl) (by rfl) T.u_sorted (by decide +kernel) (pa_cons (pe_si (own := [("room", 2), ("kind", 3)]) (g := gTup _ 2 (gCons (gName 2) (gCons (gName 3) gNil))) rfl sc_keys_among.nd (pi_list (pe_ix (r := rIxT K) (by exact ix_tup) (pv 0) pe_int (fun _ _ => rfl))) (blkOk_by (own := [("room", 2), ("kind", 3)]) (N := n_keys_among) (sc := defScope s_keys_among) (by decide +kernel))
        (fun _ _ _ _ _ => (pg_tup rfl (pgs_cons (pg_name (i := 2) sc_keys_among.nd rfl (Or.inl rfl)) (pgs_cons (pg_name (i := 3) sc_keys_among.nd rfl (Or.inl rfl)) pgs_nil)))) (fun _ _ _ _ _ => (pts_one (pt_cmpR (r := rIn K false) (by exact op_in_seq) (pv 2) (pv 1) (by rfl)))) (fun _ _ _ _ _ => (pv 3))) pa_nil)) pa_nil)))), ?_⟩
  refine Pf.run (X := fun _ _ _ _ => False) (oc := .rt (handD (keysAmong m.ks rs))) sm dv rfl ?_ q
  refine sx_ret (ev_tuple (EvO.l (eo_sortedS (L := keysAmong m.ks rs) (es_si (α := Key2) m.ks keyD (fun k => decide (k.1 ∈ rs)) (·.2) (ev_ixT (ds := [.int m.n, .list (m.ds.map doorD), .list (m.ks.map keyD)]) (ev_var rfl) (ev_c rfl) rfl) (by omega) fun x _ => ?_) (by omega) (rise_up _) fun k => ?_)))
  · refine ⟨_, tgw_tup (tgsw_cons (tgw_name (by decide)) (tgsw_cons (tgw_name (by decide)) tgsw_nil)) rfl, ?_, fun _ => ev_var rfl⟩
    exact et_test ((ev_inL (ds := rs.map .int) (ev_var rfl) (ev_var rfl) rfl (ints_flat _)).is (by rw [ints_any]))
  · rw [decide_eq_true_eq]; exact rise_mem

theorem keysAmong_one (ks : List Key2) (r : Int) : keysAmong ks [r] = keysIn ks r := by
  unfold keysAmong keysIn
  congr 3
  funext k
  exact decide_eq_decide.mpr List.mem_singleton
def R_keys_in (ds : List PyData) (d : PyData) : Prop := ∃ (m : Maze) (r : Int), (m.ks.length ≤ 60 ∧ inRoom m.n r) ∧ ds = [mazeD m, .int r] ∧ d = handD (keysIn m.ks r)
def B_keys_in (A : Ad) (ds : List PyData) (c : Value) : Prop := ∃ (m : Maze) (r : Int), ¬ inRoom m.n r ∧ ds = [mazeD m, .int r] ∧ c = .ref A.c_NoRoom
theorem tg_maze {K : PySem.W.Frag} {env : List SV} {m : Maze} {a b c : Nat} : Tg K (gTup K 3 (gCons (gName a) (gCons (gName b) (gCons (gName c) gNil)))) env (mazeD m) (((env.set a (.dat (.int m.n))).set b (.dat (.list (m.ds.map doorD)))).set c (.dat (.list (m.ks.map keyD)))) :=
  tg_tup (tgs_cons tg_name (tgs_cons tg_name (tgs_cons tg_name tgs_nil))) rfl
theorem ok_keys_in (T : Txt K mg A) : FnOk P w K mg base (L2.CX P w) 2 A.a_keys_in A.d_keys_in ["maze", "room"] (spX K R_keys_in (B_keys_in A)) := by
  refine T.f_keys_in.okX sc_keys_in (fun vs H Q E h => ?_) (fun cdv Ar outer s H vs Q E hr h => ?_)
  · obtain ⟨H0, ds, sm, dv, ⟨d, ⟨n, r, _, rfl, _⟩, _⟩ | ⟨c, ⟨n, r, _, rfl, _⟩, _⟩⟩ := h <;> exact dpa_len dv
  obtain ⟨H0, ds, sm, dv, hh⟩ := h
  refine ⟨_, (pss_cons (ps_expr (pe_callS (ok_need_room T) (hr.mono (by decide)) rfl T.g_need_room T.f_need_room.kp (b_need_room T) (fun σ => passAt (takes_of rfl rfl rfl rfl) σ) (pa_cons (pe_ix (r := rIxT K) (by exact ix_tup) (pv 0) pe_int (fun _ _ => rfl)) (pa_cons (pv 1) pa_nil))))
      (pss_one (ps_ret (pe_callS (E := fun _ => E0) (ok_keys_among T) (hr.mono (by decide)) rfl T.g_keys_among T.f_keys_among.kp (b_keys_among T) (fun σ => pass0S) (pa_cons (pv 0) (pa_cons (pe_lst (pa_cons (pv 1) pa_nil)) pa_nil)))))), ?_⟩
  have first : ∀ {m : Maze} {r : Int}, EvA K (tCons (tOp (rIxT K) (tVar 0) (tC (.int 0))) (tCons (tVar 1) tNil)) [.dat (mazeD m), .dat (.int r)] [.int m.n, .int r] := fun {m r} => ea_cons (ev_ixT (ds := [.int m.n, .list (m.ds.map doorD), .list (m.ks.map keyD)]) (ev_var rfl) (ev_c rfl) rfl) (ea_cons (ev_var rfl) ea_nil)
  rcases hh with ⟨d, ⟨m, r, ⟨hk, hr0⟩, rfl, rfl⟩, q⟩ | ⟨c, ⟨m, r, hr0, rfl, rfl⟩, q⟩
  · refine Pf.run (X := fun cls d _ H => E cls d H) (oc := .rt (handD (keysIn m.ks r))) sm dv rfl ?_ q
    refine sx_seq (sx_drop (ev_callX first ⟨m.n, r, hr0, rfl, rfl⟩)) ?_
    exact sx_ret (ev_call (ea_cons (ev_var rfl) (ea_cons (ev_lst (ds := [.int r]) (ea_cons (ev_var rfl) ea_nil) (Nat.le_of_ble_eq_true rfl)) ea_nil)) ⟨m, [r], hk, rfl, by rw [keysAmong_one]⟩)
  · refine Pf.run (X := fun cls d _ H => E cls d H) (oc := .ex (.ref A.c_NoRoom) [.dat (mazeD m), .dat (.int r)]) sm dv rfl ?_ (fun σ G H2 f _ _ => q G H2 f)
    exact sx_end (sx_outD (evx_call first ⟨m.n, r, hr0, rfl, rfl⟩)) rfl

/-! taken -/
def R_taken (ds : List PyData) (d : PyData) : Prop := ∃ (m : Maze) (r : Int) (held : List Int), (okKeys m.ks ∧ held.length ≤ 50 ∧ inRoom m.n r) ∧ ds = [mazeD m, .int r, handD held] ∧ d = handD (taken m.ks r held)
def B_taken (A : Ad) (ds : List PyData) (c : Value) : Prop := ∃ (m : Maze) (r : Int) (held : List Int), ¬ inRoom m.n r ∧ ds = [mazeD m, .int r, handD held] ∧ c = .ref A.c_NoRoom
theorem ok_taken (T : Txt K mg A) : FnOk P w K mg base (L2.CX P w) 3 A.a_taken A.d_taken ["maze", "room", "held"] (spX K R_taken (B_taken A)) := by
  refine T.f_taken.okX sc_taken (fun vs H Q E h => ?_) (fun cdv Ar outer s H vs Q E hr h => ?_)
  · obtain ⟨H0, ds, sm, dv, ⟨d, ⟨m, r, held, _, rfl, _⟩, _⟩ | ⟨c, ⟨m, r, held, _, rfl, _⟩, _⟩⟩ := h <;> exact dpa_len dv
  obtain ⟨H0, ds, sm, dv, hh⟩ := h
  refine ⟨_, (pss_one (ps_ret (pe_callTy call_tuple_of (by rfl) T.u_tuple (by decide +kernel) (pa_cons (pe_callB (cr_sortedSet rfl) (by rfl) T.u_sorted (by decide +kernel) (pa_cons (pe_callTy (cr_setT rfl) (by rfl) T.u_set (by decide +kernel) (pa_cons (pe_op (r := rCatA K) (by exact op_catA) (pv 2) (pe_callS (ok_keys_in T) (hr.mono (by decide)) rfl T.g_keys_in T.f_keys_in.kp (b_keys_in T) (fun σ => passAt (takes_of rfl rfl rfl rfl) σ) (pa_cons (pv 0) (pa_cons (pv 1) pa_nil)))) pa_nil)) pa_nil)) pa_nil)))), ?_⟩
  rcases hh with ⟨d, ⟨m, r, held, ⟨hk, hh, hr0⟩, rfl, rfl⟩, q⟩ | ⟨c, ⟨m, r, held, hr0, rfl, rfl⟩, q⟩
  · refine Pf.run (X := fun cls d _ H => E cls d H) (oc := .rt (handD (taken m.ks r held))) sm dv rfl ?_ q
    have hl := keysIn_len hk (r := r)
    refine sx_ret (ev_tuple (EvO.l (eo_sortedS (L := taken m.ks r held) (es_setT (ns := held ++ keysIn m.ks r) ((ev_catT (ev_var rfl) (ev_callX (ea_cons (ev_var rfl) (ea_cons (ev_var rfl) ea_nil)) ⟨m, r, ⟨hk.1, hr0⟩, rfl, rfl⟩) ?_).is ?_) ?_) ?_ (rise_up _) fun k => ?_)))
    · rw [List.length_map, List.length_map]; omega
    · rw [List.map_append]
    · rw [List.length_append]; omega
    · rw [List.length_append]; omega
    · rw [decide_eq_true_eq]; exact rise_mem
  · refine Pf.run (X := fun cls d _ H => E cls d H) (oc := .ex (.ref A.c_NoRoom) [.dat (mazeD m), .dat (.int r), .dat (handD held)]) sm dv rfl ?_ (fun σ G H2 f _ _ => q G H2 f)
    exact sx_outR (evx_cb (evx_head (evx_cb (evx_head (evx_cb (evx_head (evx_op2 (ev_var rfl) (evx_call (ea_cons (ev_var rfl) (ea_cons (ev_var rfl) ea_nil)) ⟨m, r, hr0, rfl, rfl⟩))))))))

/-! a draw by a cell -/
def mix (c k : Int) : Int := ((c + 7919 * k + 1) * 48271 % 1000003) * ((c + 7919 * k + 1) * 48271 % 1000003) % 999983
theorem mix_nn (c k : Int) : 0 ≤ mix c k := Int.emod_nonneg _ (by decide)
theorem mix_lt (c k : Int) : mix c k < 999983 := Int.emod_lt_of_pos _ (by decide)
def R_mix (ds : List PyData) (d : PyData) : Prop := ∃ c k : Int, ds = [.int c, .int k] ∧ d = .int (mix c k)
theorem ok_l_mix (T : Txt K mg A) : FnOk P w K mg base CX0 1 A.a_l_mix A.d_l_mix ["_law_cell", "_law_k"] (spG K R_mix) := by
  refine T.f_l_mix.ok sc_l_mix (fun vs H Q E h => ?_) (fun cdv Ar outer s H vs Q E hr h => ?_)
  · obtain ⟨H0, ds, d, sm, dv, ⟨c, k, rfl, _⟩, _⟩ := h; exact dpa_len dv
  obtain ⟨H0, ds, d, sm, dv, ⟨c, k, rfl, rfl⟩, q⟩ := h
  refine ⟨_, (pss_cons (ps_set (i := 2) sc_l_mix.nd rfl (.inl rfl) (pe_op op_mod (pe_op op_mul (pe_op op_add (pe_op op_add (pv 0) (pe_op op_mul pe_int (pv 1))) pe_int) pe_int) pe_int))
      (pss_one (ps_ret (pe_op op_mod (pe_op op_mul (pv 2) (pv 2)) pe_int)))), ?_⟩
  refine Pf.run (X := fun _ _ _ _ => False) (oc := .rt (.int (mix c k))) sm dv rfl ?_ q
  refine sx_seq (sx_set (d := .int ((c + 7919 * k + 1) * 48271 % 1000003)) ?_) (sx_ret ?_)
  · walk_at "ev"
    decide
  · have h1 : 0 ≤ (c + 7919 * k + 1) * 48271 % 1000003 := Int.emod_nonneg _ (by decide)
    have h2 : (c + 7919 * k + 1) * 48271 % 1000003 < 1000003 := Int.emod_lt_of_pos _ (by decide)
    unfold mix
    generalize (c + 7919 * k + 1) * 48271 % 1000003 = z at h1 h2
    walk_at "ev"
    · exact cm1 ⟨by omega, by omega⟩
    · decide

/-! whether it is a whole number: asked of whole numbers -/
def R_whole (ds : List PyData) (d : PyData) : Prop := ∃ i : Int, ds = [.int i] ∧ d = .bool true
theorem ok_l_whole (T : Txt K mg A) : FnOk P w K mg base CX0 1 A.a_l_whole A.d_l_whole ["_law_found"] (spG K R_whole) := by
  refine T.f_l_whole.ok sc_l_whole (fun vs H Q E h => ?_) (fun cdv Ar outer s H vs Q E hr h => ?_)
  · obtain ⟨H0, ds, d, sm, dv, ⟨i, rfl, _⟩, _⟩ := h; exact dpa_len dv
  obtain ⟨H0, ds, d, sm, dv, ⟨i, rfl, rfl⟩, q⟩ := h
  refine ⟨_, (pss_one (ps_ret (pe_and (pe_callB (r := rIsi K) (by exact call_isi) (by rfl) T.u_isinstance (by decide +kernel) (pa_cons (pv 0) (pa_cons (pe_bltn (v := .ty "int") (by rfl) T.u_int (by decide +kernel) rfl) pa_nil))) (pe_one (pe_not (pe_callB (r := rIsi K) (by exact call_isi) (by rfl) T.u_isinstance (by decide +kernel) (pa_cons (pv 0) (pa_cons (pe_bltn (v := .ty "bool") (by rfl) T.u_bool (by decide +kernel) rfl) pa_nil)))))))), ?_⟩
  refine Pf.run (X := fun _ _ _ _ => False) (oc := .rt (.bool true)) sm dv rfl ?_ q
  exact sx_ret (ev_andV (a := true) (b := true) (ev_isi (ev_var rfl) (kit_ty (by decide +kernel))) fun _ => ev_notV (a := false) (ev_isi (ev_var rfl) (kit_ty (by decide +kernel))))

/-! a cell of the script, nought beyond its end -/
def cellAt (ns : List Int) (k : Int) : Int := if k < ns.length then ns.getD k.toNat 0 else 0
def R_cell (ds : List PyData) (d : PyData) : Prop := ∃ (ns : List Int) (k : Int), 0 ≤ k ∧ ds = [.list (ns.map .int), .int k] ∧ d = .int (cellAt ns k)
theorem getD_get {ns : List Int} {i : Nat} (h : i < ns.length) : ns[i]? = some (ns.getD i 0) := by
  rw [List.getD_eq_getElem?_getD, List.getElem?_eq_getElem h]; rfl
theorem ok_l_cell_at (T : Txt K mg A) : FnOk P w K mg base CX0 1 A.a_l_cell_at A.d_l_cell_at ["_law_script", "_law_k"] (spG K R_cell) := by
  refine T.f_l_cell_at.ok sc_l_cell_at (fun vs H Q E h => ?_) (fun cdv Ar outer s H vs Q E hr h => ?_)
  · obtain ⟨H0, ds, d, sm, dv, ⟨ns, k, _, rfl, _⟩, _⟩ := h; exact dpa_len dv
  obtain ⟨H0, ds, d, sm, dv, ⟨ns, k, hk, rfl, rfl⟩, q⟩ := h
  refine ⟨_, (pss_cons (ps_if (pt_cmpR op_lt (pv 1) (pe_callB call_len_seq (by rfl) T.u_len (by decide +kernel) (pa_cons (pv 0) pa_nil)) (nomark _)) (pss_one (ps_ret (pe_ix (r := rIxL K) (by exact ix_list) (pv 0) (pv 1) (fun _ _ => rfl)))) pss_nil)
      (pss_one (ps_ret pe_int))), ?_⟩
  refine Pf.run (X := fun _ _ _ _ => False) (oc := .rt (.int (cellAt ns k))) sm dv rfl ?_ q
  have e : EvT K (tTest (tOp (rI0 fun i j => V.bl (decide (i < j))) (tVar 1) (tCB (fun xs H Q => ∃ p ys, xs = [.ref p] ∧ (SqL K H p ys ∨ SqT K H p ys) ∧ Q (.int ys.length) H) (tCons (tVar 0) tNil)))) [.dat (.list (ns.map .int)), .dat (.int k)] (decide (k < ns.length)) :=
    et_test (ev_I0 (ev_var rfl) (ev_len (ev_var rfl)) (by rw [List.length_map]; rfl))
  unfold cellAt
  by_cases c : k < ns.length
  · rw [if_pos c]
    rw [decide_eq_true c] at e
    refine sx_end (sx_yes e (sx_ret (ev_ixL (ev_var rfl) (ev_var rfl) (atI_int hk ?_)))) rfl
    rw [List.getElem?_map, getD_get (by omega)]; rfl
  · rw [if_neg c]
    rw [decide_eq_false c] at e
    exact sx_seq (sx_no e sx_next) (sx_ret (ev_c rfl))

/-! keys in hand against those that are due -/
theorem sh_hand (l : List Int) : Sh 1 (handD l) := sh_tup (sh_map fun _ _ => sh_int)
theorem hand_inj {a b : List Int} : a = b ↔ handD a = handD b := ⟨congrArg handD, fun h => map_inj (fun _ _ e => PyData.int.inj e) (PyData.tuple.inj h)⟩
def R_hand (ds : List PyData) (d : PyData) : Prop := ∃ f u : List Int, ds = [handD f, handD u] ∧ d = .bool (decide (f = u))
theorem ok_l_hand (T : Txt K mg A) : FnOk P w K mg base CX0 2 A.a_l_hand A.d_l_hand ["_law_found", "_law_due_here"] (spG K R_hand) := by
  refine T.f_l_hand.ok sc_l_hand (fun vs H Q E h => ?_) (fun cdv Ar outer s H vs Q E hr h => ?_)
  · obtain ⟨H0, ds, d, sm, dv, ⟨f, u, rfl, _⟩, _⟩ := h; exact dpa_len dv
  obtain ⟨H0, ds, d, sm, dv, ⟨f, u, rfl, rfl⟩, q⟩ := h
  refine ⟨_, (pss_cons (ps_if (PW.pt (pw_or (pt_not (pt_val (pe_callB (r := rIsi K) (by exact call_isi) (by rfl) T.u_isinstance (by decide +kernel) (pa_cons (pv 0) (pa_cons (pe_bltn (v := .ty "tuple") (by rfl) T.u_tuple (by decide +kernel) rfl) pa_nil))))) (pw_or1 (pt_cmpR op_ne (pe_callB call_len_seq (by rfl) T.u_len (by decide +kernel) (pa_cons (pv 0) pa_nil)) (pe_callB call_len_seq (by rfl) T.u_len (by decide +kernel) (pa_cons (pv 1) pa_nil)) (nomark _))))) (pss_one (ps_ret pe_bl)) pss_nil)
      (pss_cons (ps_for PassesOwn.never rfl (pi_tup (pv 0)) (pg_name (i := 2) sc_l_hand.nd rfl (Or.inl rfl))
        (pss_one (ps_if (pt_not (pt_val (pe_callS (E := fun _ => E0) (ok_l_whole T) (hr.mono (by decide)) rfl T.g_l_whole T.f_l_whole.kp (b_l_whole T) (fun σ => pass0S) (pa_cons (pv 2) pa_nil)))) (pss_one (ps_ret pe_bl)) pss_nil)))
      (pss_one (ps_ret (pe_cmpR (r := rEqD K) (by exact (op_eqD hr.units)) (pv 0) (pv 1) (nomark _)))))), ?_⟩
  refine Pf.run (X := fun _ _ _ _ => False) (oc := .rt (.bool (decide (f = u)))) sm dv rfl ?_ q
  have e : EvT K _ [.dat (handD f), .dat (handD u), .no] (!true || !decide ((f.length : Int) = u.length)) := et_or (et_not (et_B (ev_isi (n := "tuple") (ev_var (i := 0) rfl) (kit_ty (by decide +kernel))))) fun _ => et_test (ev_neI (ev_lenT (ev_var (i := 0) rfl)) (ev_lenT (ev_var (i := 1) rfl))) |>.is (by rw [List.length_map, List.length_map])
  by_cases c : (f.length : Int) = u.length
  · rw [decide_eq_true c] at e
    refine sx_seq (sx_no e sx_next) ?_
    refine sx_seq (sx_forT (ds := f.map .int) (ev_var rfl) (fun i => [.dat (handD f), .dat (handD u), if i = 0 then .no else .dat (.int (f.getD (i - 1) 0))]) rfl fun i d hi => ?_) (sx_ret ?_)
    · rw [List.getElem?_map] at hi
      cases ei : f[i]? with
      | none => rw [ei] at hi; cases hi
      | some z =>
        rw [ei] at hi
        obtain rfl := Option.some.inj hi
        refine ⟨_, tg_name, .inl (sx_no (EvT.is (et_not (et_B (ev_call (ea_cons (ev_var rfl) ea_nil) ⟨z, rfl, rfl⟩))) rfl) ?_)⟩
        have ez : f.getD i 0 = z := by rw [List.getD_eq_getElem?_getD, ei]; rfl
        refine (sx_next).to ?_
        rw [if_neg (Nat.succ_ne_zero i), Nat.add_sub_cancel, ez]; rfl
    · exact (ev_eqD (ev_var rfl) (ev_var rfl) ((sh_hand f).shaped (by decide)) ((sh_hand u).shaped (by decide))).is (by rw [eqv_dec (sh_hand f) (sh_hand u) hand_inj])
  · rw [decide_eq_false c] at e
    refine (sx_end (sx_yes e (sx_ret (ev_c rfl))) rfl).to ?_
    rw [decide_eq_false fun z => c (by rw [z])]

/-! a room that there is not -/
def pow30 : Int := 10 ^ (30 : Int).toNat
def absI (i : Int) : Int := if i < 0 then -i else i
def farC (c n : Int) : Int := [-1, n, -1 - absI c % pow30, n + absI c % pow30].getD (c / 12 % 4).toNat 0
theorem far_of {n z : Int} (h0 : 0 < n) (h1 : 0 ≤ z) {i : Int} (i0 : 0 ≤ i) (i1 : i < 4) : ¬ inRoom n ([-1, n, -1 - z, n + z].getD i.toNat 0) := by
  unfold inRoom
  have : i = 0 ∨ i = 1 ∨ i = 2 ∨ i = 3 := by omega
  rcases this with rfl | rfl | rfl | rfl
  · show ¬ (0 ≤ (-1 : Int) ∧ (-1 : Int) < _); omega
  · show ¬ (0 ≤ n ∧ n < n); omega
  · show ¬ (0 ≤ -1 - z ∧ -1 - z < n); omega
  · show ¬ (0 ≤ n + z ∧ n + z < n); omega
theorem farC_bad {c n : Int} (h0 : 0 < n) : ¬ inRoom n (farC c n) := far_of h0 (Int.emod_nonneg _ (by decide)) (Int.emod_nonneg _ (by decide)) (Int.emod_lt_of_pos _ (by decide))
def R_far (ds : List PyData) (d : PyData) : Prop := ∃ c n : Int, ds = [.int c, .int n] ∧ d = .int (farC c n)
theorem ok_l_far (T : Txt K mg A) : FnOk P w K mg base CX0 1 A.a_l_far A.d_l_far ["_law_cell", "_law_size_here"] (spG K R_far) := by
  refine T.f_l_far.ok sc_l_far (fun vs H Q E h => ?_) (fun cdv Ar outer s H vs Q E hr h => ?_)
  · obtain ⟨H0, ds, d, sm, dv, ⟨c, n, rfl, _⟩, _⟩ := h; exact dpa_len dv
  obtain ⟨H0, ds, d, sm, dv, ⟨c, n, rfl, rfl⟩, q⟩ := h
  refine ⟨_, (pss_one (ps_ret (pe_ix (r := rIxL K) (by exact ix_list) (pe_lst (pa_cons (pe_un un_neg pe_int) (pa_cons (pv 1) (pa_cons (pe_op op_sub (pe_un un_neg pe_int) (pe_op op_mod (pe_callB call_abs (by rfl) T.u_abs (by decide +kernel) (pa_cons (pv 0) pa_nil)) (pe_op op_pow pe_int pe_int))) (pa_cons (pe_op op_add (pv 1) (pe_op op_mod (pe_callB call_abs (by rfl) T.u_abs (by decide +kernel) (pa_cons (pv 0) pa_nil)) (pe_op op_pow pe_int pe_int))) pa_nil))))) (pe_op op_mod (pe_op op_fdiv (pv 0) pe_int) pe_int) (fun _ _ => rfl)))), ?_⟩
  refine Pf.run (X := fun _ _ _ _ => False) (oc := .rt (.int (farC c n))) sm dv rfl ?_ q
  refine sx_ret (ev_ixL (ev_lst (ds := [-1, n, -1 - absI c % pow30, n + absI c % pow30].map .int) ?_ (Nat.le_of_ble_eq_true rfl)) (ev_I (ev_I (ev_var rfl) (ev_c rfl) ⟨by decide, by decide⟩ rfl) (ev_c rfl) (by decide) rfl) (atI_map 0 (Int.emod_nonneg _ (by decide)) (Int.emod_lt_of_pos _ (by decide))))
  exact ea_cons (ev_U (ev_c rfl) rfl) (ea_cons (ev_var rfl) (ea_cons (ev_I0 (ev_U (ev_c rfl) rfl) (ev_I (ev_abs (ev_var rfl)) (ev_I (ev_c rfl) (ev_c rfl) ⟨by decide, by decide, by decide⟩ rfl) (by decide) rfl) rfl) (ea_cons (ev_I0 (ev_var rfl) (ev_I (ev_abs (ev_var rfl)) (ev_I (ev_c rfl) (ev_c rfl) ⟨by decide, by decide, by decide⟩ rfl) (by decide) rfl) rfl) ea_nil)))

/-! the maze that is built: its size -/
/-- what is known of the size by the first cell -/
def sizeOk (f n : Int) : Prop := (1 ≤ n ∧ n ≤ 60) ∧ ((f % 12 = 6 ∨ f % 12 = 8) → n = 11 ∨ n = 17 ∨ n = 23) ∧ (f % 12 = 10 → 20 ≤ n) ∧ (f % 12 = 5 → 8 ≤ n) ∧ (f % 12 = 3 → n ≤ 6)
def R_size (ds : List PyData) (d : PyData) : Prop := ∃ (ns : List Int) (n : Int), ds = [.list (ns.map .int)] ∧ sizeOk (cellAt ns 0) n ∧ d = .int n
def I_size (ds : List PyData) : Prop := ∃ ns : List Int, ds = [.list (ns.map .int)]
theorem ok_l_size (T : Txt K mg A) : FnOk P w K mg base CX0 2 A.a_l_size A.d_l_size ["_law_script"] (spN K R_size I_size) := by
  refine T.f_l_size.ok sc_l_size (fun vs H Q E h => ?_) (fun cdv Ar outer s H vs Q E hr h => ?_)
  · obtain ⟨H0, ds, sm, dv, ⟨ns, rfl⟩, _⟩ := h; exact dpa_len dv
  obtain ⟨H0, ds, sm, dv, ⟨ns, rfl⟩, q⟩ := h
  refine ⟨_, (pss_cons (ps_set (i := 1) sc_l_size.nd rfl (.inl rfl) (pe_callS (E := fun _ => E0) (ok_l_cell_at T) (hr.mono (by decide)) rfl T.g_l_cell_at T.f_l_cell_at.kp (b_l_cell_at T) (fun σ => pass0S) (pa_cons (pv 0) (pa_cons pe_int pa_nil))))
      (pss_cons (ps_set (i := 2) sc_l_size.nd rfl (.inl rfl) (pe_callS (E := fun _ => E0) (ok_l_mix T) (hr.mono (by decide)) rfl T.g_l_mix T.f_l_mix.kp (b_l_mix T) (fun σ => pass0S) (pa_cons (pv 1) (pa_cons pe_int pa_nil))))
      (pss_cons (ps_if (pt_cmpR op_eq (pe_op op_mod (pv 1) pe_int) pe_int (nomark _)) (pss_one (ps_ret (pe_op op_add pe_int (pe_op op_mod (pv 2) pe_int)))) pss_nil)
      (pss_cons (ps_if (pt_cmpR op_eq (pe_op op_mod (pv 1) pe_int) pe_int (nomark _)) (pss_one (ps_ret (pe_op op_add pe_int (pe_op op_mod (pv 2) pe_int)))) pss_nil)
      (pss_cons (ps_if (pt_cmpR op_eq (pe_op op_mod (pv 1) pe_int) pe_int (nomark _)) (pss_one (ps_ret (pe_op op_add pe_int (pe_op op_mod (pv 2) pe_int)))) pss_nil)
      (pss_cons (ps_if (pt_cmpR op_eq (pe_op op_mod (pv 1) pe_int) pe_int (nomark _)) (pss_one (ps_ret (pe_op op_add pe_int (pe_op op_mod (pv 2) pe_int)))) pss_nil)
      (pss_cons (ps_if (pt_cmpR op_eq (pe_op op_mod (pv 1) pe_int) pe_int (nomark _)) (pss_one (ps_ret (pe_op op_add pe_int (pe_op op_mod (pv 2) pe_int)))) pss_nil)
      (pss_cons (ps_if (pt_cmpR (r := rIn K false) (by exact op_in_seq) (pe_op op_mod (pv 1) pe_int) (pe_tup (pa_cons pe_int (pa_cons pe_int pa_nil))) (by rfl)) (pss_one (ps_ret (pe_ix (r := rIxL K) (by exact ix_list) (pe_lst (pa_cons pe_int (pa_cons pe_int (pa_cons pe_int pa_nil)))) (pe_op op_mod (pv 2) pe_int) (fun _ _ => rfl)))) pss_nil)
      (pss_cons (ps_set (i := 3) sc_l_size.nd rfl (.inl rfl) (pe_lst (pa_cons pe_int (pa_cons pe_int (pa_cons pe_int (pa_cons pe_int (pa_cons pe_int (pa_cons pe_int pa_nil))))))))
      (pss_one (ps_ret (pe_op op_add (pe_op op_add pe_int (pe_op op_mod (pv 2) (pe_ix (r := rIxL K) (by exact ix_list) (pv 3) (pe_op op_mod (pv 1) pe_int) (fun _ _ => rfl)))) (pe_callTy call_int1 (by rfl) T.u_int (by decide +kernel) (pa_cons (pe_cmpR (r := rIn K false) (by exact op_in_seq) (pe_op op_mod (pv 1) pe_int) (pe_tup (pa_cons pe_int (pa_cons pe_int pa_nil))) (by rfl)) pa_nil)))))))))))))), ?_⟩
  refine Pf.runN (X := fun _ _ _ _ => False) (P := fun oc => ∃ d, R_size [.list (ns.map .int)] d ∧ oc = .rt d) sm dv rfl ?_ (fun oc ⟨d, r, e⟩ => by subst e; exact q d r)
  have fin : ∀ oc : Oc, (∃ d, R_size [.list (ns.map .int)] d ∧ oc = .rt d) → oc.isNx = false := fun oc ⟨d, _, e⟩ => by rw [e]; rfl
  have m0 := mix_nn (cellAt ns 0) 0
  refine sn_seq1 (sx_set (ev_call (ea_cons (ev_var rfl) (ea_cons (ev_c rfl) ea_nil)) ⟨ns, 0, by decide, rfl, rfl⟩)) ?_
  refine sn_seq1 (sx_set (ev_call (ea_cons (ev_var rfl) (ea_cons (ev_c rfl) ea_nil)) ⟨cellAt ns 0, 0, rfl, rfl⟩)) ?_
  generalize hf : cellAt ns 0 = f at m0
  generalize mix f 0 = z at m0
  have eq : ∀ c : Int, EvT K (tTest (tOp rEq (tOp (rI (fun _ j => 0 < j) fun i j => V.int (i % j)) (tVar 1) (tC (.int 12))) (tC (.int c)))) [.dat (.list (ns.map .int)), .dat (.int f), .dat (.int z), .no] (decide (f % 12 = c)) := fun c => by
    walk_at "ev"; decide
  have add : ∀ a b : Int, 0 < b → Ev K (tOp (rI0 fun i j => V.int (i + j)) (tC (.int a)) (tOp (rI (fun _ j => 0 < j) fun i j => V.int (i % j)) (tVar 2) (tC (.int b)))) [.dat (.list (ns.map .int)), .dat (.int f), .dat (.int z), .no] (.int (a + z % b)) := fun a b hb => by
    walk_at "ev"; exact hb
  have cases6 : f % 12 = 4 ∨ f % 12 = 10 ∨ f % 12 = 7 ∨ f % 12 = 5 ∨ f % 12 = 9 ∨ f % 12 = 6 ∨ f % 12 = 8 ∨ f % 12 = 0 ∨ f % 12 = 1 ∨ f % 12 = 2 ∨ f % 12 = 3 ∨ f % 12 = 11 := by omega
  refine sn_when (eq 4) (fun c => sn_ret (add 40 21 (by decide)) ⟨_, ⟨ns, _, rfl, ?_, rfl⟩, rfl⟩) fin (fun c4 => ?_)
  · rw [hf]; unfold sizeOk; have := of_decide_eq_true c; omega
  refine sn_when (eq 10) (fun c => sn_ret (add 20 21 (by decide)) ⟨_, ⟨ns, _, rfl, ?_, rfl⟩, rfl⟩) fin (fun c10 => ?_)
  · rw [hf]; unfold sizeOk; have := of_decide_eq_true c; omega
  refine sn_when (eq 7) (fun c => sn_ret (add 12 9 (by decide)) ⟨_, ⟨ns, _, rfl, ?_, rfl⟩, rfl⟩) fin (fun c7 => ?_)
  · rw [hf]; unfold sizeOk; have := of_decide_eq_true c; omega
  refine sn_when (eq 5) (fun c => sn_ret (add 8 7 (by decide)) ⟨_, ⟨ns, _, rfl, ?_, rfl⟩, rfl⟩) fin (fun c5 => ?_)
  · rw [hf]; unfold sizeOk; have := of_decide_eq_true c; omega
  refine sn_when (eq 9) (fun c => sn_ret (add 15 16 (by decide)) ⟨_, ⟨ns, _, rfl, ?_, rfl⟩, rfl⟩) fin (fun c9 => ?_)
  · rw [hf]; unfold sizeOk; have := of_decide_eq_true c; omega
  refine sn_when (b := decide (f % 12 = 6 ∨ f % 12 = 8)) (EvT.is (b := [PyData.int 6, .int 8].any fun z => eqF z (.int (f % 12))) ?_ (any2 _ _ _)) (fun c => sn_ret (d := .int ([11, 17, 23].getD (z % 3).toNat 0)) (ev_ixL (ds := [.int 11, .int 17, .int 23]) (i := z % 3) ?_ ?_ (atI_map (f := PyData.int) (l := [11, 17, 23]) 0 (by omega) (by show z % 3 < 3; omega))) ⟨_, ⟨ns, _, rfl, ?_, rfl⟩, rfl⟩) fin (fun c68 => ?_)
  · walk_at "ev"; decide
  · walk_at "ev"
  · walk_at "ev"; decide
  · rw [hf]
    have h68 := of_decide_eq_true c
    have : z % 3 = 0 ∨ z % 3 = 1 ∨ z % 3 = 2 := by omega
    unfold sizeOk
    rcases this with h | h | h <;> rw [h]
    · show (1 ≤ (11 : Int) ∧ (11 : Int) ≤ 60) ∧ (_ → (11 : Int) = 11 ∨ _) ∧ (_ → 20 ≤ (11 : Int)) ∧ (_ → 8 ≤ (11 : Int)) ∧ (_ → (11 : Int) ≤ 6); omega
    · show (1 ≤ (17 : Int) ∧ (17 : Int) ≤ 60) ∧ (_ → (17 : Int) = 11 ∨ (17 : Int) = 17 ∨ _) ∧ (_ → 20 ≤ (17 : Int)) ∧ (_ → 8 ≤ (17 : Int)) ∧ (_ → (17 : Int) ≤ 6); omega
    · show (1 ≤ (23 : Int) ∧ (23 : Int) ≤ 60) ∧ (_ → (23 : Int) = 11 ∨ (23 : Int) = 17 ∨ (23 : Int) = 23) ∧ (_ → 20 ≤ (23 : Int)) ∧ (_ → 8 ≤ (23 : Int)) ∧ (_ → (23 : Int) ≤ 6); omega
  have d4 := of_decide_eq_false c4
  have d10 := of_decide_eq_false c10
  have d7 := of_decide_eq_false c7
  have d5 := of_decide_eq_false c5
  have d9 := of_decide_eq_false c9
  have d68 := of_decide_eq_false c68
  refine sn_seq1 (sx_set (d := .list [.int 7, .int 60, .int 30, .int 5, .int 1, .int 7]) (by walk_at "ev")) ?_
  have some_ok : 0 < [7, 60, 30, 5, 1, 7].getD (f % 6).toNat (1 : Int) := by
    have : f % 6 = 0 ∨ f % 6 = 1 ∨ f % 6 = 2 ∨ f % 6 = 3 ∨ f % 6 = 4 ∨ f % 6 = 5 := by omega
    rcases this with h | h | h | h | h | h <;> rw [h] <;> decide
  refine sn_ret (d := .int (1 + z % [7, 60, 30, 5, 1, 7].getD (f % 6).toNat (1 : Int) + (if decide (f % 6 = 2 ∨ f % 6 = 3) = true then 1 else 0))) (ev_I0 (ev_I0 (ev_c rfl) (ev_I (ev_var rfl) (ev_ixL (ds := [.int 7, .int 60, .int 30, .int 5, .int 1, .int 7]) (i := f % 6) (ev_var rfl) ?_ (atI_map (f := PyData.int) (l := [7, 60, 30, 5, 1, 7]) 1 (by omega) (by show f % 6 < 6; omega))) some_ok rfl) rfl) (ev_intb (Ev.is (d := .bool ([PyData.int 2, .int 3].any fun z => eqF z (.int (f % 6)))) ?_ (by rw [any2]))) rfl) ⟨_, ⟨ns, _, rfl, ?_, rfl⟩, rfl⟩
  · walk_at "ev"; decide
  · walk_at "ev"; decide
  · rw [hf]
    unfold sizeOk
    have : f % 6 = 0 ∨ f % 6 = 1 ∨ f % 6 = 2 ∨ f % 6 = 3 ∨ f % 6 = 5 := by omega
    rcases this with h | h | h | h | h <;> rw [h]
    · have e : (if decide ((0 : Int) = 2 ∨ (0 : Int) = 3) = true then (1 : Int) else 0) = 0 := rfl
      rw [e]
      show (1 ≤ 1 + z % 7 + 0 ∧ 1 + z % 7 + 0 ≤ 60) ∧ (_ → 1 + z % 7 + 0 = 11 ∨ _) ∧ (_ → 20 ≤ 1 + z % 7 + 0) ∧ (_ → 8 ≤ 1 + z % 7 + 0) ∧ (_ → 1 + z % 7 + 0 ≤ 6); omega
    · have e : (if decide ((1 : Int) = 2 ∨ (1 : Int) = 3) = true then (1 : Int) else 0) = 0 := rfl
      rw [e]
      show (1 ≤ 1 + z % 60 + 0 ∧ 1 + z % 60 + 0 ≤ 60) ∧ (_ → 1 + z % 60 + 0 = 11 ∨ _) ∧ (_ → 20 ≤ 1 + z % 60 + 0) ∧ (_ → 8 ≤ 1 + z % 60 + 0) ∧ (_ → 1 + z % 60 + 0 ≤ 6); omega
    · have e : (if decide ((2 : Int) = 2 ∨ (2 : Int) = 3) = true then (1 : Int) else 0) = 1 := rfl
      rw [e]
      show (1 ≤ 1 + z % 30 + 1 ∧ 1 + z % 30 + 1 ≤ 60) ∧ (_ → 1 + z % 30 + 1 = 11 ∨ _) ∧ (_ → 20 ≤ 1 + z % 30 + 1) ∧ (_ → 8 ≤ 1 + z % 30 + 1) ∧ (_ → 1 + z % 30 + 1 ≤ 6); omega
    · have e : (if decide ((3 : Int) = 2 ∨ (3 : Int) = 3) = true then (1 : Int) else 0) = 1 := rfl
      rw [e]
      show (1 ≤ 1 + z % 5 + 1 ∧ 1 + z % 5 + 1 ≤ 60) ∧ (_ → 1 + z % 5 + 1 = 11 ∨ _) ∧ (_ → 20 ≤ 1 + z % 5 + 1) ∧ (_ → 8 ≤ 1 + z % 5 + 1) ∧ (_ → 1 + z % 5 + 1 ≤ 6); omega
    · have e : (if decide ((5 : Int) = 2 ∨ (5 : Int) = 3) = true then (1 : Int) else 0) = 0 := rfl
      rw [e]
      show (1 ≤ 1 + z % 7 + 0 ∧ 1 + z % 7 + 0 ≤ 60) ∧ (_ → 1 + z % 7 + 0 = 11 ∨ _) ∧ (_ → 20 ≤ 1 + z % 7 + 0) ∧ (_ → 8 ≤ 1 + z % 7 + 0) ∧ (_ → 1 + z % 7 + 0 ≤ 6); omega

/-! the maze that is built: its doors -/
def okLock (l : Option Int) : Prop := ∀ k, l = some k → 0 ≤ k ∧ k < 5
def okDoor (n : Int) (d : Door) : Prop := inRoom n d.1 ∧ inRoom n d.2.1 ∧ okLock d.2.2
def okDoors (n : Int) (L : List Door) : Prop := L.length ≤ 600 ∧ ∀ d ∈ L, okDoor n d
theorem okLock_none : okLock none := fun _ h => nomatch h
theorem okLock_some {k : Int} (h : 0 ≤ k ∧ k < 5) : okLock (some k) := fun j e => by cases e; exact h
theorem okLock_all {l : List (Option Int)} (h : l.all (fun o => match o with | none => true | some k => decide (0 ≤ k) && decide (k < 5)) = true) (i : Nat) : okLock (l.getD i none) := by
  rw [List.getD_eq_getElem?_getD]
  cases e : l[i]? with
  | none => exact okLock_none
  | some o =>
    have := List.all_eq_true.mp h o (List.mem_of_getElem? e)
    show okLock o
    cases o with
    | none => exact okLock_none
    | some k =>
      simp only [Bool.and_eq_true, decide_eq_true_eq] at this
      exact okLock_some this
theorem room_mod {n x : Int} (h : 0 < n) : inRoom n (x % n) := ⟨Int.emod_nonneg _ (by omega), Int.emod_lt_of_pos _ h⟩
/-- some doors that are right, at most m -/
def Some (n : Int) (m : Nat) (L : List Door) : Prop := L.length ≤ m ∧ ∀ d ∈ L, okDoor n d
theorem Some.nil {n : Int} {m : Nat} : Some n m [] := ⟨Nat.zero_le _, fun _ h => nomatch h⟩
theorem Some.add {n : Int} {m : Nat} {L : List Door} {d : Door} (h : Some n m L) (k : okDoor n d) : Some n (m + 1) (L ++ [d]) := by
  refine ⟨by rw [List.length_append]; exact Nat.add_le_add_right h.1 1, fun x hx => ?_⟩
  rcases List.mem_append.mp hx with z | z
  · exact h.2 x z
  · rw [List.mem_singleton.mp z]; exact k
theorem Some.le {n : Int} {m m' : Nat} {L : List Door} (h : Some n m L) (k : m ≤ m') : Some n m' L := ⟨Nat.le_trans h.1 k, h.2⟩
theorem Some.map {n : Int} {m : Nat} {g : Nat → Door} (h : ∀ k, k < m → okDoor n (g k)) : Some n m ((List.range m).map g) :=
  ⟨by rw [List.length_map, List.length_range]; exact Nat.le_refl _, fun d hd => by
    obtain ⟨k, hk, rfl⟩ := List.mem_map.mp hd
    exact h k (List.mem_range.mp hk)⟩
theorem map_app {L : List Door} {d : Door} : (L ++ [d]).map doorD = L.map doorD ++ [doorD d] := by rw [List.map_append]; rfl
theorem comp_all {g : Nat → Door} {m : Nat} : (((List.range m).filter fun _ => true).map fun k => doorD (g k)) = ((List.range m).map g).map doorD := by
  rw [List.filter_eq_self.mpr (fun _ _ => rfl), List.map_map]; rfl
theorem lkc (h : (none : Option Int) = none) : optD none = .none := rfl
/-! its lock -/
def lockF (n : Int) : Option Int := [none, none, none, some 0, some 1, some 2, some 3, some 4].getD (n % 8).toNat none
theorem lockF_ok (n : Int) : okLock (lockF n) := okLock_all (by decide) _
def R_lock (ds : List PyData) (d : PyData) : Prop := ∃ n : Int, ds = [.int n] ∧ d = optD (lockF n)
theorem ok_l_lock (T : Txt K mg A) : FnOk P w K mg base CX0 1 A.a_l_lock A.d_l_lock ["_law_number"] (spG K R_lock) := by
  refine T.f_l_lock.ok sc_l_lock (fun vs H Q E h => ?_) (fun cdv Ar outer s H vs Q E hr h => ?_)
  · obtain ⟨H0, ds, d, sm, dv, ⟨n, rfl, _⟩, _⟩ := h; exact dpa_len dv
  obtain ⟨H0, ds, d, sm, dv, ⟨n, rfl, rfl⟩, q⟩ := h
  refine ⟨_, (pss_one (ps_ret (pe_ix (r := rIxL K) (by exact ix_list) (pe_lst (pa_cons pe_non (pa_cons pe_non (pa_cons pe_non (pa_cons pe_int (pa_cons pe_int (pa_cons pe_int (pa_cons pe_int (pa_cons pe_int pa_nil))))))))) (pe_op op_mod (pv 0) pe_int) (fun _ _ => rfl)))), ?_⟩
  refine Pf.run (X := fun _ _ _ _ => False) (oc := .rt (optD (lockF n))) sm dv rfl ?_ q
  refine sx_ret (ev_ixL (ds := [.none, .none, .none, .int 0, .int 1, .int 2, .int 3, .int 4]) (i := n % 8) ?_ ?_ (atI_map (f := optD) (l := [none, none, none, some 0, some 1, some 2, some 3, some 4]) none (Int.emod_nonneg _ (by decide)) (Int.emod_lt_of_pos _ (by decide))))
  · walk_at "ev"
  · walk_at "ev"; decide
/-! the rank of a place -/
def rankF (p n : Int) : Int := if p = n - 1 then (n - 2) / 3 + 1 else (p + 2) / 3
theorem rankF_in {p n : Int} (h : 0 ≤ p) (h1 : p < 100000) (h2 : 0 ≤ n) (h3 : n < 100000) : -100000 < rankF p n ∧ rankF p n < 100000 := by
  unfold rankF
  split <;> omega
def R_rank (ds : List PyData) (d : PyData) : Prop := ∃ p n : Int, ds = [.int p, .int n] ∧ d = .int (rankF p n)
theorem ok_l_rank (T : Txt K mg A) : FnOk P w K mg base CX0 1 A.a_l_rank A.d_l_rank ["_law_place", "_law_size_here"] (spG K R_rank) := by
  refine T.f_l_rank.ok sc_l_rank (fun vs H Q E h => ?_) (fun cdv Ar outer s H vs Q E hr h => ?_)
  · obtain ⟨H0, ds, d, sm, dv, ⟨p, n, rfl, _⟩, _⟩ := h; exact dpa_len dv
  obtain ⟨H0, ds, d, sm, dv, ⟨p, n, rfl, rfl⟩, q⟩ := h
  refine ⟨_, (pss_cons (ps_if (pt_cmpR op_eq (pv 0) (pe_op op_sub (pv 1) pe_int) (nomark _)) (pss_one (ps_ret (pe_op op_add (pe_op op_fdiv (pe_op op_sub (pv 1) pe_int) pe_int) pe_int))) pss_nil)
      (pss_one (ps_ret (pe_op op_fdiv (pe_op op_add (pv 0) pe_int) pe_int)))), ?_⟩
  refine Pf.run (X := fun _ _ _ _ => False) (oc := .rt (.int (rankF p n))) sm dv rfl ?_ q
  refine sx_when (b := decide (p = n - 1)) ?_ (fun c => sx_ret (Ev.is (d := .int ((n - 2) / 3 + 1)) ?_ ?_)) (fun _ => rfl) (fun c => sx_ret (Ev.is (d := .int ((p + 2) / 3)) ?_ ?_))
  · walk_at "ev"
  · walk_at "ev"
  · unfold rankF; rw [if_pos (of_decide_eq_true c)]
  · walk_at "ev"
  · unfold rankF; rw [if_neg (of_decide_eq_false c)]
/-! doors by ranks -/
def R_doors (ds : List PyData) (xs : List PyData) : Prop := ∃ (n : Int) (L : List Door), ds[1]? = some (.int n) ∧ okDoors n L ∧ xs = L.map doorD
def I_built (p : Int → Int → Prop) (ds : List PyData) : Prop := ∃ f n : Int, p f n ∧ ds = [.int f, .int n]
abbrev I_ranks := I_built fun _ n => n = 11 ∨ n = 17 ∨ n = 23
abbrev P_doors (ds : List PyData) : Oc → Prop := fun oc => ∃ xs, R_doors ds xs ∧ oc = .rl xs
theorem doors_fin {ds : List PyData} : ∀ oc : Oc, P_doors ds oc → oc.isNx = false := fun oc ⟨d, _, e⟩ => by rw [e]; rfl
theorem ok_l_ranks (T : Txt K mg A) : FnOk P w K mg base CX0 2 A.a_l_ranks A.d_l_ranks ["_law_first", "_law_size_here"] (spLN K R_doors I_ranks) := by
  refine T.f_l_ranks.ok sc_l_ranks (fun vs H Q E h => ?_) (fun cdv Ar outer s H vs Q E hr h => ?_)
  · obtain ⟨H0, ds, sm, dv, ⟨f, n, _, rfl⟩, _⟩ := h; exact dpa_len dv
  obtain ⟨H0, ds, sm, dv, ⟨f, n, hn, rfl⟩, q⟩ := h
  refine ⟨_, (pss_cons (ps_set (i := 2) sc_l_ranks.nd rfl (.inl rfl) (pe_callS (E := fun _ => E0) (ok_l_mix T) (hr.mono (by decide)) rfl T.g_l_mix T.f_l_mix.kp (b_l_mix T) (fun σ => pass0S) (pa_cons (pv 0) (pa_cons pe_int pa_nil))))
      (pss_cons (ps_set (i := 3) sc_l_ranks.nd rfl (.inl rfl) (pe_op op_add pe_int (pe_op op_mod (pv 2) (pe_op op_sub (pv 1) pe_int))))
      (pss_cons (ps_set (i := 4) sc_l_ranks.nd rfl (.inl rfl) (pe_lst pa_nil))
      (pss_cons (ps_for PassesOwn.never rfl (pi_range1 rfl T.u_range (pa_cons (pv 1) pa_nil)) (pg_name (i := 5) sc_l_ranks.nd rfl (Or.inl rfl))
        (pss_one (ps_for PassesOwn.never rfl (pi_range1 rfl T.u_range (pa_cons (pv 1) pa_nil)) (pg_name (i := 6) sc_l_ranks.nd rfl (Or.inl rfl))
        (pss_cons (ps_set (i := 7) sc_l_ranks.nd rfl (.inl rfl) (pe_callS (E := fun _ => E0) (ok_l_rank T) (hr.mono (by decide)) rfl T.g_l_rank T.f_l_rank.kp (b_l_rank T) (fun σ => pass0S) (pa_cons (pv 5) (pa_cons (pv 1) pa_nil))))
      (pss_one (ps_if (pt_cmpR op_eq (pe_callS (E := fun _ => E0) (ok_l_rank T) (hr.mono (by decide)) rfl T.g_l_rank T.f_l_rank.kp (b_l_rank T) (fun σ => pass0S) (pa_cons (pv 6) (pa_cons (pv 1) pa_nil))) (pe_op op_add (pv 7) pe_int) (nomark _)) (pss_cons (ps_set (i := 8) sc_l_ranks.nd rfl (.inl rfl) (pe_tup (pa_cons (pe_op op_mod (pe_op op_mul (pv 5) (pv 3)) (pv 1)) (pa_cons (pe_op op_mod (pe_op op_mul (pv 6) (pv 3)) (pv 1)) (pa_cons pe_int pa_nil)))))
      (pss_one (ps_if (PW.pt (pw_or (pt_cmpR op_eq (pv 5) pe_int (nomark _)) (pw_or (pt_cmpR op_eq (pv 6) (pe_op op_sub (pv 1) pe_int) (nomark _)) (pw_or1 (pt_cmpR op_eq (pe_op op_mod (pe_op op_add (pe_op op_add (pe_op op_sub (pv 6) (pv 5)) (pe_op op_fdiv (pv 2) pe_int)) (pe_op op_mul (pv 7) (pv 7))) pe_int) pe_int (nomark _)))))) (pss_one (ps_expr (pe_bm PySem.F.plainAttrs_list PySem.F.slot_list_append PySem.F.type_list_append mt_append (pv 4) (pa_cons (pe_tup (pa_cons (pe_ix (r := rIxT K) (by exact ix_tup) (pv 8) pe_int (fun _ _ => rfl)) (pa_cons (pe_ix (r := rIxT K) (by exact ix_tup) (pv 8) pe_int (fun _ _ => rfl)) (pa_cons pe_non pa_nil)))) pa_nil)))) (pss_one (ps_if (pt_cmpR op_eq (pe_op op_mod (pe_op op_add (pe_op op_mul (pv 5) (pv 6)) (pv 2)) pe_int) pe_int (nomark _)) (pss_one (ps_expr (pe_bm PySem.F.plainAttrs_list PySem.F.slot_list_append PySem.F.type_list_append mt_append (pv 4) (pa_cons (pv 8) pa_nil)))) pss_nil))))) pss_nil))))))
      (pss_one (ps_ret (pv 4))))))), ?_⟩
  refine Pf.runN (X := fun _ _ _ _ => False) (P := P_doors [.int f, .int n]) sm dv rfl ?_ (fun oc ⟨xs, r, e⟩ => by subst e; exact fun p ws G H2 fr w1 w2 w3 w4 => q xs r p ws G H2 fr (w1.elim False.elim id) w2 w3 w4)
  have n0 : 0 < n := by omega
  have n1 : n ≤ 23 := by omega
  refine sn_seq1 (sx_set (ev_call (ea_cons (ev_var rfl) (ea_cons (ev_c rfl) ea_nil)) ⟨f, 0, rfl, rfl⟩)) ?_
  have z0 := mix_nn f 0
  have z1 := mix_lt f 0
  generalize mix f 0 = z at z0 z1
  refine sn_seq1 (sx_set (d := .int (1 + z % (n - 1))) (ev_I0 (ev_c rfl) (ev_I (ev_var rfl) (ev_I0 (ev_var rfl) (ev_c rfl) rfl) (show 0 < n - 1 by omega) rfl) rfl)) ?_
  have m0 : 0 ≤ z % (n - 1) := Int.emod_nonneg _ (by omega)
  have m1 : z % (n - 1) < n - 1 := Int.emod_lt_of_pos _ (by omega)
  generalize hnm : 1 + z % (n - 1) = nm
  have k0 : 0 ≤ nm ∧ nm ≤ 23 := by omega
  refine sn_seq1 (sx_setO (eo_lst ea_nil (by decide))) ?_
  refine sn_seq (sn_forR1 (n := n.toNat) (ea_cons (ev_var rfl) ea_nil) (by omega) rfl (fun i e => ∃ L, Some n (i * 23) L ∧ e = [.dat (.int f), .dat (.int n), .dat (.int z), .dat (.int nm), .own (L.map doorD), .no, .no, .no, .no]) ⟨[], Some.nil, rfl⟩ fun i e hi ⟨L, hL, he⟩ => ?_) fun e ⟨L, hL, he⟩ => ?_
  · subst he
    refine ⟨_, tg_name, ?_⟩
    refine sn_out (sn_forR1 (n := n.toNat) (ea_cons (ev_var rfl) ea_nil) (by omega) rfl (fun j e => ∃ L, Some n (i * 23 + j) L ∧ e = [.dat (.int f), .dat (.int n), .dat (.int z), .dat (.int nm), .own (L.map doorD), .dat (.int i), .no, .no, .no]) ⟨L, hL.le (by omega), rfl⟩ fun j e hj ⟨L, hL, he⟩ => ?_) fun e ⟨L, hL, he⟩ => ?_
    · subst he
      refine ⟨_, tg_name, ?_⟩
      have hiz : (i : Int) < n := by omega
      have hjz : (j : Int) < n := by omega
      obtain ⟨r0, r1⟩ := rankF_in (p := (i : Int)) (n := n) (by omega) (by omega) (by omega) (by omega)
      have sz : L.length < 100000 := by have := hL.1; have : i * 23 ≤ 23 * 23 := Nat.mul_le_mul_right _ (by omega); omega
      refine sn_seq1 (sx_set (ev_call (ea_cons (ev_var rfl) (ea_cons (ev_var rfl) ea_nil)) ⟨i, n, rfl, rfl⟩)) ?_
      generalize rankF i n = r at r0 r1
      have fin : ∀ (L' : List Door), Some n (i * 23 + (j + 1)) L' → ∀ e', Less [.dat (.int f), .dat (.int n), .dat (.int z), .dat (.int nm), .own (L'.map doorD), .dat (.int i), .no, .no, .no] e' → ∃ e'', Less e'' e' ∧ ∃ L, Some n (i * 23 + (j + 1)) L ∧ e'' = [.dat (.int f), .dat (.int n), .dat (.int z), .dat (.int nm), .own (L.map doorD), .dat (.int i), .no, .no, .no] := fun L' h1 e' h2 => ⟨_, h2, L', h1, rfl⟩
      have okd : okDoor n (((i : Int) * nm % n, (j : Int) * nm % n, some 0) : Door) := ⟨room_mod n0, room_mod n0, okLock_some (by decide)⟩
      have okn : okDoor n (((i : Int) * nm % n, (j : Int) * nm % n, none) : Door) := ⟨room_mod n0, room_mod n0, okLock_none⟩
      apply sn_if
      · refine et_test (ev_eqI (ev_call (ea_cons (ev_var rfl) (ea_cons (ev_var rfl) ea_nil)) ⟨j, n, rfl, rfl⟩) (ev_I0 (ev_var rfl) (ev_c rfl) rfl))
      · intro _
        refine sn_seq1 (sx_set (d := doorD ((i : Int) * nm % n, (j : Int) * nm % n, some 0)) (ev_tup (ea_cons (ev_I (ev_I (ev_var rfl) (ev_var rfl) (cm1 (by omega)) rfl) (ev_var rfl) n0 rfl) (ea_cons (ev_I (ev_I (ev_var rfl) (ev_var rfl) (cm1 (by omega)) rfl) (ev_var rfl) n0 rfl) (ea_cons (ev_c rfl) ea_nil))) (Nat.le_of_ble_eq_true rfl))) ?_
        apply sn_if
        · refine et_or (et_test (ev_eqI (ev_var rfl) (ev_c rfl))) fun _ => et_or (et_test (ev_eqI (ev_var rfl) (ev_I0 (ev_var rfl) (ev_c rfl) rfl))) fun _ => et_test (ev_eqI (ev_I (ev_I0 (ev_I0 (ev_I0 (ev_var rfl) (ev_var rfl) rfl) (ev_I (ev_var rfl) (ev_c rfl) ⟨by decide, by decide⟩ rfl) rfl) (ev_I (ev_var rfl) (ev_var rfl) (cm1 (by omega)) rfl) rfl) (ev_c rfl) (by decide) rfl) (ev_c rfl))
        · intro _
          refine sn_out1 (sx_app (d := doorD ((i : Int) * nm % n, (j : Int) * nm % n, none)) rfl (ev_tup (ea_cons (ev_ixT (ev_var rfl) (ev_c rfl) rfl) (ea_cons (ev_ixT (ev_var rfl) (ev_c rfl) rfl) (ea_cons (ev_c rfl) ea_nil))) (Nat.le_of_ble_eq_true rfl)) (by rw [List.length_map]; exact sz)) (fin _ ((hL.add okn).le (by omega)) _ ?_)
          rw [map_app]; walk_at "less"
        · intro _
          apply sn_if
          · refine et_test (ev_eqI (ev_I (ev_I0 (ev_I (ev_var rfl) (ev_var rfl) (cm1 (by omega)) rfl) (ev_var rfl) rfl) (ev_c rfl) (by decide) rfl) (ev_c rfl))
          · intro _
            refine sn_out1 (sx_app (d := doorD ((i : Int) * nm % n, (j : Int) * nm % n, some 0)) rfl (ev_var rfl) (by rw [List.length_map]; exact sz)) (fin _ ((hL.add okd).le (by omega)) _ ?_)
            rw [map_app]; walk_at "less"
          · intro _
            exact sn_out1 sx_next (fin _ (hL.le (by omega)) _ (by walk_at "less"))
      · intro _
        exact sn_out1 sx_next (fin _ (hL.le (by omega)) _ (by walk_at "less"))
    · subst he
      exact ⟨_, by walk_at "less", L, hL.le (by omega), rfl⟩
  · subst he
    refine sn_of (sx_retV rfl) ⟨_, ⟨n, L, rfl, ⟨?_, hL.2⟩, rfl⟩, rfl⟩
    have := hL.1
    have : n.toNat * 23 ≤ 23 * 23 := Nat.mul_le_mul_right _ (by omega)
    omega

/-! many doors; mixed ones -/
theorem lk6 (i : Int) : okLock ([some 0, some 1, some 2, some 3, some 4, none].getD i.toNat none) := okLock_all (by decide) _
theorem lk8 (i : Int) : okLock ([none, some 0, none, some 1, some 2, none, some 3, some 4].getD i.toNat none) := okLock_all (by decide) _
theorem at6 {i : Int} (h : 0 ≤ i) (h1 : i < 6) : atI [PyData.int 0, .int 1, .int 2, .int 3, .int 4, .none] i = some (optD ([some 0, some 1, some 2, some 3, some 4, none].getD i.toNat none)) :=
  atI_map (f := optD) (l := [some 0, some 1, some 2, some 3, some 4, none]) none h h1
theorem at8 {i : Int} (h : 0 ≤ i) (h1 : i < 8) : atI [PyData.none, .int 0, .none, .int 1, .int 2, .none, .int 3, .int 4] i = some (optD ([none, some 0, none, some 1, some 2, none, some 3, some 4].getD i.toNat none)) :=
  atI_map (f := optD) (l := [none, some 0, none, some 1, some 2, none, some 3, some 4]) none h h1
abbrev I_many := I_built fun _ n => 2 ≤ n ∧ n ≤ 60
theorem ok_l_many (T : Txt K mg A) : FnOk P w K mg base CX0 2 A.a_l_many A.d_l_many ["_law_first", "_law_size_here"] (spLN K R_doors I_many) := by
  refine T.f_l_many.ok sc_l_many (fun vs H Q E h => ?_) (fun cdv Ar outer s H vs Q E hr h => ?_)
  · obtain ⟨H0, ds, sm, dv, ⟨f, n, _, rfl⟩, _⟩ := h; exact dpa_len dv
  obtain ⟨H0, ds, sm, dv, ⟨f, n, hn, rfl⟩, q⟩ := h
  refine ⟨_, (pss_cons (ps_set (i := 2) sc_l_many.nd rfl (.inl rfl) (pe_callS (E := fun _ => E0) (ok_l_mix T) (hr.mono (by decide)) rfl T.g_l_mix T.f_l_mix.kp (b_l_mix T) (fun σ => pass0S) (pa_cons (pv 0) (pa_cons pe_int pa_nil))))
      (pss_cons (ps_set (i := 3) sc_l_many.nd rfl (.inl rfl) (pe_lst pa_nil))
      (pss_cons (ps_for PassesOwn.never rfl (pi_range1 rfl T.u_range (pa_cons (pe_op op_add pe_int (pe_op op_mod (pe_op op_fdiv (pv 2) pe_int) pe_int)) pa_nil)) (pg_name (i := 4) sc_l_many.nd rfl (Or.inl rfl))
        (pss_cons (ps_set (i := 5) sc_l_many.nd rfl (.inl rfl) (pe_op op_mod (pv 4) (pe_op op_sub (pv 1) pe_int)))
      (pss_cons (ps_set (i := 6) sc_l_many.nd rfl (.inl rfl) (pe_op op_add (pe_op op_mul (pv 5) (pe_op op_add pe_int (pe_op op_mod (pe_op op_fdiv (pv 2) pe_int) pe_int))) (pe_op op_fdiv (pv 2) pe_int)))
      (pss_cons (ps_if (pt_cmpR op_eq (pe_op op_mod (pe_op op_fdiv (pv 4) (pe_op op_sub (pv 1) pe_int)) pe_int) pe_int (nomark _)) (pss_one (ps_set (i := 6) sc_l_many.nd rfl (.inl rfl) (pe_op op_add (pv 6) (pe_op op_mod (pv 2) pe_int)))) pss_nil)
      (pss_cons (ps_set (i := 6) sc_l_many.nd rfl (.inl rfl) (pe_op op_mod (pv 6) pe_int))
      (pss_one (ps_if (pt_cmpR op_eq (pe_op op_mod (pv 4) pe_int) pe_int (nomark _)) (pss_one (ps_expr (pe_bm PySem.F.plainAttrs_list PySem.F.slot_list_append PySem.F.type_list_append mt_append (pv 3) (pa_cons (pe_tup (pa_cons (pe_op op_mod (pe_op op_mul (pv 4) (pv 4)) (pv 1)) (pa_cons (pe_op op_mod (pe_op op_mul (pv 4) pe_int) (pv 1)) (pa_cons (pe_ix (r := rIxL K) (by exact ix_list) (pe_lst (pa_cons pe_int (pa_cons pe_int (pa_cons pe_int (pa_cons pe_int (pa_cons pe_int (pa_cons pe_non pa_nil))))))) (pe_op op_mod (pv 4) pe_int) (fun _ _ => rfl)) pa_nil)))) pa_nil)))) (pss_one (ps_expr (pe_bm PySem.F.plainAttrs_list PySem.F.slot_list_append PySem.F.type_list_append mt_append (pv 3) (pa_cons (pe_tup (pa_cons (pv 5) (pa_cons (pe_op op_add (pv 5) pe_int) (pa_cons (pe_ix (r := rIxL K) (by exact ix_list) (pe_lst (pa_cons pe_int (pa_cons pe_int (pa_cons pe_int (pa_cons pe_int (pa_cons pe_int (pa_cons pe_non pa_nil))))))) (pv 6) (fun _ _ => rfl)) pa_nil)))) pa_nil)))))))))))
      (pss_one (ps_ret (pv 3)))))), ?_⟩
  refine Pf.runN (X := fun _ _ _ _ => False) (P := P_doors [.int f, .int n]) sm dv rfl ?_ (fun oc ⟨xs, r, e⟩ => by subst e; exact fun p ws G H2 fr w1 w2 w3 w4 => q xs r p ws G H2 fr (w1.elim False.elim id) w2 w3 w4)
  refine sn_seq1 (sx_set (ev_call (ea_cons (ev_var rfl) (ea_cons (ev_c rfl) ea_nil)) ⟨f, 0, rfl, rfl⟩)) ?_
  have z0 := mix_nn f 0
  have z1 := mix_lt f 0
  generalize mix f 0 = z at z0 z1
  refine sn_seq1 (sx_setO (eo_lst ea_nil (by decide))) ?_
  have n0 : 0 < n := by omega
  have n1 : 0 < n - 1 := by omega
  refine sn_seq (sn_forR1 (k := 65 + z / 7 % 26) (n := (65 + z / 7 % 26).toNat) (ea_cons ?_ ea_nil) (by omega) rfl (fun i e => ∃ L, Some n i L ∧ e = [.dat (.int f), .dat (.int n), .dat (.int z), .own (L.map doorD), .no, .no, .no]) ⟨[], Some.nil, rfl⟩ fun i e hi ⟨L, hL, he⟩ => ?_) fun e ⟨L, hL, he⟩ => ?_
  · walk_at "ev"; decide
  · subst he
    refine ⟨_, tg_name, ?_⟩
    have sz : L.length < 100000 := by have := hL.1; omega
    refine sn_seq1 (sx_set (d := .int ((i : Int) % (n - 1))) (ev_I (ev_var rfl) (ev_I0 (ev_var rfl) (ev_c rfl) rfl) n1 rfl)) ?_
    have a0 : 0 ≤ (i : Int) % (n - 1) := Int.emod_nonneg _ (by omega)
    have a1 : (i : Int) % (n - 1) < n - 1 := Int.emod_lt_of_pos _ n1
    generalize (i : Int) % (n - 1) = a at a0 a1
    refine sn_seq1 (sx_set (d := .int (a * (1 + z / 182 % 5) + z / 910)) ?_) ?_
    · walk_at "ev"
      · decide
      · exact cm0 (by omega)
    generalize a * (1 + z / 182 % 5) + z / 910 = b
    refine sn_ifs (b := decide ((i : Int) / (n - 1) % 2 = 1)) (M := fun e => ∃ b : Int, e = [.dat (.int f), .dat (.int n), .dat (.int z), .own (L.map doorD), .dat (.int i), .dat (.int a), .dat (.int b)]) ?_ (fun _ => sn_of (sx_set (d := .int (b + z % 3)) ?_) ⟨_, rfl, _, rfl⟩) (fun _ => sn_of sx_next ⟨_, rfl, _, rfl⟩) fun e ⟨b, he⟩ => ?_
    · walk_at "ev"
      · exact ⟨n1, by omega⟩
      · decide
    · walk_at "ev"; decide
    subst he
    refine sn_seq1 (sx_set (d := .int (b % 6)) (by walk_at "ev"; decide)) ?_
    have b0 : 0 ≤ b % 6 := by omega
    have b1 : b % 6 < 6 := by omega
    generalize b % 6 = c at b0 b1
    refine sn_if (b := decide ((i : Int) % 13 = 12)) ?_ (fun _ => ?_) (fun _ => ?_)
    · walk_at "ev"; decide
    · refine sn_out1 (sx_app (d := doorD ((i : Int) * i % n, (i : Int) * 3 % n, [some 0, some 1, some 2, some 3, some 4, none].getD ((i : Int) % 6).toNat none)) rfl (ev_tup (ea_cons (ev_I (ev_I (ev_var rfl) (ev_var rfl) (cm1 (by omega)) rfl) (ev_var rfl) n0 rfl) (ea_cons (ev_I (ev_I (ev_var rfl) (ev_c rfl) (cm1 (by decide)) rfl) (ev_var rfl) n0 rfl) (ea_cons (ev_ixL ?_ (ev_I (ev_var rfl) (ev_c rfl) (by decide) rfl) (at6 (by omega) (by omega))) ea_nil))) (Nat.le_of_ble_eq_true rfl)) (by rw [List.length_map]; exact sz)) ⟨[.dat (.int f), .dat (.int n), .dat (.int z), .own ((L ++ [((i : Int) * i % n, (i : Int) * 3 % n, [some 0, some 1, some 2, some 3, some 4, none].getD ((i : Int) % 6).toNat none)]).map doorD), .no, .no, .no], ?_, _, hL.add ⟨room_mod n0, room_mod n0, lk6 _⟩, rfl⟩
      · walk_at "ev"
      · rw [map_app]; walk_at "less"
    · refine sn_out1 (sx_app (d := doorD (a, a + 1, [some 0, some 1, some 2, some 3, some 4, none].getD c.toNat none)) rfl (ev_tup (ea_cons (ev_var rfl) (ea_cons (ev_I0 (ev_var rfl) (ev_c rfl) rfl) (ea_cons (ev_ixL ?_ (ev_var rfl) (at6 b0 b1)) ea_nil))) (Nat.le_of_ble_eq_true rfl)) (by rw [List.length_map]; exact sz)) ⟨[.dat (.int f), .dat (.int n), .dat (.int z), .own ((L ++ [(a, a + 1, [some 0, some 1, some 2, some 3, some 4, none].getD c.toNat none)]).map doorD), .no, .no, .no], ?_, _, hL.add ⟨⟨a0, by show a < n; omega⟩, ⟨by show 0 ≤ a + 1; omega, by show a + 1 < n; omega⟩, lk6 _⟩, rfl⟩
      · walk_at "ev"
      · rw [map_app]; walk_at "less"
  · subst he
    refine sn_of (sx_retV rfl) ⟨_, ⟨n, L, rfl, ⟨?_, hL.2⟩, rfl⟩, rfl⟩
    have := hL.1
    omega
abbrev I_mixed := I_built fun _ n => 1 ≤ n ∧ n ≤ 60
theorem ok_l_mixed (T : Txt K mg A) : FnOk P w K mg base CX0 2 A.a_l_mixed A.d_l_mixed ["_law_first", "_law_size_here"] (spLN K R_doors I_mixed) := by
  refine T.f_l_mixed.ok sc_l_mixed (fun vs H Q E h => ?_) (fun cdv Ar outer s H vs Q E hr h => ?_)
  · obtain ⟨H0, ds, sm, dv, ⟨f, n, _, rfl⟩, _⟩ := h; exact dpa_len dv
  obtain ⟨H0, ds, sm, dv, ⟨f, n, hn, rfl⟩, q⟩ := h
  refine ⟨_, (pss_cons (ps_set (i := 2) sc_l_mixed.nd rfl (.inl rfl) (pe_callS (E := fun _ => E0) (ok_l_mix T) (hr.mono (by decide)) rfl T.g_l_mix T.f_l_mix.kp (b_l_mix T) (fun σ => pass0S) (pa_cons (pv 0) (pa_cons pe_int pa_nil))))
      (pss_cons (ps_set (i := 3) sc_l_mixed.nd rfl (.inl rfl) (pe_lst pa_nil))
      (pss_cons (ps_for PassesOwn.never rfl (pi_range1 rfl T.u_range (pa_cons (pe_op op_add pe_int (pe_op op_mod (pe_op op_fdiv (pv 2) pe_int) pe_int)) pa_nil)) (pg_name (i := 4) sc_l_mixed.nd rfl (Or.inl rfl))
        (pss_cons (ps_set (i := 5) sc_l_mixed.nd rfl (.inl rfl) (pe_ix (r := rIxL K) (by exact ix_list) (pe_lst (pa_cons pe_non (pa_cons pe_int (pa_cons pe_non (pa_cons pe_int (pa_cons pe_int (pa_cons pe_non (pa_cons pe_int (pa_cons pe_int pa_nil))))))))) (pe_op op_mod (pe_op op_add (pv 4) (pe_op op_fdiv (pv 2) pe_int)) pe_int) (fun _ _ => rfl)))
      (pss_cons (ps_set (i := 6) sc_l_mixed.nd rfl (.inl rfl) (pe_op op_mod (pe_op op_add (pe_op op_mul (pv 4) (pe_op op_add pe_int (pe_op op_mod (pe_op op_fdiv (pv 2) pe_int) pe_int))) (pv 2)) (pv 1)))
      (pss_one (ps_expr (pe_bm PySem.F.plainAttrs_list PySem.F.slot_list_append PySem.F.type_list_append mt_append (pv 3) (pa_cons (pe_tup (pa_cons (pv 6) (pa_cons (pe_op op_mod (pe_op op_add (pe_op op_mul (pv 4) (pv 4)) (pe_op op_fdiv (pv 2) pe_int)) (pv 1)) (pa_cons (pv 5) pa_nil)))) pa_nil)))))))
      (pss_one (ps_ret (pv 3)))))), ?_⟩
  refine Pf.runN (X := fun _ _ _ _ => False) (P := P_doors [.int f, .int n]) sm dv rfl ?_ (fun oc ⟨xs, r, e⟩ => by subst e; exact fun p ws G H2 fr w1 w2 w3 w4 => q xs r p ws G H2 fr (w1.elim False.elim id) w2 w3 w4)
  refine sn_seq1 (sx_set (ev_call (ea_cons (ev_var rfl) (ea_cons (ev_c rfl) ea_nil)) ⟨f, 0, rfl, rfl⟩)) ?_
  have z0 := mix_nn f 0
  have z1 := mix_lt f 0
  generalize mix f 0 = z at z0 z1
  refine sn_seq1 (sx_setO (eo_lst ea_nil (by decide))) ?_
  have n0 : 0 < n := by omega
  refine sn_seq (sn_forR1 (k := 41 + z / 16 % 50) (n := (41 + z / 16 % 50).toNat) (ea_cons ?_ ea_nil) (by omega) rfl (fun i e => ∃ L, Some n i L ∧ e = [.dat (.int f), .dat (.int n), .dat (.int z), .own (L.map doorD), .no, .no, .no]) ⟨[], Some.nil, rfl⟩ fun i e hi ⟨L, hL, he⟩ => ?_) fun e ⟨L, hL, he⟩ => ?_
  · walk_at "ev"; decide
  · subst he
    refine ⟨_, tg_name, ?_⟩
    have sz : L.length < 100000 := by have := hL.1; omega
    refine sn_seq1 (sx_set (d := optD ([none, some 0, none, some 1, some 2, none, some 3, some 4].getD (((i : Int) + z / 800) % 8).toNat none)) (ev_ixL (i := ((i : Int) + z / 800) % 8) ?_ ?_ (at8 (by omega) (by omega)))) ?_
    · walk_at "ev"
    · walk_at "ev"; decide
    refine sn_seq1 (sx_set (d := .int (((i : Int) * (1 + z / 6400 % 7) + z) % n)) ?_) ?_
    · walk_at "ev"
      · decide
      · exact cm0 (by omega)
      · exact n0
    refine sn_out1 (sx_app (d := doorD (((i : Int) * (1 + z / 6400 % 7) + z) % n, ((i : Int) * i + z / 50) % n, [none, some 0, none, some 1, some 2, none, some 3, some 4].getD (((i : Int) + z / 800) % 8).toNat none)) rfl (ev_tup (ea_cons (ev_var rfl) (ea_cons (ev_I (ev_I0 (ev_I (ev_var rfl) (ev_var rfl) (cm1 (by omega)) rfl) (ev_I (ev_var rfl) (ev_c rfl) ⟨by decide, by decide⟩ rfl) rfl) (ev_var rfl) n0 rfl) (ea_cons (ev_var rfl) ea_nil))) (Nat.le_of_ble_eq_true rfl)) (by rw [List.length_map]; exact sz)) ⟨[.dat (.int f), .dat (.int n), .dat (.int z), .own ((L ++ [(((i : Int) * (1 + z / 6400 % 7) + z) % n, ((i : Int) * i + z / 50) % n, [none, some 0, none, some 1, some 2, none, some 3, some 4].getD (((i : Int) + z / 800) % 8).toNat none)]).map doorD), .no, .no, .no], ?_, _, hL.add ⟨room_mod n0, room_mod n0, lk8 _⟩, rfl⟩
    rw [map_app]; walk_at "less"
  · subst he
    refine sn_of (sx_retV rfl) ⟨_, ⟨n, L, rfl, ⟨?_, hL.2⟩, rfl⟩, rfl⟩
    have := hL.1
    omega

/-! the doors, by the first cell -/
theorem pick2 {a b : Int} {c : Bool} : atI [PyData.int a, .int b] (if c = true then 1 else 0) = some (.int (if c = true then b else a)) := by cases c <;> rfl
theorem rep_one {α : Type} {x : α} : ∀ n : Nat, (List.replicate n [x]).flatten = List.replicate n x
  | 0 => rfl
  | n + 1 => by rw [List.replicate_succ, List.replicate_succ, List.flatten_cons, rep_one n]; rfl
def locks10 (m : Nat) : List (Option Int) := [some 3, some 1] ++ List.replicate m none ++ [some 0, some 2, some 4]
theorem locks10_len (m : Nat) : (locks10 m).length = m + 5 := by
  unfold locks10
  rw [List.length_append, List.length_append, List.length_replicate]; simp only [List.length_cons, List.length_nil]; omega
theorem locks10_ok (m i : Nat) : okLock ((locks10 m).getD i none) := by
  rw [List.getD_eq_getElem?_getD]
  cases e : (locks10 m)[i]? with
  | none => exact okLock_none
  | some o =>
    have h := List.mem_of_getElem? e
    unfold locks10 at h
    rcases List.mem_append.mp h with h | h
    · rcases List.mem_append.mp h with h | h
      · rcases List.mem_cons.mp h with h | h
        · rw [h]; exact okLock_some (by decide)
        · rw [List.mem_singleton.mp h]; exact okLock_some (by decide)
      · rw [(List.mem_replicate.mp h).2]; exact okLock_none
    · rcases List.mem_cons.mp h with h | h
      · rw [h]; exact okLock_some (by decide)
      · rcases List.mem_cons.mp h with h | h
        · rw [h]; exact okLock_some (by decide)
        · rw [List.mem_singleton.mp h]; exact okLock_some (by decide)
theorem locks10_dat (m : Nat) : [PyData.int 3, .int 1] ++ (List.replicate m [PyData.none]).flatten ++ [PyData.int 0, .int 2, .int 4] = (locks10 m).map optD := by
  unfold locks10
  rw [rep_one, List.map_append, List.map_append, List.map_replicate]; rfl
abbrev I_b := I_built sizeOk
theorem built_fin {n : Int} {ds : List PyData} (hd : ds[1]? = some (.int n)) {te : TE} {env : List SV} {X : WX} {g : Nat → Door} {m : Nat} (hm : m ≤ 600) (h : EvO K te env (((List.range m).filter fun _ => true).map fun k => doorD (g k))) (ok : ∀ k, k < m → okDoor n (g k)) : Sn K X (tRet te) env (P_doors ds) := by
  rw [comp_all] at h
  exact sn_of (sx_retO h) ⟨_, ⟨n, _, hd, ⟨Nat.le_trans (Some.map ok).1 hm, (Some.map ok).2⟩, rfl⟩, rfl⟩
theorem ok_l_built (T : Txt K mg A) : FnOk P w K mg base CX0 3 A.a_l_built A.d_l_built ["_law_first", "_law_size_here"] (spLN K R_doors I_b) := by
  refine T.f_l_built.ok sc_l_built (fun vs H Q E h => ?_) (fun cdv Ar outer s H vs Q E hr h => ?_)
  · obtain ⟨H0, ds, sm, dv, ⟨f, n, _, rfl⟩, _⟩ := h; exact dpa_len dv
  obtain ⟨H0, ds, sm, dv, ⟨f, n, hn, rfl⟩, q⟩ := h
  refine ⟨_, (pss_cons (ps_if (pt_cmpR op_eq (pe_op op_mod (pv 0) pe_int) pe_int (nomark _)) (pss_cons (ps_set (i := 2) sc_l_built.nd rfl (.inl rfl) (pe_lst pa_nil))
      (pss_cons (ps_for PassesOwn.never rfl (pi_range1 rfl T.u_range (pa_cons (pe_op op_sub pe_int (pe_op op_mod (pe_op op_fdiv (pv 0) pe_int) pe_int)) pa_nil)) (pg_name (i := 3) sc_l_built.nd rfl (Or.inl rfl))
        (pss_cons (ps_set (i := 4) sc_l_built.nd rfl (.inl rfl) (pe_op op_mod (pe_ix (r := rIxL K) (by exact ix_list) (pe_lst (pa_cons (pv 3) (pa_cons (pe_op op_mul (pv 3) (pv 3)) pa_nil))) (pe_callTy call_int1 (by rfl) T.u_int (by decide +kernel) (pa_cons (pe_cmpR op_ge (pv 3) (pv 1) (nomark _)) pa_nil)) (fun _ _ => rfl)) (pv 1)))
      (pss_cons (ps_set (i := 5) sc_l_built.nd rfl (.inl rfl) (pe_op op_mod (pe_ix (r := rIxL K) (by exact ix_list) (pe_lst (pa_cons (pe_op op_add (pv 3) pe_int) (pa_cons (pe_op op_mul (pv 3) pe_int) pa_nil))) (pe_callTy call_int1 (by rfl) T.u_int (by decide +kernel) (pa_cons (pe_cmpR op_ge (pv 3) (pv 1) (nomark _)) pa_nil)) (fun _ _ => rfl)) (pv 1)))
      (pss_one (ps_expr (pe_bm PySem.F.plainAttrs_list PySem.F.slot_list_append PySem.F.type_list_append mt_append (pv 2) (pa_cons (pe_tup (pa_cons (pv 4) (pa_cons (pv 5) (pa_cons (pe_ix (r := rIxL K) (by exact ix_list) (pe_lst (pa_cons pe_non (pa_cons pe_int (pa_cons pe_non (pa_cons (pe_op op_mod (pe_op op_fdiv (pv 3) pe_int) pe_int) (pa_cons (pe_op op_mod (pe_op op_add (pe_op op_fdiv (pv 0) pe_int) (pv 3)) pe_int) pa_nil)))))) (pe_op op_mod (pv 3) pe_int) (fun _ _ => rfl)) pa_nil)))) pa_nil)))))))
      (pss_one (ps_ret (pv 2))))) pss_nil)
      (pss_cons (ps_if (pt_cmpR op_eq (pe_op op_mod (pv 0) pe_int) pe_int (nomark _)) (pss_cons (ps_set (i := 6) sc_l_built.nd rfl (.inr rfl) (pe_op op_cat (pe_op op_cat (pe_lst (pa_cons pe_int (pa_cons pe_int pa_nil))) (pe_op op_rep (pe_lst (pa_cons pe_non pa_nil)) (pe_op op_sub (pv 1) pe_int))) (pe_lst (pa_cons pe_int (pa_cons pe_int (pa_cons pe_int pa_nil))))))
      (pss_one (ps_ret (pe_lc (own := [("_law_k", 3)]) (g := gName 3) rfl sc_l_built.nd (pi_range1 rfl T.u_range (pa_cons (pe_op op_sub (pv 1) pe_int) pa_nil)) (blkOk_by (own := [("_law_k", 3)]) (N := n_l_built) (sc := defScope s_l_built) (by decide +kernel))
        (fun _ _ _ _ _ => (pg_name (i := 3) sc_l_built.nd rfl (Or.inl rfl))) (fun _ _ _ _ _ => pts_nil) (fun _ _ _ _ _ => (pe_tup (pa_cons (pv 3) (pa_cons (pe_op op_add (pv 3) pe_int) (pa_cons (pe_ix (r := rIxL K) (by exact ix_list) (pv 6) (pv 3) (fun _ _ => rfl)) pa_nil))))))))) pss_nil)
      (pss_cons (ps_if (pt_cmpR op_eq (pe_op op_mod (pv 0) pe_int) pe_int (nomark _)) (pss_one (ps_ret (pe_lc (own := [("_law_k", 3)]) (g := gName 3) rfl sc_l_built.nd (pi_range2 rfl T.u_range (pa_cons pe_int (pa_cons (pv 1) pa_nil))) (blkOk_by (own := [("_law_k", 3)]) (N := n_l_built) (sc := defScope s_l_built) (by decide +kernel))
        (fun _ _ _ _ _ => (pg_name (i := 3) sc_l_built.nd rfl (Or.inl rfl))) (fun _ _ _ _ _ => pts_nil) (fun _ _ _ _ _ => (pe_tup (pa_cons pe_int (pa_cons (pv 3) (pa_cons pe_non pa_nil)))))))) pss_nil)
      (pss_cons (ps_if (pt_cmpR (r := rIn K false) (by exact op_in_seq) (pe_op op_mod (pv 0) pe_int) (pe_tup (pa_cons pe_int (pa_cons pe_int pa_nil))) (by rfl)) (pss_one (ps_ret (pe_callS (E := fun _ => E0) (ok_l_ranks T) (hr.mono (by decide)) rfl T.g_l_ranks T.f_l_ranks.kp (b_l_ranks T) (fun σ => pass0S) (pa_cons (pv 0) (pa_cons (pv 1) pa_nil))))) pss_nil)
      (pss_cons (ps_if (pt_cmpR op_eq (pe_op op_mod (pv 0) pe_int) pe_int (nomark _)) (pss_one (ps_ret (pe_callS (E := fun _ => E0) (ok_l_many T) (hr.mono (by decide)) rfl T.g_l_many T.f_l_many.kp (b_l_many T) (fun σ => pass0S) (pa_cons (pv 0) (pa_cons (pv 1) pa_nil))))) pss_nil)
      (pss_cons (ps_if (pt_cmpR op_eq (pe_op op_mod (pv 0) pe_int) pe_int (nomark _)) (pss_one (ps_ret (pe_callS (E := fun _ => E0) (ok_l_mixed T) (hr.mono (by decide)) rfl T.g_l_mixed T.f_l_mixed.kp (b_l_mixed T) (fun σ => pass0S) (pa_cons (pv 0) (pa_cons (pv 1) pa_nil))))) pss_nil)
      (pss_cons (ps_if (pt_cmpR op_eq (pe_op op_mod (pv 0) pe_int) pe_int (nomark _)) (pss_cons (ps_set (i := 7) sc_l_built.nd rfl (.inr rfl) (pe_op op_mod (pe_op op_fdiv (pe_callS (E := fun _ => E0) (ok_l_mix T) (hr.mono (by decide)) rfl T.g_l_mix T.f_l_mix.kp (b_l_mix T) (fun σ => pass0S) (pa_cons (pv 0) (pa_cons pe_int pa_nil))) pe_int) pe_int))
      (pss_one (ps_ret (pe_lc (own := [("_law_k", 3)]) (g := gName 3) rfl sc_l_built.nd (pi_range1 rfl T.u_range (pa_cons (pe_op op_sub (pv 1) pe_int) pa_nil)) (blkOk_by (own := [("_law_k", 3)]) (N := n_l_built) (sc := defScope s_l_built) (by decide +kernel))
        (fun _ _ _ _ _ => (pg_name (i := 3) sc_l_built.nd rfl (Or.inl rfl))) (fun _ _ _ _ _ => pts_nil) (fun _ _ _ _ _ => (pe_tup (pa_cons (pv 3) (pa_cons (pe_op op_add (pv 3) pe_int) (pa_cons (pe_callS (E := fun _ => E0) (ok_l_lock T) (hr.mono (by decide)) rfl T.g_l_lock T.f_l_lock.kp (b_l_lock T) (fun σ => pass0S) (pa_cons (pe_op op_mul (pe_op op_add (pv 3) pe_int) (pv 7)) pa_nil)) pa_nil))))))))) pss_nil)
      (pss_cons (ps_if (pt_cmpR op_eq (pe_op op_mod (pv 0) pe_int) pe_int (nomark _)) (pss_one (ps_ret (pe_lc (own := [("_law_k", 3)]) (g := gName 3) rfl sc_l_built.nd (pi_range2 rfl T.u_range (pa_cons pe_int (pa_cons (pv 1) pa_nil))) (blkOk_by (own := [("_law_k", 3)]) (N := n_l_built) (sc := defScope s_l_built) (by decide +kernel))
        (fun _ _ _ _ _ => (pg_name (i := 3) sc_l_built.nd rfl (Or.inl rfl))) (fun _ _ _ _ _ => pts_nil) (fun _ _ _ _ _ => (pe_tup (pa_cons (pv 3) (pa_cons pe_int (pa_cons (pe_ix (r := rIxL K) (by exact ix_list) (pe_lst (pa_cons pe_non (pa_cons pe_int (pa_cons pe_int (pa_cons pe_int (pa_cons pe_int pa_nil)))))) (pe_op op_sub (pv 3) pe_int) (fun _ _ => rfl)) pa_nil)))))))) pss_nil)
      (pss_one (ps_ret (pe_lst pa_nil))))))))))), ?_⟩
  refine Pf.runN (X := fun _ _ _ _ => False) (P := P_doors [.int f, .int n]) sm dv rfl ?_ (fun oc ⟨xs, r, e⟩ => by subst e; exact fun p ws G H2 fr w1 w2 w3 w4 => q xs r p ws G H2 fr (w1.elim False.elim id) w2 w3 w4)
  obtain ⟨⟨hn1, hn60⟩, h68, h10, h5, h3⟩ := hn
  have n0 : 0 < n := by omega
  have eq : ∀ c : Int, EvT K (tTest (tOp rEq (tOp (rI (fun _ j => 0 < j) fun i j => V.int (i % j)) (tVar 0) (tC (.int 12))) (tC (.int c)))) [.dat (.int f), .dat (.int n), .no, .no, .no, .no, .no, .no] (decide (f % 12 = c)) := fun c => by
    walk_at "ev"; decide
  have eq6 : ∀ c : Int, EvT K (tTest (tOp rEq (tOp (rI (fun _ j => 0 < j) fun i j => V.int (i % j)) (tVar 0) (tC (.int 6))) (tC (.int c)))) [.dat (.int f), .dat (.int n), .no, .no, .no, .no, .no, .no] (decide (f % 6 = c)) := fun c => by
    walk_at "ev"; decide
  refine sn_when (eq 4) (fun c => ?_) doors_fin (fun c4 => ?_)
  · refine sn_seq1 (sx_setO (eo_lst ea_nil (by decide))) ?_
    refine sn_seq (sn_forR1 (k := 90 - f / 12 % 3) (n := (90 - f / 12 % 3).toNat) (ea_cons ?_ ea_nil) (by omega) rfl (fun i e => ∃ L, Some n i L ∧ e = [.dat (.int f), .dat (.int n), .own (L.map doorD), .no, .no, .no, .no, .no]) ⟨[], Some.nil, rfl⟩ fun i e hi ⟨L, hL, he⟩ => ?_) fun e ⟨L, hL, he⟩ => ?_
    · walk_at "ev"; decide
    · subst he
      refine ⟨_, tg_name, ?_⟩
      have sz : L.length < 100000 := by have := hL.1; omega
      refine sn_seq1 (sx_set (d := .int ((if decide (n ≤ (i : Int)) = true then (i : Int) * i else i) % n)) (ev_I (ev_ixL (ds := [.int i, .int ((i : Int) * i)]) ?_ (ev_intb ?_) pick2) (ev_var rfl) n0 rfl)) ?_
      · walk_at "ev"; exact cm1 (by omega)
      · walk_at "ev"
      refine sn_seq1 (sx_set (d := .int ((if decide (n ≤ (i : Int)) = true then (i : Int) * 7 else (i : Int) + 1) % n)) (ev_I (ev_ixL (ds := [.int ((i : Int) + 1), .int ((i : Int) * 7)]) ?_ (ev_intb ?_) pick2) (ev_var rfl) n0 rfl)) ?_
      · walk_at "ev"
      · walk_at "ev"
      have lk : okLock ([none, some 4, none, some ((i : Int) / 5 % 4), some ((f / 36 + i) % 5)].getD ((i : Int) % 5).toNat none) := by
        have : (i : Int) % 5 = 0 ∨ (i : Int) % 5 = 1 ∨ (i : Int) % 5 = 2 ∨ (i : Int) % 5 = 3 ∨ (i : Int) % 5 = 4 := by omega
        rcases this with h | h | h | h | h <;> rw [h]
        · exact okLock_none
        · exact okLock_some (by decide)
        · exact okLock_none
        · exact okLock_some (k := (i : Int) / 5 % 4) (by omega)
        · exact okLock_some (k := (f / 36 + i) % 5) (by omega)
      have la : atI [PyData.none, .int 4, .none, .int ((i : Int) / 5 % 4), .int ((f / 36 + i) % 5)] ((i : Int) % 5) = some (optD ([none, some 4, none, some ((i : Int) / 5 % 4), some ((f / 36 + i) % 5)].getD ((i : Int) % 5).toNat none)) :=
        atI_map (f := optD) (l := [none, some 4, none, some ((i : Int) / 5 % 4), some ((f / 36 + i) % 5)]) none (by omega) (by show (i : Int) % 5 < 5; omega)
      generalize [none, some 4, none, some ((i : Int) / 5 % 4), some ((f / 36 + i) % 5)].getD ((i : Int) % 5).toNat none = l at lk la
      have r1 : inRoom n ((if decide (n ≤ (i : Int)) = true then (i : Int) * i else i) % n) := room_mod n0
      have r2 : inRoom n ((if decide (n ≤ (i : Int)) = true then (i : Int) * 7 else (i : Int) + 1) % n) := room_mod n0
      generalize (if decide (n ≤ (i : Int)) = true then (i : Int) * i else i) % n = u at r1
      generalize (if decide (n ≤ (i : Int)) = true then (i : Int) * 7 else (i : Int) + 1) % n = v at r2
      refine sn_out1 (sx_app (d := doorD (u, v, l)) rfl (ev_tup (ea_cons (ev_var rfl) (ea_cons (ev_var rfl) (ea_cons (ev_ixL (ds := [.none, .int 4, .none, .int ((i : Int) / 5 % 4), .int ((f / 36 + i) % 5)]) ?_ ?_ la) ea_nil))) (Nat.le_of_ble_eq_true rfl)) (by rw [List.length_map]; exact sz)) ⟨[.dat (.int f), .dat (.int n), .own ((L ++ [(u, v, l)]).map doorD), .no, .no, .no, .no, .no], ?_, _, hL.add ⟨r1, r2, lk⟩, rfl⟩
      · walk_at "ev" <;> decide
      · walk_at "ev"; decide
      · rw [map_app]; walk_at "less"
    · subst he
      refine sn_of (sx_retV rfl) ⟨_, ⟨n, L, rfl, ⟨?_, hL.2⟩, rfl⟩, rfl⟩
      have := hL.1
      omega
  refine sn_when (eq 10) (fun c => ?_) doors_fin (fun c10 => ?_)
  · have hn20 := h10 (of_decide_eq_true c)
    refine sn_seq1 (sx_setO (eo_cat (EvO.l (eo_cat (EvO.l (eo_lst (ds := [.int 3, .int 1]) ?_ (by decide))) (EvO.l (eo_rep (i := n - 6) (EvO.l (eo_lst (ds := [.none]) ?_ (by decide))) ?_ (by omega) ?_)) ?_)) (EvO.l (eo_lst (ds := [.int 0, .int 2, .int 4]) ?_ (by decide))) ?_)) ?_
    · walk_at "ev"
    · walk_at "ev"
    · walk_at "ev"
    · show 1 * (n - 6).toNat ≤ 100000; omega
    · rw [rep_one, List.length_replicate]; show 2 + (n - 6).toNat ≤ 100000; omega
    · walk_at "ev"
    · rw [rep_one, List.length_append, List.length_replicate]; show 2 + (n - 6).toNat + 3 ≤ 100000; omega
    rw [locks10_dat]
    refine sn_fix 6 rfl ?_
    refine built_fin (n := n) rfl (g := fun k => ((k : Int), (k : Int) + 1, (locks10 (n - 6).toNat).getD k none)) (m := (n - 1).toNat) (by omega) (eo_lcR (k := n - 1) (fun _ => true) _ (ea_cons (ev_I0 (ev_var rfl) (ev_c rfl) rfl) ea_nil) (by omega) rfl fun k hk => ⟨_, tgw_name (by decide), et_yes, fun _ => ?_⟩) fun k hk => ⟨⟨by show 0 ≤ (k : Int); omega, by show (k : Int) < n; omega⟩, ⟨by show 0 ≤ (k : Int) + 1; omega, by show (k : Int) + 1 < n; omega⟩, locks10_ok _ _⟩
    refine ev_tup (ea_cons (ev_var rfl) (ea_cons (ev_I0 (ev_var rfl) (ev_c rfl) rfl) (ea_cons (ev_ixL (ev_var rfl) (ev_var rfl) ?_) ea_nil))) (Nat.le_of_ble_eq_true rfl)
    exact atI_map (f := optD) none (by omega) (by rw [locks10_len]; omega)
  refine sn_when (eq 7) (fun c => ?_) doors_fin (fun c7 => ?_)
  · refine built_fin (n := n) rfl (g := fun k => (0, 1 + (k : Int), none)) (m := (n - 1).toNat) (by omega) (eo_lcR2 (lo := 1) (k := n) (fun _ => true) _ (ea_cons (ev_c rfl) (ea_cons (ev_var rfl) ea_nil)) (by omega) (by decide) rfl (by omega) fun k hk => ⟨_, tgw_name (by decide), et_yes, fun _ => ?_⟩) fun k hk => ⟨⟨by show (0 : Int) ≤ 0; decide, n0⟩, ⟨by show 0 ≤ 1 + (k : Int); omega, by show 1 + (k : Int) < n; omega⟩, okLock_none⟩
    exact ev_tup (ea_cons (ev_c rfl) (ea_cons (ev_var rfl) (ea_cons (ev_c rfl) ea_nil))) (Nat.le_of_ble_eq_true rfl)
  refine sn_when (b := decide (f % 12 = 6 ∨ f % 12 = 8)) (EvT.is (b := [PyData.int 6, .int 8].any fun z => eqF z (.int (f % 12))) (by walk_at "ev"; decide) (any2 _ _ _)) (fun c => sn_retN (ea_cons (ev_var rfl) (ea_cons (ev_var rfl) ea_nil)) ⟨f, n, h68 (of_decide_eq_true c), rfl⟩ fun xs r => ⟨xs, r, rfl⟩) doors_fin (fun c68 => ?_)
  refine sn_when (eq 5) (fun c => sn_retN (ea_cons (ev_var rfl) (ea_cons (ev_var rfl) ea_nil)) ⟨f, n, ⟨by have := h5 (of_decide_eq_true c); omega, hn60⟩, rfl⟩ fun xs r => ⟨xs, r, rfl⟩) doors_fin (fun c5 => ?_)
  refine sn_when (eq 9) (fun c => sn_retN (ea_cons (ev_var rfl) (ea_cons (ev_var rfl) ea_nil)) ⟨f, n, ⟨hn1, hn60⟩, rfl⟩ fun xs r => ⟨xs, r, rfl⟩) doors_fin (fun c9 => ?_)
  refine sn_when (eq6 2) (fun c => ?_) doors_fin (fun c62 => ?_)
  · have z0 := mix_nn f 0
    have z1 := mix_lt f 0
    refine sn_seq1 (sx_set (d := .int (mix f 0 / 30 % 8)) (ev_I (ev_I (ev_call (ea_cons (ev_var rfl) (ea_cons (ev_c rfl) ea_nil)) ⟨f, 0, rfl, rfl⟩) (ev_c rfl) ⟨by decide, by decide⟩ rfl) (ev_c rfl) (by decide) rfl)) ?_
    generalize mix f 0 = z at z0 z1
    refine built_fin (n := n) rfl (g := fun k => ((k : Int), (k : Int) + 1, lockF (((k : Int) + 1) * (z / 30 % 8)))) (m := (n - 1).toNat) (by omega) (eo_lcR (k := n - 1) (fun _ => true) _ (ea_cons (ev_I0 (ev_var rfl) (ev_c rfl) rfl) ea_nil) (by omega) rfl fun k hk => ⟨_, tgw_name (by decide), et_yes, fun _ => ?_⟩) fun k hk => ⟨⟨by show 0 ≤ (k : Int); omega, by show (k : Int) < n; omega⟩, ⟨by show 0 ≤ (k : Int) + 1; omega, by show (k : Int) + 1 < n; omega⟩, lockF_ok _⟩
    exact ev_tup (ea_cons (ev_var rfl) (ea_cons (ev_I0 (ev_var rfl) (ev_c rfl) rfl) (ea_cons (ev_call (ea_cons (ev_I (ev_I0 (ev_var rfl) (ev_c rfl) rfl) (ev_var rfl) (cm1 (by omega)) rfl) ea_nil) ⟨_, rfl, rfl⟩) ea_nil))) (Nat.le_of_ble_eq_true rfl)
  refine sn_when (eq6 3) (fun c => ?_) doors_fin (fun c63 => ?_)
  · have hn6 : n ≤ 6 := by
      have := of_decide_eq_true c
      have := of_decide_eq_false c9
      exact h3 (by omega)
    refine built_fin (n := n) rfl (g := fun k => (1 + (k : Int), 0, [none, some 0, some 1, some 2, some 3].getD k none)) (m := (n - 1).toNat) (by omega) (eo_lcR2 (lo := 1) (k := n) (fun _ => true) _ (ea_cons (ev_c rfl) (ea_cons (ev_var rfl) ea_nil)) (by omega) (by decide) rfl (by omega) fun k hk => ⟨_, tgw_name (by decide), et_yes, fun _ => ?_⟩) fun k hk => ⟨⟨by show 0 ≤ 1 + (k : Int); omega, by show 1 + (k : Int) < n; omega⟩, ⟨by show (0 : Int) ≤ 0; decide, n0⟩, okLock_all (by decide) _⟩
    refine ev_tup (ea_cons (ev_var rfl) (ea_cons (ev_c rfl) (ea_cons (ev_ixL (ds := [.none, .int 0, .int 1, .int 2, .int 3]) (i := 1 + (k : Int) - 1) ?_ ?_ ?_) ea_nil))) (Nat.le_of_ble_eq_true rfl)
    · walk_at "ev"
    · walk_at "ev"
    · have e : 1 + (k : Int) - 1 = (k : Int) := by omega
      rw [e]
      exact atI_map (f := optD) (l := [none, some 0, some 1, some 2, some 3]) none (by omega) (by show (k : Int) < 5; omega)
  exact sn_of (sx_retO (eo_lst ea_nil (by decide))) ⟨_, ⟨n, [], rfl, ⟨Nat.zero_le _, fun _ h => nomatch h⟩, rfl⟩, rfl⟩
/-! all doors -/
def R_alld (ds : List PyData) (xs : List PyData) : Prop := ∃ (n : Int) (L : List Door), ds[1]? = some (.int n) ∧ (L.length ≤ 700 ∧ ∀ d ∈ L, okDoor n d) ∧ xs = L.map doorD
abbrev P_alld (ds : List PyData) : Oc → Prop := fun oc => ∃ xs, R_alld ds xs ∧ oc = .rl xs
theorem alld_fin {ds : List PyData} : ∀ oc : Oc, P_alld ds oc → oc.isNx = false := fun oc ⟨d, _, e⟩ => by rw [e]; rfl
def I_maze (ds : List PyData) : Prop := ∃ (ns : List Int) (n : Int), ns.length ≤ 63 ∧ sizeOk (cellAt ns 0) n ∧ ds = [.list (ns.map .int), .int n]
theorem at_ns {ns : List Int} {k : Int} (h : 0 ≤ k) (h1 : k < ns.length) : atI (ns.map PyData.int) k = some (.int (ns.getD k.toNat 0)) := atI_map 0 h h1
theorem ok_l_doors (T : Txt K mg A) : FnOk P w K mg base CX0 4 A.a_l_doors A.d_l_doors ["_law_script", "_law_size_here"] (spLN K R_alld I_maze) := by
  refine T.f_l_doors.ok sc_l_doors (fun vs H Q E h => ?_) (fun cdv Ar outer s H vs Q E hr h => ?_)
  · obtain ⟨H0, ds, sm, dv, ⟨ns, n, _, _, rfl⟩, _⟩ := h; exact dpa_len dv
  obtain ⟨H0, ds, sm, dv, ⟨ns, n, hns, hn, rfl⟩, q⟩ := h
  refine ⟨_, (pss_cons (ps_set (i := 2) sc_l_doors.nd rfl (.inl rfl) (pe_callS (E := fun _ => E0) (ok_l_cell_at T) (hr.mono (by decide)) rfl T.g_l_cell_at T.f_l_cell_at.kp (b_l_cell_at T) (fun σ => pass0S) (pa_cons (pv 0) (pa_cons pe_int pa_nil))))
      (pss_cons (ps_set (i := 3) sc_l_doors.nd rfl (.inl rfl) (pe_callS (E := fun _ => E0) (ok_l_built T) (hr.mono (by decide)) rfl T.g_l_built T.f_l_built.kp (b_l_built T) (fun σ => pass0S) (pa_cons (pv 2) (pa_cons (pv 1) pa_nil))))
      (pss_cons (ps_if (pt_cmpR (r := rIn K false) (by exact op_in_seq) (pe_op op_mod (pv 2) pe_int) (pe_tup (pa_cons pe_int (pa_cons pe_int (pa_cons pe_int (pa_cons pe_int (pa_cons pe_int (pa_cons pe_int (pa_cons pe_int pa_nil)))))))) (by rfl)) (pss_one (ps_ret (pv 3))) pss_nil)
      (pss_cons (ps_for PassesOwn.never rfl (pi_range2 rfl T.u_range (pa_cons pe_int (pa_cons (pe_callB (call_min2 rfl) (by rfl) T.u_min (by decide +kernel) (pa_cons (pe_callB call_len_seq (by rfl) T.u_len (by decide +kernel) (pa_cons (pv 0) pa_nil)) (pa_cons pe_int pa_nil))) pa_nil))) (pg_name (i := 4) sc_l_doors.nd rfl (Or.inl rfl))
        (pss_cons (ps_set (i := 5) sc_l_doors.nd rfl (.inl rfl) (pe_ix (r := rIxL K) (by exact ix_list) (pv 0) (pv 4) (fun _ _ => rfl)))
      (pss_one (ps_if (PW.pt (pw_and (pt_cmpR op_ne (pe_op op_mod (pv 4) pe_int) pe_int (nomark _)) (pw_and1 (PW.pt (pw_or (pt_cmpR (r := rIn K true) (by exact op_notIn_seq) (pe_op op_mod (pv 2) pe_int) (pe_tup (pa_cons pe_int (pa_cons pe_int pa_nil))) (by rfl)) (pw_or1 (pt_cmpR op_gt (pv 4) pe_int (nomark _)))))))) (pss_cons (ps_set (i := 6) sc_l_doors.nd rfl (.inl rfl) (pe_op op_mod (pe_callS (E := fun _ => E0) (ok_l_mix T) (hr.mono (by decide)) rfl T.g_l_mix T.f_l_mix.kp (b_l_mix T) (fun σ => pass0S) (pa_cons (pv 5) (pa_cons pe_int pa_nil))) (pv 1)))
      (pss_one (ps_expr (pe_bm PySem.F.plainAttrs_list PySem.F.slot_list_append PySem.F.type_list_append mt_append (pv 3) (pa_cons (pe_tup (pa_cons (pv 6) (pa_cons (pe_op op_mod (pe_callS (E := fun _ => E0) (ok_l_mix T) (hr.mono (by decide)) rfl T.g_l_mix T.f_l_mix.kp (b_l_mix T) (fun σ => pass0S) (pa_cons (pv 5) (pa_cons pe_int pa_nil))) (pv 1)) (pa_cons (pe_callS (E := fun _ => E0) (ok_l_lock T) (hr.mono (by decide)) rfl T.g_l_lock T.f_l_lock.kp (b_l_lock T) (fun σ => pass0S) (pa_cons (pe_callS (E := fun _ => E0) (ok_l_mix T) (hr.mono (by decide)) rfl T.g_l_mix T.f_l_mix.kp (b_l_mix T) (fun σ => pass0S) (pa_cons (pv 5) (pa_cons pe_int pa_nil))) pa_nil)) pa_nil)))) pa_nil))))) pss_nil))))
      (pss_one (ps_ret (pv 3))))))), ?_⟩
  refine Pf.runN (X := fun _ _ _ _ => False) (P := P_alld [.list (ns.map .int), .int n]) sm dv rfl ?_ (fun oc ⟨xs, r, e⟩ => by subst e; exact fun p ws G H2 fr w1 w2 w3 w4 => q xs r p ws G H2 fr (w1.elim False.elim id) w2 w3 w4)
  have n0 : 0 < n := by have := hn.1; omega
  refine sn_seq1 (sx_set (ev_call (ea_cons (ev_var rfl) (ea_cons (ev_c rfl) ea_nil)) ⟨ns, 0, by decide, rfl, rfl⟩)) ?_
  generalize cellAt ns 0 = f at hn
  refine sn_seq (sn_setN (ea_cons (ev_var rfl) (ea_cons (ev_var rfl) ea_nil)) ⟨f, n, hn, rfl⟩) fun e ⟨xs, ⟨n', L, e1, hL, exs⟩, he⟩ => ?_
  obtain rfl : n = n' := PyData.int.inj (Option.some.inj e1)
  subst exs he
  apply sn_when
  · walk_at "ev"; decide
  · intro _
    exact sn_of (sx_retV rfl) ⟨_, ⟨n, L, rfl, ⟨Nat.le_trans hL.1 (by decide), hL.2⟩, rfl⟩, rfl⟩
  · exact alld_fin
  · intro _
    refine sn_seq (sn_forR2 (lo := 3) (k := if (27 : Int) < (ns.length : Int) then 27 else (ns.length : Int)) (n := ((if (27 : Int) < (ns.length : Int) then 27 else (ns.length : Int)) - 3).toNat) (ea_cons (ev_c rfl) (ea_cons (Ev.is (d := .int (if (27 : Int) < ((ns.map PyData.int).length : Int) then 27 else ((ns.map PyData.int).length : Int))) (ev_min2 (ev_len (ev_var rfl)) (ev_c rfl)) (by rw [List.length_map])) ea_nil)) (by split <;> omega) (by decide) rfl (fun i e => ∃ L, Some n (600 + i) L ∧ e = [.dat (.list (ns.map .int)), .dat (.int n), .dat (.int f), .own (L.map doorD), .no, .no, .no]) ⟨L, ⟨hL.1, hL.2⟩, rfl⟩ fun i e hi ⟨L, hL, he⟩ => ?_) fun e ⟨L, hL, he⟩ => ?_
    · subst he
      refine ⟨_, tg_name, ?_⟩
      have hi' : (3 : Int) + i < 27 ∧ (3 : Int) + i < ns.length := by split at hi <;> omega
      have sz : L.length < 100000 := by have := hL.1; omega
      refine sn_seq1 (sx_set (ev_ixL (ev_var rfl) (ev_var rfl) (at_ns (by omega) hi'.2))) ?_
      generalize ns.getD (3 + (i : Int)).toNat 0 = c
      apply sn_if
      · walk_at "ev" <;> decide
      · intro _
        refine sn_seq1 (sx_set (ev_I (ev_call (ea_cons (ev_var rfl) (ea_cons (ev_c rfl) ea_nil)) ⟨c, 0, rfl, rfl⟩) (ev_var rfl) n0 rfl)) ?_
        refine sn_out1 (sx_app (d := doorD (mix c 0 % n, mix c 1 % n, lockF (mix c 2))) rfl (ev_tup (ea_cons (ev_var rfl) (ea_cons (ev_I (ev_call (ea_cons (ev_var rfl) (ea_cons (ev_c rfl) ea_nil)) ⟨c, 1, rfl, rfl⟩) (ev_var rfl) n0 rfl) (ea_cons (ev_call (ea_cons (ev_call (ea_cons (ev_var rfl) (ea_cons (ev_c rfl) ea_nil)) ⟨c, 2, rfl, rfl⟩) ea_nil) ⟨_, rfl, rfl⟩) ea_nil))) (Nat.le_of_ble_eq_true rfl)) (by rw [List.length_map]; exact sz)) ⟨[.dat (.list (ns.map .int)), .dat (.int n), .dat (.int f), .own ((L ++ [(mix c 0 % n, mix c 1 % n, lockF (mix c 2))]).map doorD), .no, .no, .no], ?_, _, hL.add ⟨room_mod n0, room_mod n0, lockF_ok _⟩, rfl⟩
        rw [map_app]; walk_at "less"
      · intro _
        exact sn_out1 sx_next ⟨_, by walk_at "less", L, hL.le (by omega), rfl⟩
    · subst he
      refine sn_of (sx_retV rfl) ⟨_, ⟨n, L, rfl, ⟨?_, hL.2⟩, rfl⟩, rfl⟩
      have := hL.1
      split at this <;> omega

/-! the maze that is built: the lying keys -/
def okKey (n : Int) (k : Key2) : Prop := inRoom n k.1 ∧ 0 ≤ k.2 ∧ k.2 < 5
def SomeK (n : Int) (m : Nat) (L : List Key2) : Prop := L.length ≤ m ∧ ∀ k ∈ L, okKey n k
theorem SomeK.add {n : Int} {m : Nat} {L : List Key2} {d : Key2} (h : SomeK n m L) (k : okKey n d) : SomeK n (m + 1) (L ++ [d]) := by
  refine ⟨by rw [List.length_append]; exact Nat.add_le_add_right h.1 1, fun x hx => ?_⟩
  rcases List.mem_append.mp hx with z | z
  · exact h.2 x z
  · rw [List.mem_singleton.mp z]; exact k
theorem SomeK.map {n : Int} {m : Nat} {g : Nat → Key2} {p : Nat → Bool} (h : ∀ k, k < m → okKey n (g k)) : SomeK n m (((List.range m).filter p).map g) :=
  ⟨by rw [List.length_map]; exact Nat.le_trans (List.length_filter_le _ _) (by rw [List.length_range]; exact Nat.le_refl _), fun d hd => by
    obtain ⟨k, hk, rfl⟩ := List.mem_map.mp hd
    exact h k (List.mem_range.mp (List.mem_filter.mp hk).1)⟩
theorem SomeK.cat {n : Int} {a b : Nat} {L M : List Key2} (h : SomeK n a L) (k : SomeK n b M) : SomeK n (a + b) (L ++ M) :=
  ⟨by rw [List.length_append]; exact Nat.add_le_add h.1 k.1, fun x hx => (List.mem_append.mp hx).elim (h.2 x) (k.2 x)⟩
theorem mapk_app {L : List Key2} {d : Key2} : (L ++ [d]).map keyD = L.map keyD ++ [keyD d] := by rw [List.map_append]; rfl
def R_lying (ds : List PyData) (xs : List PyData) : Prop := ∃ (n : Int) (L : List Key2), ds[1]? = some (.int n) ∧ SomeK n 60 L ∧ xs = L.map keyD
abbrev P_lying (ds : List PyData) : Oc → Prop := fun oc => ∃ xs, R_lying ds xs ∧ oc = .rl xs
theorem lying_fin {ds : List PyData} : ∀ oc : Oc, P_lying ds oc → oc.isNx = false := fun oc ⟨d, _, e⟩ => by rw [e]; rfl
theorem lying_by {n : Int} {ds : List PyData} (hd : ds[1]? = some (.int n)) {te : TE} {env : List SV} {X : WX} {g : Nat → Key2} {p : Nat → Bool} {m : Nat} (hm : m ≤ 60) (h : EvO K te env (((List.range m).filter p).map fun k => keyD (g k))) (ok : ∀ k, k < m → okKey n (g k)) : Sn K X (tRet te) env (P_lying ds) := by
  refine sn_of (sx_retO h) ⟨_, ⟨n, ((List.range m).filter p).map g, hd, ⟨Nat.le_trans (SomeK.map (p := p) ok).1 hm, (SomeK.map ok).2⟩, ?_⟩, rfl⟩
  rw [List.map_map]; rfl
theorem rg5 : ∀ j : Fin 28, RgC 5 (j.val : Int) 3 (((j.val : Int) - 3) / 3).toNat := by
  unfold RgC
  decide +kernel
theorem rg5' {j : Int} (h : 0 ≤ j) (h1 : j ≤ 27) : RgC 5 j 3 ((j - 3) / 3).toNat := by
  have := rg5 ⟨j.toNat, by omega⟩
  have e : ((j.toNat : Nat) : Int) = j := by omega
  simpa only [e] using this
theorem ok_l_lying (T : Txt K mg A) : FnOk P w K mg base CX0 2 A.a_l_lying A.d_l_lying ["_law_script", "_law_size_here"] (spLN K R_lying I_maze) := by
  refine T.f_l_lying.ok sc_l_lying (fun vs H Q E h => ?_) (fun cdv Ar outer s H vs Q E hr h => ?_)
  · obtain ⟨H0, ds, sm, dv, ⟨ns, n, _, _, rfl⟩, _⟩ := h; exact dpa_len dv
  obtain ⟨H0, ds, sm, dv, ⟨ns, n, hns, hn, rfl⟩, q⟩ := h
  refine ⟨_, (pss_cons (ps_set (i := 2) sc_l_lying.nd rfl (.inl rfl) (pe_callS (E := fun _ => E0) (ok_l_cell_at T) (hr.mono (by decide)) rfl T.g_l_cell_at T.f_l_cell_at.kp (b_l_cell_at T) (fun σ => pass0S) (pa_cons (pv 0) (pa_cons pe_int pa_nil))))
      (pss_cons (ps_set (i := 3) sc_l_lying.nd rfl (.inr rfl) (pe_op op_fdiv (pe_callS (E := fun _ => E0) (ok_l_cell_at T) (hr.mono (by decide)) rfl T.g_l_cell_at T.f_l_cell_at.kp (b_l_cell_at T) (fun σ => pass0S) (pa_cons (pv 0) (pa_cons pe_int pa_nil))) pe_int))
      (pss_cons (ps_if (pt_cmpR op_eq (pe_op op_mod (pv 2) pe_int) pe_int (nomark _)) (pss_cons (ps_setLc (i := 4) (own := [("_law_k", 5)]) (g := gName 5) rfl sc_l_lying.nd rfl rfl (sw_true rfl rfl rfl (by decide +kernel)) (pi_range1 rfl T.u_range (pa_cons pe_int pa_nil)) (blkOk_by (own := [("_law_k", 5)]) (N := n_l_lying) (sc := defScope s_l_lying) (by decide +kernel))
        (fun _ _ _ _ _ => (pg_name (i := 5) sc_l_lying.nd rfl (Or.inl rfl))) (fun _ _ _ _ _ => pts_nil) (fun _ _ _ _ _ => (pe_tup (pa_cons (pe_op op_mod (pe_op op_add (pe_op op_mul (pv 3) (pe_op op_add (pe_op op_mul pe_int (pv 5)) pe_int)) (pv 5)) (pv 1)) (pa_cons (pv 5) pa_nil)))))
      (pss_one (ps_ret (pe_op op_cat (pv 4) (pe_lc (own := [("_law_k", 5)]) (g := gName 5) rfl sc_l_lying.nd (pi_range1 rfl T.u_range (pa_cons pe_int pa_nil)) (blkOk_by (own := [("_law_k", 5)]) (N := n_l_lying) (sc := defScope s_l_lying) (by decide +kernel))
        (fun _ _ _ _ _ => (pg_name (i := 5) sc_l_lying.nd rfl (Or.inl rfl))) (fun _ _ _ _ _ => (pts_one (pt_cmpR op_eq (pe_op op_mod (pv 5) pe_int) pe_int (nomark _)))) (fun _ _ _ _ _ => (pe_tup (pa_cons (pe_op op_mod (pe_op op_add (pv 5) (pv 3)) (pv 1)) (pa_cons pe_int pa_nil))))))))) pss_nil)
      (pss_cons (ps_if (pt_cmpR op_eq (pe_op op_mod (pv 2) pe_int) pe_int (nomark _)) (pss_one (ps_ret (pe_lst (pa_cons (pe_tup (pa_cons pe_int (pa_cons pe_int pa_nil))) (pa_cons (pe_tup (pa_cons (pe_op op_sub (pv 1) pe_int) (pa_cons pe_int pa_nil))) (pa_cons (pe_tup (pa_cons pe_int (pa_cons pe_int pa_nil))) (pa_cons (pe_tup (pa_cons (pe_op op_sub (pv 1) pe_int) (pa_cons pe_int pa_nil))) (pa_cons (pe_tup (pa_cons pe_int (pa_cons pe_int pa_nil))) pa_nil)))))))) pss_nil)
      (pss_cons (ps_if (pt_cmpR op_eq (pe_op op_mod (pv 2) pe_int) pe_int (nomark _)) (pss_one (ps_ret (pe_lc (own := [("_law_k", 5)]) (g := gName 5) rfl sc_l_lying.nd (pi_range2 rfl T.u_range (pa_cons pe_int (pa_cons (pv 1) pa_nil))) (blkOk_by (own := [("_law_k", 5)]) (N := n_l_lying) (sc := defScope s_l_lying) (by decide +kernel))
        (fun _ _ _ _ _ => (pg_name (i := 5) sc_l_lying.nd rfl (Or.inl rfl))) (fun _ _ _ _ _ => pts_nil) (fun _ _ _ _ _ => (pe_tup (pa_cons (pv 5) (pa_cons (pe_op op_mod (pe_op op_add (pv 5) (pv 3)) pe_int) pa_nil))))))) pss_nil)
      (pss_cons (ps_if (pt_cmpR (r := rIn K false) (by exact op_in_seq) (pe_op op_mod (pv 2) pe_int) (pe_tup (pa_cons pe_int (pa_cons pe_int pa_nil))) (by rfl)) (pss_one (ps_ret (pe_lst (pa_cons (pe_tup (pa_cons (pe_op op_mod (pv 3) (pv 1)) (pa_cons pe_int pa_nil))) (pa_cons (pe_tup (pa_cons (pe_op op_mod (pe_op op_add (pe_op op_mul (pv 3) pe_int) pe_int) (pv 1)) (pa_cons pe_int pa_nil))) pa_nil))))) pss_nil)
      (pss_cons (ps_if (PW.pt (pw_or (pt_cmpR op_eq (pe_op op_mod (pv 2) pe_int) pe_int (nomark _)) (pw_or1 (pt_cmpR op_eq (pe_op op_mod (pv 2) pe_int) pe_int (nomark _))))) (pss_one (ps_ret (pe_lc (own := [("_law_k", 5)]) (g := gName 5) rfl sc_l_lying.nd (pi_range1 rfl T.u_range (pa_cons (pe_op op_add pe_int (pe_op op_mod (pv 3) pe_int)) pa_nil)) (blkOk_by (own := [("_law_k", 5)]) (N := n_l_lying) (sc := defScope s_l_lying) (by decide +kernel))
        (fun _ _ _ _ _ => (pg_name (i := 5) sc_l_lying.nd rfl (Or.inl rfl))) (fun _ _ _ _ _ => pts_nil) (fun _ _ _ _ _ => (pe_tup (pa_cons (pe_op op_mod (pe_op op_add (pe_op op_mul (pv 5) (pv 5)) (pv 3)) (pv 1)) (pa_cons (pe_op op_mod (pe_op op_mul (pv 5) pe_int) pe_int) pa_nil))))))) pss_nil)
      (pss_cons (ps_set (i := 4) sc_l_lying.nd rfl (.inl rfl) (pe_lst pa_nil))
      (pss_cons (ps_if (pt_cmpR op_eq (pe_op op_mod (pv 2) pe_int) pe_int (nomark _)) (pss_one (ps_setLc (i := 4) (own := [("_law_k", 5)]) (g := gName 5) rfl sc_l_lying.nd rfl rfl (sw_true rfl rfl rfl (by decide +kernel)) (pi_range2 rfl T.u_range (pa_cons pe_int (pa_cons (pv 1) pa_nil))) (blkOk_by (own := [("_law_k", 5)]) (N := n_l_lying) (sc := defScope s_l_lying) (by decide +kernel))
        (fun _ _ _ _ _ => (pg_name (i := 5) sc_l_lying.nd rfl (Or.inl rfl))) (fun _ _ _ _ _ => pts_nil) (fun _ _ _ _ _ => (pe_tup (pa_cons (pv 5) (pa_cons (pe_op op_sub (pv 5) pe_int) pa_nil)))))) pss_nil)
      (pss_cons (ps_for PassesOwn.never rfl (pi_range3 rfl T.u_range (pa_cons pe_int (pa_cons (pe_callB (call_min2 rfl) (by rfl) T.u_min (by decide +kernel) (pa_cons (pe_callB call_len_seq (by rfl) T.u_len (by decide +kernel) (pa_cons (pv 0) pa_nil)) (pa_cons pe_int pa_nil))) (pa_cons pe_int pa_nil)))) (pg_name (i := 5) sc_l_lying.nd rfl (Or.inl rfl))
        (pss_one (ps_expr (pe_bm PySem.F.plainAttrs_list PySem.F.slot_list_append PySem.F.type_list_append mt_append (pv 4) (pa_cons (pe_tup (pa_cons (pe_op op_mod (pe_callS (E := fun _ => E0) (ok_l_mix T) (hr.mono (by decide)) rfl T.g_l_mix T.f_l_mix.kp (b_l_mix T) (fun σ => pass0S) (pa_cons (pe_ix (r := rIxL K) (by exact ix_list) (pv 0) (pv 5) (fun _ _ => rfl)) (pa_cons pe_int pa_nil))) (pv 1)) (pa_cons (pe_op op_mod (pe_callS (E := fun _ => E0) (ok_l_mix T) (hr.mono (by decide)) rfl T.g_l_mix T.f_l_mix.kp (b_l_mix T) (fun σ => pass0S) (pa_cons (pe_ix (r := rIxL K) (by exact ix_list) (pv 0) (pv 5) (fun _ _ => rfl)) (pa_cons pe_int pa_nil))) pe_int) pa_nil))) pa_nil)))))
      (pss_one (ps_ret (pv 4))))))))))))), ?_⟩
  refine Pf.runN (X := fun _ _ _ _ => False) (P := P_lying [.list (ns.map .int), .int n]) sm dv rfl ?_ (fun oc ⟨xs, r, e⟩ => by subst e; exact fun p ws G H2 fr w1 w2 w3 w4 => q xs r p ws G H2 fr (w1.elim False.elim id) w2 w3 w4)
  refine sn_seq1 (sx_set (ev_call (ea_cons (ev_var rfl) (ea_cons (ev_c rfl) ea_nil)) ⟨ns, 0, by decide, rfl, rfl⟩)) ?_
  generalize cellAt ns 0 = f at hn
  obtain ⟨⟨hn1, hn60⟩, h68, h10, h5, h3⟩ := hn
  have n0 : 0 < n := by omega
  refine sn_seq1 (sx_set (d := .int (cellAt ns 1 / 60)) (ev_I (ev_call (ea_cons (ev_var rfl) (ea_cons (ev_c rfl) ea_nil)) ⟨ns, 1, by decide, rfl, rfl⟩) (ev_c rfl) ⟨by decide, by decide⟩ rfl)) ?_
  generalize cellAt ns 1 / 60 = u
  have eq : ∀ c : Int, EvT K (tTest (tOp rEq (tOp (rI (fun _ j => 0 < j) fun i j => V.int (i % j)) (tVar 2) (tC (.int 12))) (tC (.int c)))) [.dat (.list (ns.map .int)), .dat (.int n), .dat (.int f), .dat (.int u), .no, .no] (decide (f % 12 = c)) := fun c => by
    walk_at "ev"; decide
  have eq6 : ∀ {e : SV} (c : Int), EvT K (tTest (tOp rEq (tOp (rI (fun _ j => 0 < j) fun i j => V.int (i % j)) (tVar 2) (tC (.int 6))) (tC (.int c)))) [.dat (.list (ns.map .int)), .dat (.int n), .dat (.int f), .dat (.int u), e, .no] (decide (f % 6 = c)) := fun c => by
    walk_at "ev"; decide
  refine sn_when (eq 4) (fun c => ?_) lying_fin (fun c4 => ?_)
  · refine sn_seq1 (sx_setO (eo_lcR (n := 4) (fun _ => true) (fun k => keyD ((u * (2 * (k : Int) + 1) + k) % n, (k : Int))) (ea_cons (ev_c rfl) ea_nil) (by decide) rfl fun k hk => ⟨_, tgw_name (by decide), et_yes, fun _ => ?_⟩)) ?_
    · refine ev_tup (ea_cons (ev_I (ev_I0 (ev_I (ev_var rfl) (ev_I0 (ev_I (ev_c rfl) (ev_var rfl) (cm0 (by decide)) rfl) (ev_c rfl) rfl) (cm1 (by omega)) rfl) (ev_var rfl) rfl) (ev_var rfl) n0 rfl) (ea_cons (ev_var rfl) ea_nil)) (Nat.le_of_ble_eq_true rfl)
    refine sn_of (sx_retO (eo_cat (el_var rfl) (EvO.l (eo_lcR (n := 60) (fun k => decide ((k : Int) % 2 = 1)) (fun k => keyD (((k : Int) + u) % n, 4)) (ea_cons (ev_c rfl) ea_nil) (by decide) rfl fun k hk => ⟨_, tgw_name (by decide), ?_, fun _ => ?_⟩)) ?_)) ⟨_, ⟨n, ((List.range 4).filter fun _ => true).map (fun (k : Nat) => (((u * (2 * (k : Int) + 1) + k) % n, (k : Int)) : Key2)) ++ ((List.range 60).filter fun (k : Nat) => decide ((k : Int) % 2 = 1)).map (fun (k : Nat) => ((((k : Int) + u) % n, 4) : Key2)), rfl, ⟨?_, fun x hx => ?_⟩, ?_⟩, rfl⟩
    · walk_at "ev"; decide
    · refine ev_tup (ea_cons (ev_I (ev_I0 (ev_var rfl) (ev_var rfl) rfl) (ev_var rfl) n0 rfl) (ea_cons (ev_c rfl) ea_nil)) (Nat.le_of_ble_eq_true rfl)
    · rw [List.length_map, List.length_map]
      have h1 := List.length_filter_le (fun _ : Nat => true) (List.range 4)
      have h2 := List.length_filter_le (fun (k : Nat) => decide ((k : Int) % 2 = 1)) (List.range 60)
      rw [List.length_range] at h1 h2
      omega
    · rw [List.length_append, List.length_map, List.length_map]
      decide
    · rcases List.mem_append.mp hx with h | h
      · obtain ⟨k, hk, rfl⟩ := List.mem_map.mp h
        have := List.mem_range.mp (List.mem_filter.mp hk).1
        exact ⟨room_mod n0, by show 0 ≤ (k : Int); omega, by show (k : Int) < 5; omega⟩
      · obtain ⟨k, hk, rfl⟩ := List.mem_map.mp h
        exact ⟨room_mod n0, by show (0 : Int) ≤ 4; decide, by show (4 : Int) < 5; decide⟩
    · rw [List.map_append, List.map_map, List.map_map]; rfl
  refine sn_when (eq 10) (fun c => ?_) lying_fin (fun c10 => ?_)
  · have hn20 := h10 (of_decide_eq_true c)
    refine sn_of (sx_retO (eo_lst (ds := [keyD (2, 0), keyD (n - 3, 1), keyD (1, 2), keyD (n - 2, 3), keyD (0, 4)]) ?_ (Nat.le_of_ble_eq_true rfl))) ⟨_, ⟨n, [(2, 0), (n - 3, 1), (1, 2), (n - 2, 3), (0, 4)], rfl, ⟨by show 5 ≤ 60; decide, fun x hx => ?_⟩, rfl⟩, rfl⟩
    · exact ea_cons (ev_tup (ea_cons (ev_c rfl) (ea_cons (ev_c rfl) ea_nil)) (Nat.le_of_ble_eq_true rfl)) (ea_cons (ev_tup (ea_cons (ev_I0 (ev_var rfl) (ev_c rfl) rfl) (ea_cons (ev_c rfl) ea_nil)) (Nat.le_of_ble_eq_true rfl)) (ea_cons (ev_tup (ea_cons (ev_c rfl) (ea_cons (ev_c rfl) ea_nil)) (Nat.le_of_ble_eq_true rfl)) (ea_cons (ev_tup (ea_cons (ev_I0 (ev_var rfl) (ev_c rfl) rfl) (ea_cons (ev_c rfl) ea_nil)) (Nat.le_of_ble_eq_true rfl)) (ea_cons (ev_tup (ea_cons (ev_c rfl) (ea_cons (ev_c rfl) ea_nil)) (Nat.le_of_ble_eq_true rfl)) ea_nil))))
    · simp only [List.mem_cons, List.not_mem_nil, or_false] at hx
      unfold okKey inRoom
      rcases hx with rfl | rfl | rfl | rfl | rfl <;> (dsimp only; omega)
  refine sn_when (eq 7) (fun c => ?_) lying_fin (fun c7 => ?_)
  · refine lying_by (n := n) rfl (g := fun k => (1 + (k : Int), (1 + (k : Int) + u) % 5)) (p := fun _ => true) (m := (n - 1).toNat) (by omega) (eo_lcR2 (lo := 1) (k := n) _ _ (ea_cons (ev_c rfl) (ea_cons (ev_var rfl) ea_nil)) (by omega) (by decide) rfl (by omega) fun k hk => ⟨_, tgw_name (by decide), et_yes, fun _ => ?_⟩) fun k hk => ⟨⟨by show 0 ≤ 1 + (k : Int); omega, by show 1 + (k : Int) < n; omega⟩, by show 0 ≤ (1 + (k : Int) + u) % 5; omega, by show (1 + (k : Int) + u) % 5 < 5; omega⟩
    exact ev_tup (ea_cons (ev_var rfl) (ea_cons (ev_I (ev_I0 (ev_var rfl) (ev_var rfl) rfl) (ev_c rfl) (by decide) rfl) ea_nil)) (Nat.le_of_ble_eq_true rfl)
  refine sn_when (b := decide (f % 12 = 6 ∨ f % 12 = 8)) (EvT.is (b := [PyData.int 6, .int 8].any fun z => eqF z (.int (f % 12))) (by walk_at "ev"; decide) (any2 _ _ _)) (fun c => ?_) lying_fin (fun c68 => ?_)
  · refine sn_of (sx_retO (eo_lst (ds := [keyD (u % n, 0), keyD ((u * 7 + 5) % n, 0)]) ?_ (Nat.le_of_ble_eq_true rfl))) ⟨_, ⟨n, [(u % n, 0), ((u * 7 + 5) % n, 0)], rfl, ⟨by show 2 ≤ 60; decide, fun x hx => ?_⟩, rfl⟩, rfl⟩
    · exact ea_cons (ev_tup (ea_cons (ev_I (ev_var rfl) (ev_var rfl) n0 rfl) (ea_cons (ev_c rfl) ea_nil)) (Nat.le_of_ble_eq_true rfl)) (ea_cons (ev_tup (ea_cons (ev_I (ev_I0 (ev_I (ev_var rfl) (ev_c rfl) (cm1 (by decide)) rfl) (ev_c rfl) rfl) (ev_var rfl) n0 rfl) (ea_cons (ev_c rfl) ea_nil)) (Nat.le_of_ble_eq_true rfl)) ea_nil)
    · simp only [List.mem_cons, List.not_mem_nil, or_false] at hx
      rcases hx with rfl | rfl <;> exact ⟨room_mod n0, by show (0 : Int) ≤ 0; decide, by show (0 : Int) < 5; decide⟩
  apply sn_when
  · exact et_or (eq 5) fun _ => eq 9
  · intro _
    refine lying_by (n := n) rfl (g := fun k => (((k : Int) * k + u) % n, (k : Int) * 3 % 5)) (p := fun _ => true) (m := (5 + u % 56).toNat) (by omega) (eo_lcR (k := 5 + u % 56) _ _ (ea_cons ?_ ea_nil) (by omega) rfl fun k hk => ⟨_, tgw_name (by decide), et_yes, fun _ => ?_⟩) fun k hk => ⟨room_mod n0, by show 0 ≤ (k : Int) * 3 % 5; omega, by show (k : Int) * 3 % 5 < 5; omega⟩
    · walk_at "ev"; decide
    · exact ev_tup (ea_cons (ev_I (ev_I0 (ev_I (ev_var rfl) (ev_var rfl) (cm1 (by omega)) rfl) (ev_var rfl) rfl) (ev_var rfl) n0 rfl) (ea_cons (ev_I (ev_I (ev_var rfl) (ev_c rfl) (cm1 (by decide)) rfl) (ev_c rfl) (by decide) rfl) ea_nil)) (Nat.le_of_ble_eq_true rfl)
  · exact lying_fin
  intro c59
  have hne : ¬ f % 12 = 9 := fun z => by rw [decide_eq_true z, Bool.or_true] at c59; cases c59
  refine sn_seq1 (sx_setO (eo_lst ea_nil (by decide))) ?_
  refine sn_ifs (b := decide (f % 6 = 3)) (M := fun e => ∃ L, SomeK n 30 L ∧ e = [.dat (.list (ns.map .int)), .dat (.int n), .dat (.int f), .dat (.int u), .own (L.map keyD), .no]) (eq6 3) (fun c => ?_) (fun _ => sn_of sx_next ⟨_, rfl, [], ⟨Nat.zero_le _, fun _ h => nomatch h⟩, rfl⟩) fun e ⟨L, hL, he⟩ => ?_
  · have hn6 : n ≤ 6 := h3 (by have := of_decide_eq_true c; omega)
    have ok : ∀ k : Nat, k < (n - 1).toNat → okKey n (1 + (k : Int), 1 + (k : Int) - 1) := fun k hk => ⟨⟨by show 0 ≤ 1 + (k : Int); omega, by show 1 + (k : Int) < n; omega⟩, by show 0 ≤ 1 + (k : Int) - 1; omega, by show 1 + (k : Int) - 1 < 5; omega⟩
    refine sn_of (sx_setO (eo_lcR2 (lo := 1) (k := n) (n := (n - 1).toNat) (fun _ => true) (fun k => keyD (1 + (k : Int), 1 + (k : Int) - 1)) (ea_cons (ev_c rfl) (ea_cons (ev_var rfl) ea_nil)) (by omega) (by decide) rfl (by omega) fun k hk => ⟨_, tgw_name (by decide), et_yes, fun _ => ?_⟩)) ⟨_, rfl, ((List.range (n - 1).toNat).filter fun _ => true).map fun (k : Nat) => (1 + (k : Int), 1 + (k : Int) - 1), ⟨Nat.le_trans (SomeK.map (p := fun _ => true) ok).1 (by omega), (SomeK.map ok).2⟩, ?_⟩
    · exact ev_tup (ea_cons (ev_var rfl) (ea_cons (ev_I0 (ev_var rfl) (ev_c rfl) rfl) ea_nil)) (Nat.le_of_ble_eq_true rfl)
    · rw [List.map_map]; rfl
  subst he
  have m0 : 0 ≤ (if (27 : Int) < (ns.length : Int) then 27 else (ns.length : Int)) ∧ (if (27 : Int) < (ns.length : Int) then 27 else (ns.length : Int)) ≤ 27 ∧ (if (27 : Int) < (ns.length : Int) then 27 else (ns.length : Int)) ≤ ns.length := by split <;> omega
  have hlen : Ev K (tCB (fun xs H Q => ∃ i j, xs = [.int i, .int j] ∧ Q (.int (if j < i then j else i)) H) (tCons (tCB (fun xs H Q => ∃ p ys, xs = [.ref p] ∧ (SqL K H p ys ∨ SqT K H p ys) ∧ Q (.int ys.length) H) (tCons (tVar 0) tNil)) (tCons (tC (.int 27)) tNil))) [.dat (.list (ns.map .int)), .dat (.int n), .dat (.int f), .dat (.int u), .own (L.map keyD), .no] (.int (if (27 : Int) < (ns.length : Int) then 27 else (ns.length : Int))) :=
    Ev.is (d := .int (if (27 : Int) < ((ns.map PyData.int).length : Int) then 27 else ((ns.map PyData.int).length : Int))) (ev_min2 (ev_len (ev_var rfl)) (ev_c rfl)) (by rw [List.length_map])
  generalize (if (27 : Int) < (ns.length : Int) then 27 else (ns.length : Int)) = m at m0 hlen
  refine sn_seq (sn_forR3 (lo := 5) (k := m) (c := 3) (ea_cons (ev_c rfl) (ea_cons hlen (ea_cons (ev_c rfl) ea_nil))) (rg5' m0.1 m0.2.1) (fun i e => ∃ L, SomeK n (30 + i) L ∧ e = [.dat (.list (ns.map .int)), .dat (.int n), .dat (.int f), .dat (.int u), .own (L.map keyD), .no]) ⟨L, hL, rfl⟩ fun i e hi ⟨L, hL, he⟩ => ?_) fun e ⟨L, hL, he⟩ => ?_
  · subst he
    refine ⟨_, tg_name, ?_⟩
    have sz : L.length < 100000 := by have := hL.1; omega
    have hix := at_ns (ns := ns) (k := 5 + (i : Int) * 3) (by omega) (by omega)
    generalize ns.getD (5 + (i : Int) * 3).toNat 0 = c at hix
    refine sn_out1 (sx_app (d := keyD (mix c 0 % n, mix c 2 % 5)) rfl (ev_tup (ea_cons (ev_I (ev_call (ea_cons (ev_ixL (ev_var rfl) (ev_var rfl) hix) (ea_cons (ev_c rfl) ea_nil)) ⟨c, 0, rfl, rfl⟩) (ev_var rfl) n0 rfl) (ea_cons (ev_I (ev_call (ea_cons (ev_ixL (ev_var rfl) (ev_var rfl) hix) (ea_cons (ev_c rfl) ea_nil)) ⟨c, 2, rfl, rfl⟩) (ev_c rfl) (by decide) rfl) ea_nil)) (Nat.le_of_ble_eq_true rfl)) (by rw [List.length_map]; exact sz)) ⟨[.dat (.list (ns.map .int)), .dat (.int n), .dat (.int f), .dat (.int u), .own ((L ++ [(mix c 0 % n, mix c 2 % 5)]).map keyD), .no], ?_, _, hL.add ⟨room_mod n0, by show 0 ≤ mix c 2 % 5; omega, by show mix c 2 % 5 < 5; omega⟩, rfl⟩
    rw [mapk_app]; walk_at "less"
  · subst he
    refine sn_of (sx_retV rfl) ⟨_, ⟨n, L, rfl, ⟨?_, hL.2⟩, rfl⟩, rfl⟩
    have := hL.1
    omega

def okMaze (m : Maze) : Prop := okKeys m.ks ∧ m.ds.length ≤ 1000 ∧ ∀ d ∈ m.ds, inRoom m.n d.1 ∧ inRoom m.n d.2.1

/-! opens, far_end, steps -/
def stateD (s : Int × List Int) : PyData := .tuple [.int s.1, handD s.2]
def opensF (l : Option Int) (held : List Int) : Bool := match l with
  | none => true
  | some k => decide (k ∈ held)
def otherF (d : Door) (r : Int) : Int := if d.1 = r then d.2.1 else d.1
theorem optD_flat (l : Option Int) : flatD (optD l) = true := by cases l <;> rfl
theorem opt_any (held : List Int) (l : Option Int) : (isN (optD l) || ((held.map PyData.int).any fun z => eqF z (optD l))) = opensF l held := by
  cases l with
  | none => rfl
  | some k => exact ints_any held k
def R_opens (ds : List PyData) (d : PyData) : Prop := ∃ (x : Door) (held : List Int), ds = [doorD x, handD held] ∧ d = .bool (opensF x.2.2 held)
theorem ok_opens (T : Txt K mg A) : FnOk P w K mg base CX0 1 A.a_opens A.d_opens ["door", "held"] (spG K R_opens) := by
  refine T.f_opens.ok sc_opens (fun vs H Q E h => ?_) (fun cdv Ar outer s H vs Q E hr h => ?_)
  · obtain ⟨H0, ds, d, sm, dv, ⟨x, held, rfl, _⟩, _⟩ := h; exact dpa_len dv
  obtain ⟨H0, ds, d, sm, dv, ⟨x, held, rfl, rfl⟩, q⟩ := h
  refine ⟨_, (pss_cons (ps_set (i := 2) sc_opens.nd rfl (.inl rfl) (pe_ix (r := rIxT K) (by exact ix_tup) (pv 0) pe_int (fun _ _ => rfl)))
      (pss_one (ps_ret (pe_or (pe_cmpR op_isN (pv 2) pe_non (nomark _)) (pe_one (pe_cmpR (r := rIn K false) (by exact op_in_seq) (pv 2) (pv 1) (by rfl))))))), ?_⟩
  refine Pf.run (X := fun _ _ _ _ => False) (oc := .rt (.bool (opensF x.2.2 held))) sm dv rfl ?_ q
  refine sx_seq (sx_set (ev_ixT (ds := [.int x.1, .int x.2.1, optD x.2.2]) (ev_var rfl) (ev_c rfl) rfl)) ?_
  exact sx_ret ((ev_orV (ev_isN (ev_var rfl)) fun _ => ev_inT (ds := held.map .int) (ev_var rfl) (ev_var rfl) (optD_flat _) (ints_flat _)).is (by rw [opt_any]))

def R_far_end (ds : List PyData) (d : PyData) : Prop := ∃ (x : Door) (r : Int), ds = [doorD x, .int r] ∧ d = .int (otherF x r)
theorem ok_far_end (T : Txt K mg A) : FnOk P w K mg base CX0 1 A.a_far_end A.d_far_end ["door", "room"] (spG K R_far_end) := by
  refine T.f_far_end.ok sc_far_end (fun vs H Q E h => ?_) (fun cdv Ar outer s H vs Q E hr h => ?_)
  · obtain ⟨H0, ds, d, sm, dv, ⟨x, r, rfl, _⟩, _⟩ := h; exact dpa_len dv
  obtain ⟨H0, ds, d, sm, dv, ⟨x, r, rfl, rfl⟩, q⟩ := h
  refine ⟨_, (pss_cons (ps_asg (pv 0) (pg_tup rfl (pgs_cons (pg_name (i := 2) sc_far_end.nd rfl (Or.inl rfl)) (pgs_cons (pg_name (i := 3) sc_far_end.nd rfl (Or.inl rfl)) (pgs_cons (pg_name (i := 4) sc_far_end.nd rfl (Or.inl rfl)) pgs_nil)))))
      (pss_one (ps_ret (pe_ifExp (pt_cmpR op_eq (pv 2) (pv 1) (nomark _)) (pv 3) (pv 2))))), ?_⟩
  refine Pf.run (X := fun _ _ _ _ => False) (oc := .rt (.int (otherF x r))) sm dv rfl ?_ q
  refine sx_seq (sx_asg (d := .tuple [.int x.1, .int x.2.1, optD x.2.2]) (ev_var rfl) (tg_tup (tgs_cons tg_name (tgs_cons tg_name (tgs_cons tg_name tgs_nil))) rfl)) ?_
  refine sx_ret (ev_if (b := decide (x.1 = r)) (et_test (ev_eqI (ev_var rfl) (ev_var rfl))) (fun c => (ev_var (d := .int x.2.1) rfl).is ?_) fun c => (ev_var (d := .int x.1) rfl).is ?_)
  · unfold otherF; rw [if_pos (of_decide_eq_true c)]
  · unfold otherF; rw [if_neg (of_decide_eq_false c)]
def viaF (r : Int) (held : List Int) (d : Door) : Bool := decide (r = d.1 ∨ r = d.2.1) && opensF d.2.2 held
def toF (ks : List Key2) (r : Int) (held : List Int) (d : Door) : Int × List Int := (otherF d r, taken ks (otherF d r) held)
def stepsF (m : Maze) (r : Int) (held : List Int) : List (Int × List Int) := (m.ds.filter (viaF r held)).map (toF m.ks r held)
def R_steps (ds : List PyData) (xs : List PyData) : Prop := ∃ (m : Maze) (r : Int) (held : List Int), (okMaze m ∧ held.length ≤ 50 ∧ inRoom m.n r) ∧ ds = [mazeD m, .int r, handD held] ∧ xs = (stepsF m r held).map stateD
def B_steps (A : Ad) (ds : List PyData) (c : Value) : Prop := ∃ (m : Maze) (r : Int) (held : List Int), ¬ inRoom m.n r ∧ ds = [mazeD m, .int r, handD held] ∧ c = .ref A.c_NoRoom
theorem ok_steps (T : Txt K mg A) : FnOk P w K mg base (L2.CX P w) 4 A.a_steps A.d_steps ["maze", "room", "held"] (spXL K R_steps (B_steps A)) := by
  refine T.f_steps.okX sc_steps (fun vs H Q E h => ?_) (fun cdv Ar outer s H vs Q E hr h => ?_)
  · obtain ⟨H0, ds, sm, dv, ⟨d, ⟨m, r, held, _, rfl, _⟩, _⟩ | ⟨c, ⟨m, r, held, _, rfl, _⟩, _⟩⟩ := h <;> exact dpa_len dv
  obtain ⟨H0, ds, sm, dv, hh⟩ := h
  refine ⟨_, (pss_cons (ps_asg (pv 0) (pg_tup rfl (pgs_cons (pg_name (i := 3) sc_steps.nd rfl (Or.inl rfl)) (pgs_cons (pg_name (i := 4) sc_steps.nd rfl (Or.inl rfl)) (pgs_cons (pg_name (i := 5) sc_steps.nd rfl (Or.inl rfl)) pgs_nil)))))
      (pss_cons (ps_expr (pe_callS (ok_need_room T) (hr.mono (by decide)) rfl T.g_need_room T.f_need_room.kp (b_need_room T) (fun σ => passAt (takes_of rfl rfl rfl rfl) σ) (pa_cons (pv 3) (pa_cons (pv 1) pa_nil))))
      (pss_cons (ps_set (i := 6) sc_steps.nd rfl (.inl rfl) (pe_lst pa_nil))
      (pss_cons (ps_for (passes_of rfl) rfl (pi_list (pv 4)) (pg_name (i := 7) sc_steps.nd rfl (Or.inl rfl))
        (pss_one (ps_if (PW.pt (pw_and (pt_cmpR (r := rIn K false) (by exact op_in_seq) (pv 1) (pe_tup (pa_cons (pe_ix (r := rIxT K) (by exact ix_tup) (pv 7) pe_int (fun _ _ => rfl)) (pa_cons (pe_ix (r := rIxT K) (by exact ix_tup) (pv 7) pe_int (fun _ _ => rfl)) pa_nil))) (by rfl)) (pw_and1 (pt_val (pe_callS (E := fun _ => E0) (ok_opens T) (hr.mono (by decide)) rfl T.g_opens T.f_opens.kp (b_opens T) (fun σ => pass0S) (pa_cons (pv 7) (pa_cons (pv 2) pa_nil))))))) (pss_cons (ps_set (i := 8) sc_steps.nd rfl (.inl rfl) (pe_callS (E := fun _ => E0) (ok_far_end T) (hr.mono (by decide)) rfl T.g_far_end T.f_far_end.kp (b_far_end T) (fun σ => pass0S) (pa_cons (pv 7) (pa_cons (pv 1) pa_nil))))
      (pss_one (ps_expr (pe_bm PySem.F.plainAttrs_list PySem.F.slot_list_append PySem.F.type_list_append mt_append (pv 6) (pa_cons (pe_tup (pa_cons (pv 8) (pa_cons (pe_callS (ok_taken T) (hr.mono (by decide)) rfl T.g_taken T.f_taken.kp (b_taken T) (fun σ => passAt (takes_of rfl rfl rfl rfl) σ) (pa_cons (pv 0) (pa_cons (pv 8) (pa_cons (pv 2) pa_nil)))) pa_nil))) pa_nil))))) pss_nil)))
      (pss_one (ps_ret (pv 6))))))), ?_⟩
  rcases hh with ⟨xs, ⟨m, r, held, ⟨⟨hk, hd, hdo⟩, hh, hr0⟩, rfl, rfl⟩, q⟩ | ⟨c, ⟨m, r, held, hr0, rfl, rfl⟩, q⟩
  · refine Pf.run (X := fun cls d _ H => E cls d H) (oc := .rl ((stepsF m r held).map stateD)) sm dv rfl ?_ (fun p ws G H2 fr w1 w2 w3 w4 => q p ws G H2 fr (w1.elim False.elim id) w2 w3 w4)
    refine sx_seq (sx_asg (ev_var rfl) tg_maze) ?_
    refine sx_seq (sx_drop (ev_callX (ea_cons (ev_var rfl) (ea_cons (ev_var rfl) ea_nil)) ⟨m.n, r, hr0, rfl, rfl⟩)) ?_
    refine sx_seq (sx_setO (eo_lst ea_nil (by decide))) ?_
    refine sx_seq (sx_for (ds := m.ds.map doorD) (ev_var rfl) (fun i => [.dat (mazeD m), .dat (.int r), .dat (handD held), .dat (.int m.n), .dat (.list (m.ds.map doorD)), .dat (.list (m.ks.map keyD)), .own ((((m.ds.take i).filter (viaF r held)).map (toF m.ks r held)).map stateD), .no, .no]) rfl fun i d hi => ?_) ?_
    · rw [List.getElem?_map] at hi
      cases ei : m.ds[i]? with
      | none => rw [ei] at hi; cases hi
      | some x =>
        rw [ei] at hi
        obtain rfl := Option.some.inj hi
        refine ⟨_, tg_name, ?_⟩
        try dsimp only
        rw [take_next ei, List.map_append]
        have sz : ((((m.ds.take i).filter (viaF r held)).map (toF m.ks r held)).map stateD).length < 100000 := by
          rw [List.length_map, List.length_map]
          have := List.length_filter_le (viaF r held) (m.ds.take i)
          rw [List.length_take] at this
          omega
        generalize ((m.ds.take i).filter (viaF r held)).map (toF m.ks r held) = Z at sz
        have hx := hdo x (List.mem_of_getElem? ei)
        have ho : inRoom m.n (otherF x r) := by unfold otherF; (split <;> first | exact hx.2 | exact hx.1)
        refine .inl (sx_if (b := viaF r held x) (et_and ((et_test (ev_inT (ds := [.int x.1, .int x.2.1]) (ev_var rfl) (ev_tup (ea_cons (ev_ixT (ds := [.int x.1, .int x.2.1, optD x.2.2]) (ev_var rfl) (ev_c rfl) rfl) (ea_cons (ev_ixT (ds := [.int x.1, .int x.2.1, optD x.2.2]) (ev_var rfl) (ev_c rfl) rfl) ea_nil)) (Nat.le_of_ble_eq_true rfl)) rfl rfl)).is (any2 _ _ _)) fun _ => et_B (ev_call (ea_cons (ev_var rfl) (ea_cons (ev_var rfl) ea_nil)) ⟨x, held, rfl, rfl⟩)) (fun c => ?_) fun c => ?_)
        · rw [if_pos c]
          refine sx_seq (sx_set (ev_call (ea_cons (ev_var rfl) (ea_cons (ev_var rfl) ea_nil)) ⟨x, r, rfl, rfl⟩)) ?_
          refine nx_less (sx_app (d := stateD (toF m.ks r held x)) rfl (ev_tup (ea_cons (ev_var rfl) (ea_cons (ev_callX (ea_cons (ev_var rfl) (ea_cons (ev_var rfl) (ea_cons (ev_var rfl) ea_nil))) ⟨m, otherF x r, held, ⟨hk, hh, ho⟩, rfl, rfl⟩) ea_nil)) (Nat.le_of_ble_eq_true rfl)) sz) (by walk_at "less")
        · rw [if_neg (by rw [c]; decide), List.map_nil, List.append_nil]
          exact nx_less sx_next (by walk_at "less")
    · rw [List.length_map, List.take_length]
      exact sx_retV rfl
  · refine Pf.run (X := fun cls d _ H => E cls d H) (oc := .ex (.ref A.c_NoRoom) [.dat (mazeD m), .dat (.int r), .dat (handD held), .dat (.int m.n), .dat (.list (m.ds.map doorD)), .dat (.list (m.ks.map keyD)), .no, .no, .no]) sm dv rfl ?_ (fun σ G H2 f _ _ => q G H2 f)
    refine sx_seq (sx_asg (ev_var rfl) tg_maze) ?_
    exact sx_end (sx_outD (evx_call (ea_cons (ev_var rfl) (ea_cons (ev_var rfl) ea_nil)) ⟨m.n, r, hr0, rfl, rfl⟩)) rfl

/-! keys as data -/
theorem sh_key {k : Key2} : Sh 1 (keyD k) := sh2 sh_int sh_int
theorem key_inj {a b : Key2} : a = b ↔ keyD a = keyD b := ⟨congrArg keyD, fun h => by
  obtain ⟨a1, a2⟩ := a
  obtain ⟨b1, b2⟩ := b
  injection h with h
  injection h with h1 h2
  injection h2 with h2 _
  injection h1 with h1
  injection h2 with h2
  exact Prod.ext h1 h2⟩
theorem keys_any (ks : List Key2) (k : Key2) : ((ks.map keyD).any fun z => PyData.eqv z (keyD k)) = decide (k ∈ ks) := by
  rw [Bool.eq_iff_iff, List.any_eq_true, decide_eq_true_eq]
  constructor
  · rintro ⟨z, hz, h⟩
    obtain ⟨x, hx, rfl⟩ := List.mem_map.mp hz
    rw [eqv_dec sh_key sh_key key_inj, decide_eq_true_eq] at h
    rw [← h]; exact hx
  · intro h
    exact ⟨keyD k, List.mem_map.mpr ⟨k, h, rfl⟩, by rw [eqv_dec sh_key sh_key key_inj]; exact decide_eq_true rfl⟩
theorem sh_keys (ks : List Key2) : Sh 2 (.list (ks.map keyD)) := sh_lst (sh_map fun _ _ => sh_key)

/-! the law's own taken -/
def okHeld (held : List Int) : Prop := held.length ≤ 50 ∧ ∀ x ∈ held, 0 ≤ x ∧ x < 5
theorem taken_kind {ks : List Key2} (h : okKeys ks) {held : List Int} (hh : okHeld held) {r : Int} : ∀ x ∈ taken ks r held, 0 ≤ x ∧ x < 5 := fun x hx => by
  unfold taken at hx
  rcases List.mem_append.mp (rise_mem.mp hx) with z | z
  · exact hh.2 x z
  · exact keysIn_kind h x z
theorem taken_ok {ks : List Key2} (h : okKeys ks) {held : List Int} (hh : okHeld held) {r : Int} : okHeld (taken ks r held) := by
  refine ⟨?_, taken_kind h hh⟩
  have := up_short (rise_up (held ++ keysIn ks r)) (a := 0) (b := 5) (taken_kind h hh (r := r))
  rw [if_pos (by decide)] at this
  show (rise (held ++ keysIn ks r)).length ≤ 50
  omega
theorem five_is {p : Int → Bool} {L : List Int} (h : L.Pairwise (· < ·)) (hL : ∀ x, x ∈ L ↔ (0 ≤ x ∧ x < 5) ∧ p x = true) : ((List.range 5).filter fun (k : Nat) => p (k : Int)).map (fun (k : Nat) => (k : Int)) = L := by
  refine rising_one ?_ h fun x => ?_
  · refine List.Pairwise.map _ (R := (· < ·)) (fun a b h => by exact_mod_cast h) ?_
    exact List.Pairwise.filter _ List.pairwise_lt_range
  · rw [hL, List.mem_map]
    constructor
    · rintro ⟨k, hk, rfl⟩
      obtain ⟨h1, h2⟩ := List.mem_filter.mp hk
      have := List.mem_range.mp h1
      exact ⟨⟨by omega, by omega⟩, h2⟩
    · rintro ⟨⟨h1, h2⟩, h3⟩
      refine ⟨x.toNat, List.mem_filter.mpr ⟨List.mem_range.mpr (by omega), ?_⟩, by omega⟩
      have : (x.toNat : Int) = x := by omega
      rw [this]; exact h3
def R_ltaken (ds : List PyData) (d : PyData) : Prop := ∃ (ks : List Key2) (r : Int) (held : List Int), (okKeys ks ∧ okHeld held) ∧ ds = [.list (ks.map keyD), .int r, handD held] ∧ d = handD (taken ks r held)
theorem ok_l_taken (T : Txt K mg A) : FnOk P w K mg base CX0 1 A.a_l_taken A.d_l_taken ["_law_lying_here", "_law_room", "_law_held"] (spG K R_ltaken) := by
  refine T.f_l_taken.ok sc_l_taken (fun vs H Q E h => ?_) (fun cdv Ar outer s H vs Q E hr h => ?_)
  · obtain ⟨H0, ds, d, sm, dv, ⟨ks, r, held, _, rfl, _⟩, _⟩ := h; exact dpa_len dv
  obtain ⟨H0, ds, d, sm, dv, ⟨ks, r, held, ⟨hk, hh⟩, rfl, rfl⟩, q⟩ := h
  refine ⟨_, (pss_cons (ps_setLc (i := 3) (own := [("_law_kind", 4)]) (g := gName 4) rfl sc_l_taken.nd rfl rfl (sw_true rfl rfl rfl (by decide +kernel)) (pi_range1 rfl T.u_range (pa_cons pe_int pa_nil)) (blkOk_by (own := [("_law_kind", 4)]) (N := n_l_taken) (sc := defScope s_l_taken) (by decide +kernel))
        (fun _ _ _ _ _ => (pg_name (i := 4) sc_l_taken.nd rfl (Or.inl rfl))) (fun _ _ _ _ _ => (pts_one (PW.pt (pw_or (pt_cmpR (r := rIn K false) (by exact op_in_seq) (pv 4) (pv 2) (by rfl)) (pw_or1 (pt_cmpR (r := rInD K) (by exact (op_inD (u65 hr))) (pe_tup (pa_cons (pv 1) (pa_cons (pv 4) pa_nil))) (pv 0) (by rfl))))))) (fun _ _ _ _ _ => (pv 4)))
      (pss_one (ps_ret (pe_callTy call_tuple_of (by rfl) T.u_tuple (by decide +kernel) (pa_cons (pv 3) pa_nil))))), ?_⟩
  refine Pf.run (X := fun _ _ _ _ => False) (oc := .rt (handD (taken ks r held))) sm dv rfl ?_ q
  refine sx_seq (sx_setO (eo_lcR (n := 5) (fun (k : Nat) => (decide ((k : Int) ∈ held) || decide ((r, (k : Int)) ∈ ks))) (fun (k : Nat) => .int (k : Int)) (ea_cons (ev_c rfl) ea_nil) (by decide) rfl fun k hk => ⟨_, tgw_name (by decide), ?_, fun _ => ev_var rfl⟩)) ?_
  · refine et_or ((et_test (ev_inT (ds := held.map .int) (ev_var rfl) (ev_var rfl) rfl (ints_flat _))).is (ints_any _ _)) fun _ => (et_test (ev_inD (d := keyD (r, (k : Int))) (ev_tup (ea_cons (ev_var rfl) (ea_cons (ev_var rfl) ea_nil)) (Nat.le_of_ble_eq_true rfl)) (ev_var rfl) (sh_key.shaped (by decide)) ((sh_keys ks).shaped (by decide)))).is (keys_any _ _)
  · refine sx_ret ((ev_tuple (el_var rfl)).is ?_)
    have e := five_is (p := fun x => decide (x ∈ held) || decide ((r, x) ∈ ks)) (L := taken ks r held) (rise_up _) fun x => by
      unfold taken
      rw [rise_mem, List.mem_append, Bool.or_eq_true, decide_eq_true_eq, decide_eq_true_eq]
      unfold keysIn
      rw [rise_mem, List.mem_map]
      constructor
      · rintro (h | ⟨⟨r', k'⟩, h1, rfl⟩)
        · exact ⟨hh.2 x h, .inl h⟩
        · obtain ⟨h2, h3⟩ := List.mem_filter.mp h1
          obtain rfl : r' = r := of_decide_eq_true h3
          exact ⟨hk.2 _ h2, .inr h2⟩
      · rintro ⟨_, h | h⟩
        · exact .inl h
        · exact .inr ⟨(r, x), List.mem_filter.mpr ⟨h, decide_eq_true rfl⟩, rfl⟩
    rw [← e]
    unfold handD
    rw [List.map_map]; rfl

def R_lsteps (ds : List PyData) (d : List PyData) : Prop := ∃ (m : Maze) (r : Int) (held : List Int), (okMaze m ∧ okHeld held) ∧ ds = [.list (m.ds.map doorD), .list (m.ks.map keyD), .int r, handD held] ∧ d = (stepsF m r held).map stateD
theorem ok_l_steps (T : Txt K mg A) : FnOk P w K mg base CX0 2 A.a_l_steps A.d_l_steps ["_law_doors_here", "_law_lying_here", "_law_room", "_law_held"] (spL K R_lsteps) := by
  refine T.f_l_steps.ok sc_l_steps (fun vs H Q E h => ?_) (fun cdv Ar outer s H vs Q E hr h => ?_)
  · obtain ⟨H0, ds, d, sm, dv, ⟨m, r, held, _, rfl, _⟩, _⟩ := h; exact dpa_len dv
  obtain ⟨H0, ds, d, sm, dv, ⟨m, r, held, ⟨⟨hk, hd, hdo⟩, hh⟩, rfl, rfl⟩, q⟩ := h
  refine ⟨_, (pss_cons (ps_set (i := 4) sc_l_steps.nd rfl (.inl rfl) (pe_lst pa_nil))
      (pss_cons (ps_for PassesOwn.never rfl (pi_list (pv 0)) (pg_tup rfl (pgs_cons (pg_name (i := 5) sc_l_steps.nd rfl (Or.inl rfl)) (pgs_cons (pg_name (i := 6) sc_l_steps.nd rfl (Or.inl rfl)) (pgs_cons (pg_name (i := 7) sc_l_steps.nd rfl (Or.inl rfl)) pgs_nil))))
        (pss_one (ps_if (PW.pt (pw_or (pt_cmpR op_isN (pv 7) pe_non (nomark _)) (pw_or1 (pt_cmpR (r := rIn K false) (by exact op_in_seq) (pv 7) (pv 3) (by rfl))))) (pss_one (ps_if (pt_cmpR op_eq (pv 5) (pv 2) (nomark _)) (pss_one (ps_expr (pe_bm PySem.F.plainAttrs_list PySem.F.slot_list_append PySem.F.type_list_append mt_append (pv 4) (pa_cons (pe_tup (pa_cons (pv 6) (pa_cons (pe_callS (E := fun _ => E0) (ok_l_taken T) (hr.mono (by decide)) rfl T.g_l_taken T.f_l_taken.kp (b_l_taken T) (fun σ => pass0S) (pa_cons (pv 1) (pa_cons (pv 6) (pa_cons (pv 3) pa_nil)))) pa_nil))) pa_nil)))) (pss_one (ps_if (pt_cmpR op_eq (pv 6) (pv 2) (nomark _)) (pss_one (ps_expr (pe_bm PySem.F.plainAttrs_list PySem.F.slot_list_append PySem.F.type_list_append mt_append (pv 4) (pa_cons (pe_tup (pa_cons (pv 5) (pa_cons (pe_callS (E := fun _ => E0) (ok_l_taken T) (hr.mono (by decide)) rfl T.g_l_taken T.f_l_taken.kp (b_l_taken T) (fun σ => pass0S) (pa_cons (pv 1) (pa_cons (pv 5) (pa_cons (pv 3) pa_nil)))) pa_nil))) pa_nil)))) pss_nil)))) pss_nil)))
      (pss_one (ps_ret (pv 4))))), ?_⟩
  refine Pf.run (X := fun _ _ _ _ => False) (oc := .rl ((stepsF m r held).map stateD)) sm dv rfl ?_ (fun p ws G H2 fr w1 w2 w3 w4 => q p ws G H2 fr (w1.elim False.elim id) w2 w3 w4)
  refine sx_seq (sx_setO (eo_lst ea_nil (by decide))) ?_
  refine sx_seq (sx_for (ds := m.ds.map doorD) (ev_var rfl) (fun i => [.dat (.list (m.ds.map doorD)), .dat (.list (m.ks.map keyD)), .dat (.int r), .dat (handD held), .own ((((m.ds.take i).filter (viaF r held)).map (toF m.ks r held)).map stateD), .no, .no, .no]) rfl fun i d hi => ?_) ?_
  · rw [List.getElem?_map] at hi
    cases ei : m.ds[i]? with
    | none => rw [ei] at hi; cases hi
    | some x =>
      rw [ei] at hi
      obtain rfl := Option.some.inj hi
      refine ⟨_, tg_tup (tgs_cons tg_name (tgs_cons tg_name (tgs_cons tg_name tgs_nil))) rfl, ?_⟩
      try dsimp only
      rw [take_next ei, List.map_append]
      have sz : ((((m.ds.take i).filter (viaF r held)).map (toF m.ks r held)).map stateD).length < 100000 := by
        rw [List.length_map, List.length_map]
        have := List.length_filter_le (viaF r held) (m.ds.take i)
        rw [List.length_take] at this
        omega
      generalize ((m.ds.take i).filter (viaF r held)).map (toF m.ks r held) = Z at sz
      refine .inl (sx_if (b := opensF x.2.2 held) ((et_or (et_test (ev_isN (ev_var rfl))) fun _ => et_test (ev_inT (ds := held.map .int) (ev_var rfl) (ev_var rfl) (optD_flat _) (ints_flat _))).is (opt_any _ _)) (fun c => ?_) fun c => ?_)
      · refine sx_if (b := decide (x.1 = r)) (et_test (ev_eqI (ev_var rfl) (ev_var rfl))) (fun c1 => ?_) fun c1 => ?_
        · have e1 := of_decide_eq_true c1
          have e2 : viaF r held x = true := by unfold viaF; rw [c, decide_eq_true (.inl e1.symm)]; rfl
          have e3 : toF m.ks r held x = (x.2.1, taken m.ks x.2.1 held) := by unfold toF otherF; rw [if_pos e1]
          rw [if_pos e2, e3]
          exact nx_less (sx_app (d := stateD (x.2.1, taken m.ks x.2.1 held)) rfl (ev_tup (ea_cons (ev_var rfl) (ea_cons (ev_call (ea_cons (ev_var rfl) (ea_cons (ev_var rfl) (ea_cons (ev_var rfl) ea_nil))) ⟨m.ks, x.2.1, held, ⟨hk, hh⟩, rfl, rfl⟩) ea_nil)) (Nat.le_of_ble_eq_true rfl)) sz) (by walk_at "less")
        · have e1 := of_decide_eq_false c1
          have e3 : toF m.ks r held x = (x.1, taken m.ks x.1 held) := by unfold toF otherF; rw [if_neg e1]
          refine sx_if (b := decide (x.2.1 = r)) (et_test (ev_eqI (ev_var rfl) (ev_var rfl))) (fun c2 => ?_) fun c2 => ?_
          · have e2 : viaF r held x = true := by unfold viaF; rw [c, decide_eq_true (.inr (of_decide_eq_true c2).symm)]; rfl
            rw [if_pos e2, e3]
            exact nx_less (sx_app (d := stateD (x.1, taken m.ks x.1 held)) rfl (ev_tup (ea_cons (ev_var rfl) (ea_cons (ev_call (ea_cons (ev_var rfl) (ea_cons (ev_var rfl) (ea_cons (ev_var rfl) ea_nil))) ⟨m.ks, x.1, held, ⟨hk, hh⟩, rfl, rfl⟩) ea_nil)) (Nat.le_of_ble_eq_true rfl)) sz) (by walk_at "less")
          · have e2 : ¬ viaF r held x = true := by
              unfold viaF
              rw [decide_eq_false (fun z => z.elim (fun z => e1 z.symm) fun z => of_decide_eq_false c2 z.symm)]; exact Bool.false_ne_true
            rw [if_neg e2, List.map_nil, List.append_nil]
            exact nx_less sx_next (by walk_at "less")
      · have e2 : ¬ viaF r held x = true := by unfold viaF; rw [c, Bool.and_false]; exact Bool.false_ne_true
        rw [if_neg e2, List.map_nil, List.append_nil]
        exact nx_less sx_next (by walk_at "less")
  · rw [List.length_map, List.take_length]
    exact sx_retV rfl

/-! the rooms that can be come to -/
theorem nodup_le {α : Type} [DecidableEq α] : ∀ {l r : List α}, l.Nodup → (∀ x ∈ l, x ∈ r) → l.length ≤ r.length
  | [], _, _, _ => Nat.zero_le _
  | x :: t, r, h, k => by
    have h' := List.nodup_cons.mp h
    have hx := k x List.mem_cons_self
    have ih := nodup_le (l := t) (r := r.erase x) h'.2 fun y hy => by
      have n : y ≠ x := fun z => h'.1 (z ▸ hy)
      exact (List.mem_erase_of_ne n).mpr (k y (List.mem_cons_of_mem _ hy))
    rw [List.length_erase_of_mem hx] at ih
    have : 0 < r.length := List.length_pos_of_mem hx
    rw [List.length_cons]; omega
def allRooms (n : Int) : List Int := (List.range n.toNat).map fun (k : Nat) => (k : Int)
theorem allRooms_mem {n r : Int} : r ∈ allRooms n ↔ inRoom n r := by
  unfold allRooms inRoom
  rw [List.mem_map]
  constructor
  · rintro ⟨k, hk, rfl⟩
    have := List.mem_range.mp hk
    omega
  · rintro ⟨h1, h2⟩
    exact ⟨r.toNat, List.mem_range.mpr (by omega), by omega⟩
theorem allRooms_len (n : Int) : (allRooms n).length = n.toNat := by unfold allRooms; rw [List.length_map, List.length_range]
theorem rooms_le {n : Int} {l : List Int} (h : l.Nodup) (k : ∀ r ∈ l, inRoom n r) : l.length ≤ n.toNat := by
  rw [← allRooms_len]
  exact nodup_le h fun x hx => allRooms_mem.mpr (k x hx)
theorem rooms_full {n : Int} {l : List Int} (h : l.Nodup) (k : ∀ r ∈ l, inRoom n r) (e : n.toNat ≤ l.length) {r : Int} (hr : inRoom n r) : r ∈ l := Classical.byContradiction fun z => by
  have := rooms_le (n := n) (l := r :: l) (List.nodup_cons.mpr ⟨z, h⟩) fun x hx => by
    rcases List.mem_cons.mp hx with y | y
    · rw [y]; exact hr
    · exact k x y
  rw [List.length_cons] at this; omega
def opensIn (ks : List Key2) (rooms : List Int) (l : Option Int) : Bool := match l with
  | none => true
  | some k => !(rooms.filter fun r => decide ((r, k) ∈ ks)).isEmpty
def oneEnd (rooms : List Int) (d : Door) : Bool := !decide (decide (d.1 ∈ rooms) = decide (d.2.1 ∈ rooms))
def farEnd (rooms : List Int) (d : Door) : Int := if d.1 ∈ rooms then d.2.1 else d.1
def goesOn (ks : List Key2) (rooms : List Int) (d : Door) : Bool := oneEnd rooms d && opensIn ks rooms d.2.2
def nextR (m : Maze) (rooms : List Int) : Option Int := (m.ds.find? (goesOn m.ks rooms)).map (farEnd rooms)
def growR (m : Maze) : Nat → List Int → List Int
  | 0, r => r
  | f + 1, r => match nextR m r with
    | none => r
    | some x => growR m f (r ++ [x])
def comeR (m : Maze) (s : Int) : List Int := growR m m.n.toNat [s]
theorem farEnd_new {rooms : List Int} {d : Door} (h : oneEnd rooms d = true) : farEnd rooms d ∉ rooms := by
  unfold oneEnd at h
  unfold farEnd
  by_cases c : d.1 ∈ rooms
  · rw [if_pos c]
    intro z
    rw [decide_eq_true c, decide_eq_true z] at h
    simp at h
  · rw [if_neg c]; exact c
theorem nextR_new {m : Maze} {rooms : List Int} {x : Int} (h : nextR m rooms = some x) : x ∉ rooms := by
  unfold nextR at h
  cases e : m.ds.find? (goesOn m.ks rooms) with
  | none => rw [e] at h; cases h
  | some d =>
    rw [e] at h
    obtain rfl := Option.some.inj h
    have := List.find?_some e
    unfold goesOn at this
    rw [Bool.and_eq_true] at this
    exact farEnd_new this.1
theorem nextR_room {m : Maze} (hm : okMaze m) {rooms : List Int} {x : Int} (h : nextR m rooms = some x) : inRoom m.n x := by
  unfold nextR at h
  cases e : m.ds.find? (goesOn m.ks rooms) with
  | none => rw [e] at h; cases h
  | some d =>
    rw [e] at h
    obtain rfl := Option.some.inj h
    have hd := hm.2.2 d (List.mem_of_find?_eq_some e)
    unfold farEnd
    split
    · exact hd.2
    · exact hd.1
theorem nextR_full {m : Maze} (hm : okMaze m) {rooms : List Int} (h : ∀ r, inRoom m.n r → r ∈ rooms) : nextR m rooms = none := by
  unfold nextR
  rw [List.find?_eq_none.mpr]
  · rfl
  · intro d hd z
    have hd' := hm.2.2 d hd
    unfold goesOn oneEnd at z
    rw [decide_eq_true (h _ hd'.1), decide_eq_true (h _ hd'.2)] at z
    simp at z
def good1 (m : Maze) (l : List Int) : Prop := l.Nodup ∧ ∀ r ∈ l, inRoom m.n r
theorem good1_add {m : Maze} (hm : okMaze m) {l : List Int} {x : Int} (h : good1 m l) (e : nextR m l = some x) : good1 m (l ++ [x]) := by
  refine ⟨List.nodup_append.mpr ⟨h.1, List.nodup_cons.mpr ⟨List.not_mem_nil, List.nodup_nil⟩, fun a ha b hb => ?_⟩, fun r hr => ?_⟩
  · rw [List.mem_singleton.mp hb]
    exact fun z => nextR_new e (z ▸ ha)
  · rcases List.mem_append.mp hr with z | z
    · exact h.2 r z
    · rw [List.mem_singleton.mp z]; exact nextR_room hm e
/-- what grows: its first rooms, each next one, the end -/
theorem growR_is {m : Maze} (hm : okMaze m) : ∀ (f : Nat) (l : List Int), good1 m l → m.n.toNat ≤ l.length + f → good1 m (growR m f l) ∧ nextR m (growR m f l) = none ∧ (∃ t, growR m f l = l ++ t) ∧ ∀ (k : Nat) (x : Int), l.length ≤ k → (growR m f l)[k]? = some x → nextR m ((growR m f l).take k) = some x
  | 0, l, h, e => ⟨h, nextR_full hm fun r hr => rooms_full h.1 h.2 (by omega) hr, ⟨[], (List.append_nil _).symm⟩, fun k x hk z => by
    have hk' : l.length ≤ k := hk
    have z' : l[k]? = some x := z
    rw [List.getElem?_eq_none hk'] at z'; cases z'⟩
  | f + 1, l, h, e => by
    cases c : nextR m l with
    | none =>
      have eg : growR m (f + 1) l = l := by show (match nextR m l with | none => l | some x => growR m f (l ++ [x])) = l; rw [c]
      rw [eg]
      exact ⟨h, c, ⟨[], (List.append_nil _).symm⟩, fun k x hk z => by rw [List.getElem?_eq_none hk] at z; cases z⟩
    | some y =>
      have eg : growR m (f + 1) l = growR m f (l ++ [y]) := by show (match nextR m l with | none => l | some x => growR m f (l ++ [x])) = _; rw [c]
      rw [eg]
      obtain ⟨h1, h2, ⟨t, h3⟩, h4⟩ := growR_is hm f (l ++ [y]) (good1_add hm h c) (by rw [List.length_append]; show _ ≤ l.length + 1 + f; omega)
      refine ⟨h1, h2, ⟨y :: t, by rw [h3, List.append_assoc]; rfl⟩, fun k x hk z => ?_⟩
      by_cases ek : k = l.length
      · subst ek
        rw [h3] at z ⊢
        rw [List.append_assoc, List.getElem?_append_right (Nat.le_refl _), Nat.sub_self] at z
        have z' : some y = some x := z
        cases z'
        rw [List.append_assoc, List.take_left']
        · exact c
        · rfl
      · exact h4 k x (by rw [List.length_append]; show l.length + 1 ≤ k; omega) z

/-! ways_out, come -/
def outsF (rs : List Int) (d : Door) : List Int := [d.1, d.2.1].filter fun e => !decide (e ∈ rs)
theorem outs_cases (rs : List Int) (d : Door) : (oneEnd rs d = true ∧ outsF rs d = [farEnd rs d]) ∨ (oneEnd rs d = false ∧ (outsF rs d).length ≠ 1) := by
  unfold outsF oneEnd farEnd
  by_cases a : d.1 ∈ rs <;> by_cases b : d.2.1 ∈ rs
  · refine .inr ⟨by simp [a, b], by simp [a, b]⟩
  · refine .inl ⟨by simp [a, b], by simp [a, b]⟩
  · refine .inl ⟨by simp [a, b], by simp [a, b]⟩
  · refine .inr ⟨by simp [a, b], by simp [a, b]⟩
theorem opens_among (ks : List Key2) (rs : List Int) (l : Option Int) : opensF l (keysAmong ks rs) = opensIn ks rs l := by
  cases l with
  | none => rfl
  | some k =>
    show decide (k ∈ keysAmong ks rs) = !(rs.filter fun r => decide ((r, k) ∈ ks)).isEmpty
    rw [Bool.eq_iff_iff, decide_eq_true_eq, Bool.not_eq_true']
    unfold keysAmong
    rw [rise_mem, List.mem_map]
    constructor
    · rintro ⟨⟨r, k'⟩, h, rfl⟩
      obtain ⟨h1, h2⟩ := List.mem_filter.mp h
      have h2 : r ∈ rs := of_decide_eq_true h2
      cases e : rs.filter fun r => decide ((r, k') ∈ ks) with
      | nil =>
        have : r ∈ rs.filter fun r => decide ((r, k') ∈ ks) := List.mem_filter.mpr ⟨h2, decide_eq_true h1⟩
        rw [e] at this; cases this
      | cons => rfl
    · intro h
      cases e : rs.filter fun r => decide ((r, k) ∈ ks) with
      | nil => rw [e] at h; cases h
      | cons r t =>
        have : r ∈ rs.filter fun r => decide ((r, k) ∈ ks) := by rw [e]; exact List.mem_cons_self
        obtain ⟨h1, h2⟩ := List.mem_filter.mp this
        exact ⟨(r, k), List.mem_filter.mpr ⟨of_decide_eq_true h2, decide_eq_true h1⟩, rfl⟩
def waysF (m : Maze) (rs : List Int) : List Int := (m.ds.filter (goesOn m.ks rs)).map (farEnd rs)
theorem ways_next (m : Maze) (rs : List Int) : (waysF m rs).head? = nextR m rs := by
  unfold waysF nextR
  rw [List.head?_map, List.head?_filter]
def R_ways_out (ds : List PyData) (xs : List PyData) : Prop := ∃ (m : Maze) (rs : List Int), okMaze m ∧ ds = [mazeD m, .list (rs.map .int)] ∧ xs = (waysF m rs).map .int
theorem ok_ways_out (T : Txt K mg A) : FnOk P w K mg base CX0 2 A.a_ways_out A.d_ways_out ["maze", "reached"] (spL K R_ways_out) := by
  refine T.f_ways_out.ok sc_ways_out (fun vs H Q E h => ?_) (fun cdv Ar outer s H vs Q E hr h => ?_)
  · obtain ⟨H0, ds, d, sm, dv, ⟨m, rs, _, rfl, _⟩, _⟩ := h; exact dpa_len dv
  obtain ⟨H0, ds, d, sm, dv, ⟨m, rs, ⟨hk, hd, hdo⟩, rfl, rfl⟩, q⟩ := h
  refine ⟨_, (pss_cons (ps_set (i := 2) sc_ways_out.nd rfl (.inl rfl) (pe_callS (E := fun _ => E0) (ok_keys_among T) (hr.mono (by decide)) rfl T.g_keys_among T.f_keys_among.kp (b_keys_among T) (fun σ => pass0S) (pa_cons (pv 0) (pa_cons (pv 1) pa_nil))))
      (pss_cons (ps_set (i := 3) sc_ways_out.nd rfl (.inl rfl) (pe_lst pa_nil))
      (pss_cons (ps_for PassesOwn.never rfl (pi_list (pe_ix (r := rIxT K) (by exact ix_tup) (pv 0) pe_int (fun _ _ => rfl))) (pg_name (i := 4) sc_ways_out.nd rfl (Or.inl rfl))
        (pss_cons (ps_setLc (i := 5) (own := [("end", 6)]) (g := gName 6) rfl sc_ways_out.nd rfl rfl (sw_true rfl rfl rfl (by decide +kernel)) (pi_tup (pe_slice sl_tupA (pv 4) po_none (po_some pe_int))) (blkOk_by (own := [("end", 6)]) (N := n_ways_out) (sc := defScope s_ways_out) (by decide +kernel))
        (fun _ _ _ _ _ => (pg_name (i := 6) sc_ways_out.nd rfl (Or.inl rfl))) (fun _ _ _ _ _ => (pts_one (pt_cmpR (r := rIn K true) (by exact op_notIn_seq) (pv 6) (pv 1) (by rfl)))) (fun _ _ _ _ _ => (pv 6)))
      (pss_one (ps_if (PW.pt (pw_and (pt_cmpR op_eq (pe_callB call_len_seq (by rfl) T.u_len (by decide +kernel) (pa_cons (pv 5) pa_nil)) pe_int (nomark _)) (pw_and1 (pt_val (pe_callS (E := fun _ => E0) (ok_opens T) (hr.mono (by decide)) rfl T.g_opens T.f_opens.kp (b_opens T) (fun σ => pass0S) (pa_cons (pv 4) (pa_cons (pv 2) pa_nil))))))) (pss_one (ps_expr (pe_bm PySem.F.plainAttrs_list PySem.F.slot_list_append PySem.F.type_list_append mt_append (pv 3) (pa_cons (pe_ix (r := rIxL K) (by exact ix_list) (pv 5) pe_int (fun _ _ => rfl)) pa_nil)))) pss_nil))))
      (pss_one (ps_ret (pv 3)))))), ?_⟩
  refine Pf.run (X := fun _ _ _ _ => False) (oc := .rl ((waysF m rs).map .int)) sm dv rfl ?_ (fun p ws G H2 fr w1 w2 w3 w4 => q p ws G H2 fr (w1.elim False.elim id) w2 w3 w4)
  refine sx_seq (sx_set (ev_call (ea_cons (ev_var rfl) (ea_cons (ev_var rfl) ea_nil)) ⟨m, rs, hk.1, rfl, rfl⟩)) ?_
  refine sx_seq (sx_setO (eo_lst ea_nil (by decide))) ?_
  refine sx_seq (sx_for (ds := m.ds.map doorD) (ev_ixT (ds := [.int m.n, .list (m.ds.map doorD), .list (m.ks.map keyD)]) (ev_var rfl) (ev_c rfl) rfl) (fun i => [.dat (mazeD m), .dat (.list (rs.map .int)), .dat (handD (keysAmong m.ks rs)), .own ((((m.ds.take i).filter (goesOn m.ks rs)).map (farEnd rs)).map .int), .no, .no, .no]) rfl fun i d hi => ?_) ?_
  · rw [List.getElem?_map] at hi
    cases ei : m.ds[i]? with
    | none => rw [ei] at hi; cases hi
    | some x =>
      rw [ei] at hi
      obtain rfl := Option.some.inj hi
      refine ⟨_, tg_name, ?_⟩
      try dsimp only
      rw [take_next ei, List.map_append]
      have sz : ((((m.ds.take i).filter (goesOn m.ks rs)).map (farEnd rs)).map PyData.int).length < 100000 := by
        rw [List.length_map, List.length_map]
        have := List.length_filter_le (goesOn m.ks rs) (m.ds.take i)
        rw [List.length_take] at this
        omega
      generalize ((m.ds.take i).filter (goesOn m.ks rs)).map (farEnd rs) = Z at sz
      refine .inl (sx_seq (sx_setO (xs := (outsF rs x).map .int) ((eo_lcT [x.1, x.2.1] PyData.int (fun e => !decide (e ∈ rs)) PyData.int ((ev_sliceT (xs := [.int x.1, .int x.2.1, optD x.2.2]) (lo := none) (hi := some 2) (ev_var rfl) ep_no (ep_at (ev_c rfl))).is rfl) (Nat.le_of_ble_eq_true rfl) fun e _ => ⟨_, tgw_name (by decide), (et_test (ev_niL (ds := rs.map .int) (ev_var rfl) (ev_var rfl) rfl (ints_flat _))).is (by rw [ints_any]), fun _ => ev_var rfl⟩).is rfl)) ?_)
      refine sx_if (b := goesOn m.ks rs x) (EvT.is (b := decide (((outsF rs x).map PyData.int).length = (1 : Int)) && opensF x.2.2 (keysAmong m.ks rs)) (et_and (et_test (ev_eqI (ev_lenO (el_var rfl)) (ev_c rfl))) fun _ => et_B (ev_call (ea_cons (ev_var rfl) (ea_cons (ev_var rfl) ea_nil)) ⟨x, _, rfl, rfl⟩)) ?_) (fun c => ?_) fun c => ?_
      · rw [opens_among]
        unfold goesOn
        congr 1
        rw [List.length_map]
        rcases outs_cases rs x with ⟨e1, e2⟩ | ⟨e1, e2⟩
        · rw [e1, e2]; rfl
        · rw [e1]; exact decide_eq_false (by omega)
      · rw [if_pos c]
        have e2 : outsF rs x = [farEnd rs x] := by
          unfold goesOn at c
          rw [Bool.and_eq_true] at c
          rcases outs_cases rs x with ⟨_, e2⟩ | ⟨e1, _⟩
          · exact e2
          · rw [e1] at c; cases c.1
        rw [e2]
        exact nx_less (sx_app (d := .int (farEnd rs x)) rfl (ev_ixO (ds := [.int (farEnd rs x)]) (el_var rfl) (ev_c rfl) rfl fun _ _ _ _ => trivial) sz) (by walk_at "less")
      · rw [if_neg (by rw [c]; decide), List.map_nil, List.append_nil]
        exact nx_less sx_next (by walk_at "less")
  · rw [List.length_map, List.take_length]
    exact sx_retV rfl
def R_come (ds : List PyData) (xs : List PyData) : Prop := ∃ (m : Maze) (s : Int), (okMaze m ∧ inRoom m.n s ∧ m.n ≤ 60) ∧ ds = [mazeD m, .int s] ∧ xs = (comeR m s).map .int
def B_come (A : Ad) (ds : List PyData) (c : Value) : Prop := ∃ (m : Maze) (s : Int), ¬ inRoom m.n s ∧ ds = [mazeD m, .int s] ∧ c = .ref A.c_NoRoom
/-- what come is -/
theorem comeR_is {m : Maze} (hm : okMaze m) {s : Int} (hs : inRoom m.n s) : good1 m (comeR m s) ∧ nextR m (comeR m s) = none ∧ (∃ t, comeR m s = s :: t) ∧ ∀ (k : Nat) (x : Int), 1 ≤ k → (comeR m s)[k]? = some x → nextR m ((comeR m s).take k) = some x := by
  have h := growR_is hm m.n.toNat [s] ⟨List.nodup_cons.mpr ⟨List.not_mem_nil, List.nodup_nil⟩, fun r hr => by rw [List.mem_singleton.mp hr]; exact hs⟩ (by rw [List.length_singleton]; omega)
  exact h
theorem comeR_len {m : Maze} (hm : okMaze m) {s : Int} (hs : inRoom m.n s) : 1 ≤ (comeR m s).length ∧ (comeR m s).length ≤ m.n.toNat := by
  obtain ⟨h1, _, ⟨t, h3⟩, _⟩ := comeR_is hm hs
  refine ⟨by rw [h3, List.length_cons]; omega, rooms_le h1.1 h1.2⟩
theorem ok_come (T : Txt K mg A) : FnOk P w K mg base (L2.CX P w) 3 A.a_come A.d_come ["maze", "start"] (spXL K R_come (B_come A)) := by
  refine T.f_come.okX sc_come (fun vs H Q E h => ?_) (fun cdv Ar outer s H vs Q E hr h => ?_)
  · obtain ⟨H0, ds, sm, dv, ⟨d, ⟨m, r, _, rfl, _⟩, _⟩ | ⟨c, ⟨m, r, _, rfl, _⟩, _⟩⟩ := h <;> exact dpa_len dv
  obtain ⟨H0, ds, sm, dv, hh⟩ := h
  refine ⟨_, (pss_cons (ps_expr (pe_callS (ok_need_room T) (hr.mono (by decide)) rfl T.g_need_room T.f_need_room.kp (b_need_room T) (fun σ => passAt (takes_of rfl rfl rfl rfl) σ) (pa_cons (pe_ix (r := rIxT K) (by exact ix_tup) (pv 0) pe_int (fun _ _ => rfl)) (pa_cons (pv 1) pa_nil))))
      (pss_cons (ps_set (i := 2) sc_come.nd rfl (.inl rfl) (pe_lst (pa_cons (pv 1) pa_nil)))
      (pss_cons (ps_set (i := 3) sc_come.nd rfl (.inl rfl) (pe_callS (E := fun _ => E0) (ok_ways_out T) (hr.mono (by decide)) rfl T.g_ways_out T.f_ways_out.kp (b_ways_out T) (fun σ => pass0S) (pa_cons (pv 0) (pa_cons (pv 2) pa_nil))))
      (pss_cons (ps_while (passes_of rfl) (pt_cmpR op_gt (pe_callB call_len_seq (by rfl) T.u_len (by decide +kernel) (pa_cons (pv 3) pa_nil)) pe_int (nomark _)) (pss_cons (ps_expr (pe_bm PySem.F.plainAttrs_list PySem.F.slot_list_append PySem.F.type_list_append mt_append (pv 2) (pa_cons (pe_ix (r := rIxL K) (by exact ix_list) (pv 3) pe_int (fun _ _ => rfl)) pa_nil)))
      (pss_one (ps_set (i := 3) sc_come.nd rfl (.inl rfl) (pe_callS (E := fun _ => E0) (ok_ways_out T) (hr.mono (by decide)) rfl T.g_ways_out T.f_ways_out.kp (b_ways_out T) (fun σ => pass0S) (pa_cons (pv 0) (pa_cons (pv 2) pa_nil)))))))
      (pss_one (ps_ret (pv 2))))))), ?_⟩
  have first : ∀ {m : Maze} {r : Int}, EvA K (tCons (tOp (rIxT K) (tVar 0) (tC (.int 0))) (tCons (tVar 1) tNil)) [.dat (mazeD m), .dat (.int r), .no, .no] [.int m.n, .int r] := fun {m r} => ea_cons (ev_ixT (ds := [.int m.n, .list (m.ds.map doorD), .list (m.ks.map keyD)]) (ev_var rfl) (ev_c rfl) rfl) (ea_cons (ev_var rfl) ea_nil)
  rcases hh with ⟨xs, ⟨m, r, ⟨hm, hr0, h60⟩, rfl, rfl⟩, q⟩ | ⟨c, ⟨m, r, hr0, rfl, rfl⟩, q⟩
  · refine Pf.run (X := fun cls d _ H => E cls d H) (oc := .rl ((comeR m r).map .int)) sm dv rfl ?_ (fun p ws G H2 fr w1 w2 w3 w4 => q p ws G H2 fr (w1.elim False.elim id) w2 w3 w4)
    obtain ⟨c1, c2, ⟨t, c3⟩, c4⟩ := comeR_is hm hr0
    have cl := comeR_len hm hr0
    refine sx_seq (sx_drop (ev_callX first ⟨m.n, r, hr0, rfl, rfl⟩)) ?_
    refine sx_seq (sx_setO (eo_lst (ea_cons (ev_var rfl) ea_nil) (Nat.le_of_ble_eq_true rfl))) ?_
    have way : ∀ (rs : List Int) (s : SV), EvO K (tCallS (spL K R_ways_out) (fun _ => E0) (tCons (tVar 0) (tCons (tVar 2) tNil))) [.dat (mazeD m), .dat (.int r), .own (rs.map .int), s] ((waysF m rs).map .int) := fun rs s => eo_fixI 2 rfl (eo_call (ea_cons (ev_var rfl) (ea_cons (ev_var rfl) ea_nil)) ⟨m, rs, hm, rfl, rfl⟩)
    refine sx_seq (sx_setO (way [r] _)) ?_
    refine sx_seq (sx_while (n := (comeR m r).length - 1) (fun i => [.dat (mazeD m), .dat (.int r), .own (((comeR m r).take (i + 1)).map .int), .own ((waysF m ((comeR m r).take (i + 1))).map .int)]) (by rw [c3]; rfl) (fun i hi => ⟨?_, ?_⟩) ?_) ?_
    · have ei : (comeR m r)[i + 1]? = some (comeR m r)[i + 1] := List.getElem?_eq_getElem (by omega)
      have e := (ways_next m ((comeR m r).take (i + 1))).trans (c4 (i + 1) _ (by omega) ei)
      refine et_test (Ev.is (d := .bool (decide ((0 : Int) < ((waysF m ((comeR m r).take (i + 1))).map PyData.int).length))) (by exact ev_I0 (ev_lenO (el_var rfl)) (ev_c rfl) rfl) ?_)
      congr 1
      cases ew : waysF m ((comeR m r).take (i + 1)) with
      | nil => rw [ew] at e; cases e
      | cons a b => rw [List.map_cons, List.length_cons]; exact decide_eq_true (by omega)
    · have ei : (comeR m r)[i + 1]? = some (comeR m r)[i + 1] := List.getElem?_eq_getElem (by omega)
      have e := (ways_next m ((comeR m r).take (i + 1))).trans (c4 (i + 1) _ (by omega) ei)
      have et : (comeR m r).take (i + 1 + 1) = (comeR m r).take (i + 1) ++ [(comeR m r)[i + 1]] := List.take_succ_eq_append_getElem (by omega)
      try dsimp only
      rw [et]
      generalize (comeR m r)[i + 1] = y at e
      cases ew : waysF m ((comeR m r).take (i + 1)) with
      | nil => rw [ew] at e; cases e
      | cons a b =>
        rw [ew] at e
        obtain rfl : a = y := Option.some.inj e
        have sz : (((comeR m r).take (i + 1)).map PyData.int).length < 100000 := by
          rw [List.length_map, List.length_take]; omega
        generalize (comeR m r).take (i + 1) = Z at sz
        have w2 := way (Z ++ [a]) (.own ((a :: b).map .int))
        rw [List.map_append] at w2
        rw [List.map_append]
        refine .inl (sx_seq (sx_app (d := .int a) rfl (ev_ixO (ds := .int a :: b.map .int) (el_var rfl) (ev_c rfl) (atI_int (by decide) rfl) fun _ _ _ _ => trivial) sz) ?_)
        exact sx_last (sx_seq (sx_setO w2) sx_next)
    · have et : (comeR m r).take ((comeR m r).length - 1 + 1) = comeR m r := List.take_of_length_le (by omega)
      rw [et]
      have e := (ways_next m (comeR m r)).trans c2
      cases ew : waysF m (comeR m r) with
      | nil => exact et_test (Ev.is (ev_I0 (ev_lenO (el_var rfl)) (ev_c rfl) rfl) rfl)
      | cons a b => rw [ew] at e; cases e
    · have et : (comeR m r).take ((comeR m r).length - 1 + 1) = comeR m r := List.take_of_length_le (by omega)
      rw [et]
      exact sx_retV rfl
  · refine Pf.run (X := fun cls d _ H => E cls d H) (oc := .ex (.ref A.c_NoRoom) [.dat (mazeD m), .dat (.int r), .no, .no]) sm dv rfl ?_ (fun σ G H2 f _ _ => q G H2 f)
    exact sx_end (sx_outD (evx_call first ⟨m.n, r, hr0, rfl, rfl⟩)) rfl

/-! states as data -/
theorem sh_state (s : Int × List Int) : Sh 2 (stateD s) := sh2 sh_int (sh_hand s.2)
theorem state_inj {a b : Int × List Int} : stateD a = stateD b → a = b := fun h => by
  obtain ⟨a1, a2⟩ := a
  obtain ⟨b1, b2⟩ := b
  injection h with h
  injection h with h1 h2
  injection h2 with h2 _
  injection h1 with h1
  exact Prod.ext h1 (hand_inj.mpr h2)
theorem sh_states (u : List (Int × List Int)) : Sh 3 (.list (u.map stateD)) := sh_lst (sh_map fun s _ => sh_state s)

/-! walks: lists of rooms in their order -/
abbrev State := Int × List Int
abbrev Ent2 := State × List Int
theorem lt_app {x y : List Int} : ∀ {a b : List Int}, a.length = b.length → a < b → a ++ x < b ++ y
  | [], [], _, h => absurd h (List.lt_irrefl _)
  | [], _ :: _, e, _ => by cases e
  | _ :: _, [], e, _ => by cases e
  | p :: a, q :: b, e, h => by
    rw [List.cons_lt_cons_iff] at h
    show p :: (a ++ x) < q :: (b ++ y)
    rw [List.cons_lt_cons_iff]
    rcases h with h | ⟨h1, h2⟩
    · exact .inl h
    · exact .inr ⟨h1, lt_app (by rw [List.length_cons, List.length_cons] at e; omega) h2⟩
theorem le_app {x y : Int} (h : x ≤ y) : ∀ a : List Int, a ++ [x] ≤ a ++ [y]
  | [] => by
    show ¬ ([y] < [x])
    rw [List.cons_lt_cons_iff]
    rintro (z | ⟨_, z⟩)
    · omega
    · exact List.lt_irrefl _ z
  | p :: a => by
    intro z
    have z' : p :: (a ++ [y]) < p :: (a ++ [x]) := z
    rw [List.cons_lt_cons_iff] at z'
    rcases z' with z' | ⟨_, z'⟩
    · omega
    · exact le_app h a z'
theorem ll_of_lt {a b : List Int} (h : a < b) : a ≤ b := List.le_of_lt h
theorem ll_anti {a b : List Int} (h : a ≤ b) (k : b ≤ a) : a = b := List.le_antisymm h k
theorem ll_trans {a b c : List Int} (h : a ≤ b) (k : b ≤ c) : a ≤ c := List.le_trans h k
theorem ll_total (a b : List Int) : a ≤ b ∨ b ≤ a := List.le_total a b
theorem ll_ne {a b : List Int} (h : a ≤ b) (k : a ≠ b) : a < b := Classical.byContradiction fun z => k (ll_anti h (List.not_lt.mp z))
/-- states in their order -/
def stLe (a b : State) : Bool := decide (a.1 < b.1 ∨ (a.1 = b.1 ∧ a.2 ≤ b.2))
theorem stLt_data (p q : State) : PySem.W.dataLt (stateD p) (stateD q) = decide (p.1 < q.1 ∨ (p.1 = q.1 ∧ p.2 < q.2)) := by
  unfold stateD handD
  rw [PySem.W.dataLt_pair (by simp [PySem.W.alike]) (by rw [PySem.W.alike]; exact PySem.W.alike_ints _ _), PySem.W.dataLt_int, PySem.W.dataLt_tuple]
  have e : PyProof.Rows.lexLt PyProof.Rows.itemOrd (PySem.W.keyToksAll (p.2.map .int)) (PySem.W.keyToksAll (q.2.map .int)) = decide (p.2 < q.2) := PySem.W.dataLt_ints _ _
  rw [e]
  by_cases h1 : p.1 = q.1
  · have h1' : PyData.eqv (.int p.1) (.int q.1) = true := by rw [eqv_int, decide_eq_true h1]
    rw [if_pos h1']
    by_cases h2 : p.2 = q.2
    · have h2' : PyData.eqv (.tuple (p.2.map .int)) (.tuple (q.2.map .int)) = true := (eqv_dec (sh_hand p.2) (sh_hand q.2) hand_inj).trans (decide_eq_true h2)
      rw [if_pos h2', h1, h2]
      exact (decide_eq_false (by rintro (z | ⟨_, z⟩); exact absurd z (by omega); exact List.lt_irrefl _ z)).symm
    · have h2' : ¬ PyData.eqv (.tuple (p.2.map .int)) (.tuple (q.2.map .int)) = true := fun z => h2 (of_decide_eq_true ((eqv_dec (sh_hand p.2) (sh_hand q.2) hand_inj).symm.trans z))
      rw [if_neg h2']
      exact decide_eq_decide.mpr ⟨fun z => .inr ⟨h1, z⟩, fun z => z.elim (fun z => by omega) (·.2)⟩
  · have h1' : ¬ PyData.eqv (.int p.1) (.int q.1) = true := by rw [eqv_int, decide_eq_false h1]; decide
    rw [if_neg h1']
    exact decide_eq_decide.mpr ⟨.inl, fun z => z.elim id fun z => absurd z.1 h1⟩
theorem stLe_data : PySem.W.dataLe false stateD = stLe := by
  funext p q
  show (!PySem.W.dataLt (stateD q) (stateD p)) = stLe p q
  rw [stLt_data]
  unfold stLe
  by_cases h : p.1 < q.1 ∨ (p.1 = q.1 ∧ p.2 ≤ q.2)
  · rw [decide_eq_true h, decide_eq_false]; rfl
    rintro (z | ⟨z, y⟩)
    · rcases h with h | h <;> omega
    · rcases h with h | h
      · omega
      · exact h.2 y
  · rw [decide_eq_false h, decide_eq_true]; rfl
    by_cases c : q.1 < p.1
    · exact .inl c
    · by_cases c2 : p.1 = q.1
      · exact .inr ⟨c2.symm, Classical.byContradiction fun z => h (.inr ⟨c2, z⟩)⟩
      · exact absurd (.inl (by omega)) h
theorem stLe_trans (a b c : State) (h : stLe a b = true) (k : stLe b c = true) : stLe a c = true := by
  unfold stLe at *
  rw [decide_eq_true_eq] at *
  rcases h with h | ⟨h1, h2⟩ <;> rcases k with k | ⟨k1, k2⟩
  · exact .inl (by omega)
  · exact .inl (by omega)
  · exact .inl (by omega)
  · exact .inr ⟨by omega, ll_trans h2 k2⟩
theorem stLe_total (a b : State) : (stLe a b || stLe b a) = true := by
  unfold stLe
  rw [Bool.or_eq_true, decide_eq_true_eq, decide_eq_true_eq]
  by_cases h : a.1 < b.1
  · exact .inl (.inl h)
  · by_cases k : b.1 < a.1
    · exact .inr (.inl k)
    · rcases ll_total a.2 b.2 with z | z
      · exact .inl (.inr ⟨by omega, z⟩)
      · exact .inr (.inr ⟨by omega, z⟩)
def sortS (l : List State) : List State := l.mergeSort (PySem.W.dataLe false stateD)
theorem sortS_mem {l : List State} {x : State} : x ∈ sortS l ↔ x ∈ l := (List.mergeSort_perm _ _).mem_iff
theorem sortS_up (l : List State) : (sortS l).Pairwise fun a b => a.1 ≤ b.1 := by
  unfold sortS
  rw [stLe_data]
  refine (List.pairwise_mergeSort stLe_trans stLe_total l).imp fun {a b} h => ?_
  unfold stLe at h
  rw [decide_eq_true_eq] at h
  rcases h with h | h <;> omega

/-! the states in the order in which they are met, layer by layer -/
def st0 (m : Maze) (s : Int) : State := (s, taken m.ks s [])
def stepsS (m : Maze) (x : State) : List State := stepsF m x.1 x.2
def addE (prev : List State) (E : List Ent2) (c : Ent2) : List Ent2 := if c.1 ∈ prev ∨ c.1 ∈ E.map (·.1) then E else E ++ [c]
def growE (prev : List State) (cs : List Ent2) : List Ent2 := cs.foldl (addE prev) []
def candP (m : Maze) (L : List Ent2) : List Ent2 := L.flatMap fun e => (sortS (stepsS m e.1)).map fun t => (t, e.2 ++ [t.1])
theorem growE_snoc (prev : List State) (cs : List Ent2) (c : Ent2) : growE prev (cs ++ [c]) = addE prev (growE prev cs) c := by
  unfold growE; rw [List.foldl_append]; rfl
theorem snoc_ind {α : Type} {P : List α → Prop} (h0 : P []) (hs : ∀ l a, P l → P (l ++ [a])) (l : List α) : P l := by
  have : ∀ n (l : List α), l.length = n → P l := by
    intro n
    induction n with
    | zero => intro l e; rw [List.length_eq_zero_iff.mp e]; exact h0
    | succ n ih =>
      intro l e
      have hne : l ≠ [] := fun z => by rw [z] at e; cases e
      rw [← List.dropLast_concat_getLast hne]
      exact hs _ _ (ih _ (by rw [List.length_dropLast]; omega))
  exact this _ l rfl
theorem growE_keys (prev : List State) (cs : List Ent2) : ∀ x, x ∈ (growE prev cs).map (·.1) ↔ x ∉ prev ∧ x ∈ cs.map (·.1) := by
  refine snoc_ind (P := fun cs => ∀ x, x ∈ (growE prev cs).map (·.1) ↔ x ∉ prev ∧ x ∈ cs.map (·.1)) (fun x => by simp [growE]) (fun cs c ih x => ?_) cs
  rw [growE_snoc]
  unfold addE
  split
  · rename_i h
    rw [ih, List.map_append, List.mem_append]
    constructor
    · exact fun z => ⟨z.1, .inl z.2⟩
    · rintro ⟨z1, z2 | z2⟩
      · exact ⟨z1, z2⟩
      · have e : x = c.1 := List.mem_singleton.mp z2
        rcases h with h | h
        · exact absurd (e ▸ h) z1
        · exact e ▸ (ih c.1).mp h
  · rename_i h
    rw [List.map_append, List.mem_append, ih, List.map_append, List.mem_append]
    constructor
    · rintro (z | z)
      · exact ⟨z.1, .inl z.2⟩
      · have e : x = c.1 := List.mem_singleton.mp z
        exact ⟨fun y => h (.inl (e ▸ y)), .inr z⟩
    · rintro ⟨z1, z2 | z2⟩
      · exact .inl ⟨z1, z2⟩
      · exact .inr z2
theorem growE_nodup (prev : List State) (cs : List Ent2) : ((growE prev cs).map (·.1)).Nodup := by
  refine snoc_ind (P := fun cs => ((growE prev cs).map (·.1)).Nodup) List.nodup_nil (fun cs c ih => ?_) cs
  rw [growE_snoc]
  unfold addE
  split
  · exact ih
  · rename_i h
    rw [List.map_append]
    refine List.nodup_append.mpr ⟨ih, List.nodup_cons.mpr ⟨List.not_mem_nil, List.nodup_nil⟩, fun a ha b hb => ?_⟩
    rw [List.mem_singleton.mp hb]
    exact fun z => h (.inr ((show a = c.1 from z) ▸ ha))
theorem growE_sub (prev : List State) (cs : List Ent2) : (growE prev cs).Sublist cs := by
  refine snoc_ind (P := fun cs => (growE prev cs).Sublist cs) (List.Sublist.refl _) (fun cs c ih => ?_) cs
  rw [growE_snoc]
  unfold addE
  split
  · exact ih.trans (List.sublist_append_left _ _)
  · exact ih.append (List.Sublist.refl _)
/-- of what comes in order, the least of each -/
theorem growE_mem {prev : List State} {cs : List Ent2} (up : cs.Pairwise fun a b => a.2 ≤ b.2) : ∀ e : Ent2, e ∈ growE prev cs ↔ e.1 ∉ prev ∧ e ∈ cs ∧ ∀ v, (e.1, v) ∈ cs → e.2 ≤ v := by
  revert up
  refine snoc_ind (P := fun cs => (cs.Pairwise fun a b => a.2 ≤ b.2) → ∀ e : Ent2, e ∈ growE prev cs ↔ e.1 ∉ prev ∧ e ∈ cs ∧ ∀ v, (e.1, v) ∈ cs → e.2 ≤ v) (fun _ e => by simp [growE]) (fun cs c ih up e => ?_) cs
  obtain ⟨up1, _, up3⟩ := List.pairwise_append.mp up
  have ih := ih up1
  have last : ∀ x ∈ cs, x.2 ≤ c.2 := fun x hx => up3 x hx c (List.mem_singleton.mpr rfl)
  rw [growE_snoc]
  unfold addE
  split
  · rename_i h
    rw [ih]
    constructor
    · rintro ⟨a, b, d⟩
      refine ⟨a, List.mem_append.mpr (.inl b), fun v hv => ?_⟩
      rcases List.mem_append.mp hv with z | z
      · exact d v z
      · have ev : (e.1, v) = c := List.mem_singleton.mp z
        have : v = c.2 := by rw [← ev]
        rw [this]; exact last e b
    · rintro ⟨a, b, d⟩
      have d' : ∀ v, (e.1, v) ∈ cs → e.2 ≤ v := fun v hv => d v (List.mem_append.mpr (.inl hv))
      rcases List.mem_append.mp b with z | z
      · exact ⟨a, z, d'⟩
      · have ec : e = c := List.mem_singleton.mp z
        rcases h with h | h
        · exact absurd (ec ▸ h) a
        · have hk := ((growE_keys prev cs c.1).mp h).2
          obtain ⟨x, hx, ex⟩ := List.mem_map.mp hk
          have x1 : x.2 ≤ e.2 := ec ▸ last x hx
          have x2 : e.2 ≤ x.2 := d' x.2 (by rw [ec, ← ex]; exact hx)
          have : x = e := Prod.ext (by rw [ex, ec]) (ll_anti x1 x2)
          exact ⟨a, this ▸ hx, d'⟩
  · rename_i h
    rw [List.mem_append, ih]
    constructor
    · rintro (⟨a, b, d⟩ | z)
      · refine ⟨a, List.mem_append.mpr (.inl b), fun v hv => ?_⟩
        rcases List.mem_append.mp hv with z | z
        · exact d v z
        · have ev : (e.1, v) = c := List.mem_singleton.mp z
          have : v = c.2 := by rw [← ev]
          rw [this]; exact last e b
      · have ec : e = c := List.mem_singleton.mp z
        refine ⟨fun y => h (.inl (ec ▸ y)), List.mem_append.mpr (.inr z), fun v hv => ?_⟩
        rcases List.mem_append.mp hv with y | y
        · have hk : e.1 ∈ (growE prev cs).map (·.1) := (growE_keys prev cs e.1).mpr ⟨fun y => h (.inl (ec ▸ y)), List.mem_map.mpr ⟨_, y, rfl⟩⟩
          exact absurd (.inr (ec ▸ hk)) h
        · have ev : (e.1, v) = c := List.mem_singleton.mp y
          have : v = e.2 := by rw [ec, ← ev]
          rw [this]; exact List.le_refl _
    · rintro ⟨a, b, d⟩
      rcases List.mem_append.mp b with z | z
      · exact .inl ⟨a, z, fun v hv => d v (List.mem_append.mpr (.inl hv))⟩
      · exact .inr z
/-- behind k layers: all that stand in them, the next one -/
def layP (m : Maze) (s : Int) : Nat → List Ent2 × List Ent2
  | 0 => ([], [(st0 m s, [s])])
  | k + 1 => ((layP m s k).1 ++ (layP m s k).2, growE (((layP m s k).1 ++ (layP m s k).2).map (·.1)) (candP m (layP m s k).2))
def heldW (m : Maze) (w : List Int) : List Int := w.foldl (fun h r => taken m.ks r h) []
def stW (m : Maze) (w : List Int) : State := (w.getLast?.getD 0, heldW m w)
theorem stW_snoc (m : Maze) (w : List Int) (r : Int) : stW m (w ++ [r]) = (r, taken m.ks r (heldW m w)) := by
  unfold stW heldW
  rw [List.foldl_append, List.getLast?_append]; rfl
theorem steps_to {m : Maze} {x t : State} (h : t ∈ stepsS m x) : t.2 = taken m.ks t.1 x.2 := by
  unfold stepsS stepsF at h
  obtain ⟨d, _, rfl⟩ := List.mem_map.mp h
  rfl
structure LayOk (m : Maze) (s : Int) (k : Nat) (P L : List Ent2) : Prop where
  nd : ((P ++ L).map (·.1)).Nodup
  up : L.Pairwise fun a b => a.2 < b.2
  wk : ∀ e ∈ L, e.2.length = k + 1 ∧ e.2.head? = some s ∧ e.1 = stW m e.2
theorem candP_mem {m : Maze} {L : List Ent2} {c : Ent2} : c ∈ candP m L ↔ ∃ e ∈ L, c.1 ∈ stepsS m e.1 ∧ c.2 = e.2 ++ [c.1.1] := by
  unfold candP
  rw [List.mem_flatMap]
  constructor
  · rintro ⟨e, he, hc⟩
    obtain ⟨t, ht, rfl⟩ := List.mem_map.mp hc
    exact ⟨e, he, sortS_mem.mp ht, rfl⟩
  · rintro ⟨e, he, h1, h2⟩
    exact ⟨e, he, List.mem_map.mpr ⟨c.1, sortS_mem.mpr h1, by rw [← h2]⟩⟩
theorem candP_up {m : Maze} {s : Int} {k : Nat} {P L : List Ent2} (h : LayOk m s k P L) : (candP m L).Pairwise fun a b => a.2 ≤ b.2 := by
  unfold candP
  refine List.pairwise_flatMap.mpr ⟨fun e _ => ?_, h.up.imp_of_mem fun {a b} ha hb hab x hx y hy => ?_⟩
  · refine List.Pairwise.map _ (fun a b hab => ?_) (sortS_up _)
    exact le_app hab _
  · obtain ⟨t, _, rfl⟩ := List.mem_map.mp hx
    obtain ⟨u, _, rfl⟩ := List.mem_map.mp hy
    refine ll_of_lt (lt_app ?_ hab)
    rw [(h.wk a ha).1, (h.wk b hb).1]
theorem cand_ok {m : Maze} {s : Int} {k : Nat} {P L : List Ent2} (h : LayOk m s k P L) {c : Ent2} (hc : c ∈ candP m L) : c.2.length = k + 2 ∧ c.2.head? = some s ∧ c.1 = stW m c.2 := by
  obtain ⟨e, he, h1, h2⟩ := candP_mem.mp hc
  obtain ⟨w1, w2, w3⟩ := h.wk e he
  refine ⟨by rw [h2, List.length_append, w1]; rfl, ?_, ?_⟩
  · rw [h2, List.head?_append, w2]; rfl
  · rw [h2, stW_snoc]
    have hh : heldW m e.2 = e.1.2 := by rw [w3]; rfl
    rw [hh, ← steps_to h1]
theorem layOk_next {m : Maze} {s : Int} {k : Nat} {P L : List Ent2} (h : LayOk m s k P L) : LayOk m s (k + 1) (P ++ L) (growE ((P ++ L).map (·.1)) (candP m L)) := by
  refine ⟨?_, ?_, fun e he => cand_ok h ((growE_sub _ _).subset he)⟩
  · rw [List.map_append]
    refine List.nodup_append.mpr ⟨h.nd, growE_nodup _ _, fun a ha b hb => ?_⟩
    exact fun z => ((growE_keys _ _ b).mp hb).1 (z ▸ ha)
  · have hp := (candP_up h).sublist (growE_sub ((P ++ L).map (·.1)) (candP m L))
    have hn := growE_nodup ((P ++ L).map (·.1)) (candP m L)
    have hn' : (growE ((P ++ L).map (·.1)) (candP m L)).Pairwise fun a b => a.1 ≠ b.1 := (List.pairwise_map.mp hn)
    refine (hp.and hn').imp_of_mem fun {a b} ha hb hab => ll_ne hab.1 fun z => hab.2 ?_
    rw [(cand_ok h ((growE_sub _ _).subset ha)).2.2, (cand_ok h ((growE_sub _ _).subset hb)).2.2, z]
theorem layOk (m : Maze) (s : Int) : ∀ k, LayOk m s k (layP m s k).1 (layP m s k).2
  | 0 => ⟨List.nodup_cons.mpr ⟨List.not_mem_nil, List.nodup_nil⟩, List.pairwise_singleton _ _, fun e he => by
    rw [List.mem_singleton.mp he]
    exact ⟨rfl, rfl, rfl⟩⟩
  | k + 1 => layOk_next (layOk m s k)
theorem lay_mem {m : Maze} {s : Int} {k : Nat} (e : Ent2) : e ∈ (layP m s (k + 1)).2 ↔ e.1 ∉ (layP m s (k + 1)).1.map (·.1) ∧ e ∈ candP m (layP m s k).2 ∧ ∀ v, (e.1, v) ∈ candP m (layP m s k).2 → e.2 ≤ v :=
  growE_mem (candP_up (layOk m s k)) e

/-! dicts as lists of pairs -/
section
variable {α : Type}
def getE (M : List (State × α)) (k : State) : Option α := (M.find? fun e => decide (e.1 = k)).map (·.2)
def putE (M : List (State × α)) (k : State) (v : α) : List (State × α) := if (getE M k).isSome = true then M.map (fun e => if e.1 = k then (e.1, v) else e) else M ++ [(k, v)]
theorem getE_some {M : List (State × α)} {k : State} {v : α} (h : getE M k = some v) : (k, v) ∈ M := by
  unfold getE at h
  cases e : M.find? fun e => decide (e.1 = k) with
  | none => rw [e] at h; cases h
  | some p =>
    rw [e] at h
    have h1 := List.mem_of_find?_eq_some e
    have h2 : p.1 = k := of_decide_eq_true (List.find?_some (p := fun e : State × α => decide (e.1 = k)) e)
    obtain rfl := Option.some.inj h
    rw [← h2]; exact h1
theorem getE_isSome {M : List (State × α)} {k : State} : (getE M k).isSome = true ↔ k ∈ M.map (·.1) := by
  unfold getE
  rw [Option.isSome_map, List.find?_isSome]
  constructor
  · rintro ⟨x, hx, e⟩
    exact List.mem_map.mpr ⟨x, hx, of_decide_eq_true e⟩
  · intro h
    obtain ⟨x, hx, e⟩ := List.mem_map.mp h
    exact ⟨x, hx, decide_eq_true e⟩
theorem getE_none {M : List (State × α)} {k : State} : getE M k = none ↔ k ∉ M.map (·.1) := by
  rw [← getE_isSome]
  cases getE M k <;> simp
theorem getE_of_mem {M : List (State × α)} (nd : (M.map (·.1)).Nodup) {k : State} {v : α} (h : (k, v) ∈ M) : getE M k = some v := by
  cases e : getE M k with
  | none => exact absurd (List.mem_map.mpr ⟨(k, v), h, rfl⟩) (getE_none.mp e)
  | some u =>
    have hu := getE_some e
    induction M with
    | nil => cases h
    | cons p t ih =>
      have nd' := List.nodup_cons.mp nd
      rcases List.mem_cons.mp h with z | z <;> rcases List.mem_cons.mp hu with y | y
      · rw [← z] at y; exact congrArg some (Prod.mk.inj y).2
      · exact absurd (List.mem_map.mpr ⟨_, y, by rw [← z]⟩) nd'.1
      · exact absurd (List.mem_map.mpr ⟨_, z, by rw [← y]⟩) nd'.1
      · refine ih nd'.2 z ?_ y
        unfold getE at e ⊢
        rw [List.find?_cons_of_neg (by
          rw [decide_eq_false]; exact Bool.false_ne_true
          intro q
          exact nd'.1 (List.mem_map.mpr ⟨_, z, q.symm⟩))] at e
        exact e
theorem putE_keys {M : List (State × α)} {k : State} {v : α} : (putE M k v).map (·.1) = if k ∈ M.map (·.1) then M.map (·.1) else M.map (·.1) ++ [k] := by
  unfold putE
  by_cases h : (getE M k).isSome = true
  · rw [if_pos h, if_pos (getE_isSome.mp h), List.map_map]
    refine List.map_congr_left fun e _ => ?_
    show (if e.1 = k then (e.1, v) else e).1 = e.1
    split <;> rfl
  · rw [if_neg h, if_neg fun z => h (getE_isSome.mpr z), List.map_append]; rfl
theorem putE_nodup {M : List (State × α)} {k : State} {v : α} (nd : (M.map (·.1)).Nodup) : ((putE M k v).map (·.1)).Nodup := by
  rw [putE_keys]
  split
  · exact nd
  · rename_i h
    refine List.nodup_append.mpr ⟨nd, List.nodup_cons.mpr ⟨List.not_mem_nil, List.nodup_nil⟩, fun a ha b hb => ?_⟩
    rw [List.mem_singleton.mp hb]
    exact fun z => h (z ▸ ha)
theorem putE_mem {M : List (State × α)} (nd : (M.map (·.1)).Nodup) {k : State} {v : α} (e : State × α) : e ∈ putE M k v ↔ (e.1 ≠ k ∧ e ∈ M) ∨ e = (k, v) := by
  unfold putE
  by_cases h : (getE M k).isSome = true
  · rw [if_pos h, List.mem_map]
    constructor
    · rintro ⟨x, hx, rfl⟩
      by_cases c : x.1 = k
      · rw [if_pos c, c]; exact .inr rfl
      · rw [if_neg c]; exact .inl ⟨c, hx⟩
    · rintro (⟨c, hx⟩ | rfl)
      · exact ⟨e, hx, if_neg c⟩
      · obtain ⟨x, hx, ex⟩ := List.mem_map.mp (getE_isSome.mp h)
        exact ⟨x, hx, by rw [if_pos ex, ex]⟩
  · rw [if_neg h, List.mem_append, List.mem_singleton]
    constructor
    · rintro (z | z)
      · exact .inl ⟨fun y => h (getE_isSome.mpr (List.mem_map.mpr ⟨e, z, y⟩)), z⟩
      · exact .inr z
    · rintro (⟨_, z⟩ | z)
      · exact .inl z
      · exact .inr z
/-- as the layer tells such dicts -/
def kS (x : State) : NestedKey := .tup [.num x.1, .tup (x.2.map .num)]
theorem datas_nums : ∀ l : List Int, NestedKey.datas (l.map .num) = l.map .int
  | [] => by simp [NestedKey.datas]
  | x :: r => by
    show NestedKey.datas (.num x :: r.map .num) = _
    rw [NestedKey.datas, datas_nums r, NestedKey.data]; rfl
theorem kS_data (x : State) : (kS x).data = stateD x := by
  unfold kS stateD handD
  rw [NestedKey.data, NestedKey.datas, NestedKey.datas, NestedKey.datas, NestedKey.data, NestedKey.data, datas_nums]
theorem kS_inj {x y : State} (h : kS x = kS y) : x = y := state_inj (by rw [← kS_data, ← kS_data, h])
theorem depths_nums : ∀ l : List Int, NestedKey.depthAll (l.map .num) = 0
  | [] => by simp [NestedKey.depthAll]
  | x :: r => by
    show NestedKey.depthAll (.num x :: r.map .num) = 0
    rw [NestedKey.depthAll, depths_nums r, NestedKey.depth]; rfl
theorem kS_key (x : State) : IsKey (kS x) := by
  refine ⟨?_, _, kS_data x⟩
  unfold kS
  rw [NestedKey.depth, NestedKey.depthAll, NestedKey.depthAll, NestedKey.depthAll, NestedKey.depth, NestedKey.depth, depths_nums]
  decide
def kvsE (f : α → PyData) (M : List (State × α)) : List Kv := M.map fun e => (kS e.1, f e.2)
theorem atP_E (f : α → PyData) (M : List (State × α)) (k : State) : atP (kvsE f M) (kS k) = (getE M k).map f := by
  unfold atP kvsE getE
  rw [List.find?_map]
  have e : ((fun p : Kv => decide (p.1 = kS k)) ∘ fun e : State × α => (kS e.1, f e.2)) = fun e => decide (e.1 = k) := by
    funext e
    exact decide_eq_decide.mpr ⟨kS_inj, congrArg kS⟩
  rw [e, Option.map_map, Option.map_map]; rfl
theorem putP_E (f : α → PyData) (M : List (State × α)) (k : State) (v : α) : putP (kvsE f M) (kS k) (f v) = kvsE f (putE M k v) := by
  unfold putP putE
  rw [atP_E, Option.isSome_map]
  split
  · unfold kvsE
    rw [List.map_map, List.map_map]
    refine List.map_congr_left fun e _ => ?_
    show (if kS e.1 = kS k then (kS e.1, f v) else (kS e.1, f e.2)) = (kS (if e.1 = k then (e.1, v) else e).1, f (if e.1 = k then (e.1, v) else e).2)
    by_cases c : e.1 = k
    · rw [if_pos c, if_pos (congrArg kS c)]
    · rw [if_neg c, if_neg fun z => c (kS_inj z)]
  · unfold kvsE
    rw [List.map_append]; rfl
theorem keys_E (f : α → PyData) (M : List (State × α)) : (kvsE f M).map (·.1) = (M.map (·.1)).map kS := by
  unfold kvsE
  rw [List.map_map, List.map_map]; rfl
theorem len_E (f : α → PyData) (M : List (State × α)) : (kvsE f M).length = M.length := List.length_map _
end
/-! the law's going through all states -/
def minL (a b : List Int) : List Int := if b < a then b else a
def addM (n : Int) (M : List Ent2) (c : Ent2) : List Ent2 := putE M c.1 (minL ((getE M c.1).getD [n]) c.2)
def moreF (n : Int) (cs : List Ent2) : List Ent2 := cs.foldl (addM n) []
def candL (m : Maze) (seen : List State) (N : List Ent2) : List Ent2 := N.flatMap fun e => ((stepsS m e.1).filter fun o => !decide (o ∈ seen)).map fun t => (t, e.2 ++ [t.1])
theorem moreF_snoc (n : Int) (cs : List Ent2) (c : Ent2) : moreF n (cs ++ [c]) = addM n (moreF n cs) c := by
  unfold moreF; rw [List.foldl_append]; rfl
theorem moreF_nodup (n : Int) (cs : List Ent2) : ((moreF n cs).map (·.1)).Nodup := by
  refine snoc_ind (P := fun cs => ((moreF n cs).map (·.1)).Nodup) List.nodup_nil (fun cs c ih => ?_) cs
  rw [moreF_snoc]; exact putE_nodup ih
theorem minL_le (a b : List Int) : minL a b ≤ a ∧ minL a b ≤ b := by
  unfold minL
  split
  · exact ⟨ll_of_lt ‹_›, List.le_refl _⟩
  · exact ⟨List.le_refl _, List.not_lt.mp ‹_›⟩
theorem minL_or (a b : List Int) : minL a b = a ∨ minL a b = b := by unfold minL; split <;> simp
theorem moreF_mem {n : Int} (cs : List Ent2) (small : ∀ c ∈ cs, c.2 < [n]) : ∀ e : Ent2, e ∈ moreF n cs ↔ e ∈ cs ∧ ∀ v, (e.1, v) ∈ cs → e.2 ≤ v := by
  revert small
  refine snoc_ind (P := fun cs => (∀ c ∈ cs, c.2 < [n]) → ∀ e : Ent2, e ∈ moreF n cs ↔ e ∈ cs ∧ ∀ v, (e.1, v) ∈ cs → e.2 ≤ v) (fun _ e => by simp [moreF]) (fun cs c ih small e => ?_) cs
  have ih := ih fun x hx => small x (List.mem_append.mpr (.inl hx))
  have hc := small c (List.mem_append.mpr (.inr (List.mem_singleton.mpr rfl)))
  have nd := moreF_nodup n cs
  have hv : ∀ v, (c.1, v) ∈ cs ++ [c] ↔ (c.1, v) ∈ cs ∨ v = c.2 := fun v => by
    rw [List.mem_append, List.mem_singleton]
    exact or_congr_right ⟨fun z => by rw [← z], fun z => by rw [z]⟩
  rw [moreF_snoc]
  unfold addM
  rw [putE_mem nd]
  by_cases k : e.1 = c.1
  · have key : (e ∈ cs ++ [c] ∧ ∀ v, (e.1, v) ∈ cs ++ [c] → e.2 ≤ v) ↔ ((c.1, e.2) ∈ cs ∨ e.2 = c.2) ∧ (∀ v, (c.1, v) ∈ cs → e.2 ≤ v) ∧ e.2 ≤ c.2 := by
      have ee : e = (c.1, e.2) := by rw [← k]
      rw [← hv, ← ee, k]
      refine and_congr_right fun _ => ⟨fun z => ⟨fun v y => z v ((hv v).mpr (.inl y)), z _ ((hv _).mpr (.inr rfl))⟩, fun z v y => ?_⟩
      rcases (hv v).mp y with y | y
      · exact z.1 v y
      · rw [y]; exact z.2
    rw [key]
    have left : (e.1 ≠ c.1 ∧ e ∈ moreF n cs ∨ e = (c.1, minL ((getE (moreF n cs) c.1).getD [n]) c.2)) ↔ e.2 = minL ((getE (moreF n cs) c.1).getD [n]) c.2 :=
      ⟨fun z => z.elim (fun z => absurd k z.1) fun z => by rw [z], fun z => .inr (Prod.ext k z)⟩
    rw [left]
    cases eg : getE (moreF n cs) c.1 with
    | none =>
      have no : ∀ v, (c.1, v) ∉ cs := fun v y => by
        have hne : c.1 ∈ (moreF n cs).map (·.1) := by
          -- some least one stands
          have ex : ∃ u, (c.1, u) ∈ cs ∧ ∀ v, (c.1, v) ∈ cs → u ≤ v := by
            have lst : ∀ (l : List Ent2), (∃ v, (c.1, v) ∈ l) → ∃ u, (c.1, u) ∈ l ∧ ∀ v, (c.1, v) ∈ l → u ≤ v := by
              intro l
              induction l with
              | nil => rintro ⟨v, hv⟩; cases hv
              | cons p t ih2 =>
                rintro ⟨v, hv⟩
                by_cases ht : ∃ v, (c.1, v) ∈ t
                · obtain ⟨u, u1, u2⟩ := ih2 ht
                  by_cases hp : p.1 = c.1
                  · rcases ll_total u p.2 with z | z
                    · refine ⟨u, List.mem_cons_of_mem _ u1, fun v hv => ?_⟩
                      rcases List.mem_cons.mp hv with y | y
                      · rw [← y] at z; exact z
                      · exact u2 v y
                    · refine ⟨p.2, List.mem_cons.mpr (.inl (by rw [← hp])), fun v hv => ?_⟩
                      rcases List.mem_cons.mp hv with y | y
                      · rw [← y]; exact List.le_refl _
                      · exact ll_trans z (u2 v y)
                  · refine ⟨u, List.mem_cons_of_mem _ u1, fun v hv => ?_⟩
                    rcases List.mem_cons.mp hv with y | y
                    · exact absurd (by rw [← y]) hp
                    · exact u2 v y
                · rcases List.mem_cons.mp hv with y | y
                  · refine ⟨v, hv, fun v' hv' => ?_⟩
                    rcases List.mem_cons.mp hv' with y' | y'
                    · rw [← y] at y'; rw [(Prod.mk.inj y').2]; exact List.le_refl _
                    · exact absurd ⟨v', y'⟩ ht
                  · exact absurd ⟨v, y⟩ ht
            exact lst cs ⟨v, y⟩
          obtain ⟨u, u1, u2⟩ := ex
          exact List.mem_map.mpr ⟨(c.1, u), (ih (c.1, u)).mpr ⟨u1, u2⟩, rfl⟩
        exact absurd hne (getE_none.mp eg)
      have em : minL (Option.none.getD [n]) c.2 = c.2 := if_pos hc
      rw [em]
      exact ⟨fun z => ⟨.inr z, fun v y => absurd y (no v), by rw [z]; exact List.le_refl _⟩, fun z => z.1.elim (fun y => absurd y (no _)) id⟩
    | some u =>
      have hu := (ih (c.1, u)).mp (getE_some eg)
      show e.2 = minL u c.2 ↔ _
      obtain ⟨m1, m2⟩ := minL_le u c.2
      constructor
      · intro z
        refine ⟨?_, fun v y => ?_, by rw [z]; exact m2⟩
        · rcases minL_or u c.2 with y | y
          · exact .inl (by rw [z, y]; exact hu.1)
          · exact .inr (by rw [z, y])
        · rw [z]; exact ll_trans m1 (hu.2 v y)
      · rintro ⟨z1, z2, z3⟩
        refine ll_anti ?_ ?_
        · rcases minL_or u c.2 with y | y
          · rw [y]; exact z2 u hu.1
          · rw [y]; exact z3
        · rcases z1 with z | z
          · exact ll_trans m1 (hu.2 _ z)
          · rw [z]; exact m2
  · have n1 : e ≠ (c.1, minL ((getE (moreF n cs) c.1).getD [n]) c.2) := fun z => k (by rw [z])
    have n2 : e ≠ c := fun z => k (by rw [z])
    have hx : ∀ v, (e.1, v) ∈ cs ++ [c] ↔ (e.1, v) ∈ cs := fun v => by
      rw [List.mem_append, List.mem_singleton]
      exact ⟨fun z => z.elim id fun z => absurd (by rw [← z]) k, .inl⟩
    have hy : e ∈ cs ++ [c] ↔ e ∈ cs := by
      rw [List.mem_append, List.mem_singleton]
      exact ⟨fun z => z.elim id fun z => absurd z n2, .inl⟩
    rw [hy]
    constructor
    · rintro (z | z)
      · obtain ⟨a, b⟩ := (ih e).mp z.2
        exact ⟨a, fun v y => b v ((hx v).mp y)⟩
      · exact absurd z n1
    · rintro ⟨a, b⟩
      exact .inl ⟨k, (ih e).mpr ⟨a, fun v y => b v ((hx v).mpr y)⟩⟩

/-! the law's turns are the layers -/
def seenAdd (S : List (State × Bool)) (N : List Ent2) : List (State × Bool) := N.foldl (fun S e => putE S e.1 true) S
def lawT (m : Maze) (n s : Int) : Nat → List (State × Bool) × List Ent2
  | 0 => ([], [(st0 m s, [s])])
  | t + 1 => (seenAdd (lawT m n s t).1 (lawT m n s t).2, moreF n (candL m ((seenAdd (lawT m n s t).1 (lawT m n s t).2).map (·.1)) (lawT m n s t).2))
theorem seenAdd_ok (N : List Ent2) : ∀ (S : List (State × Bool)), (S.map (·.1)).Nodup → ((seenAdd S N).map (·.1)).Nodup ∧ ∀ x, x ∈ (seenAdd S N).map (·.1) ↔ x ∈ S.map (·.1) ∨ x ∈ N.map (·.1) := by
  induction N with
  | nil => exact fun S nd => ⟨nd, fun x => by simp [seenAdd]⟩
  | cons e t ih =>
    intro S nd
    obtain ⟨h1, h2⟩ := ih (putE S e.1 true) (putE_nodup nd)
    refine ⟨h1, fun x => (h2 x).trans ?_⟩
    rw [putE_keys, List.map_cons, List.mem_cons]
    split
    · rename_i h
      exact ⟨fun z => z.elim .inl fun z => .inr (.inr z), fun z => z.elim .inl fun z => z.elim (fun z => .inl (z ▸ h)) .inr⟩
    · rw [List.mem_append, List.mem_singleton, or_assoc]
theorem head_small {s n : Int} (h : s < n) {w : List Int} (e : w.head? = some s) : w < [n] := by
  cases w with
  | nil => cases e
  | cons a t =>
    obtain rfl : a = s := Option.some.inj e
    rw [List.cons_lt_cons_iff]
    exact .inl h
theorem law_lay {m : Maze} {n s : Int} (hs : s < n) : ∀ t, (((lawT m n s t).1.map (·.1)).Nodup ∧ ∀ x, x ∈ (lawT m n s t).1.map (·.1) ↔ x ∈ (layP m s t).1.map (·.1)) ∧ ((lawT m n s t).2.map (·.1)).Nodup ∧ ∀ e, e ∈ (lawT m n s t).2 ↔ e ∈ (layP m s t).2
  | 0 => ⟨⟨List.nodup_nil, fun x => Iff.rfl⟩, List.nodup_cons.mpr ⟨List.not_mem_nil, List.nodup_nil⟩, fun e => Iff.rfl⟩
  | t + 1 => by
    obtain ⟨⟨i1, i2⟩, i3, i4⟩ := law_lay hs t
    obtain ⟨s1, s2⟩ := seenAdd_ok (lawT m n s t).2 (lawT m n s t).1 i1
    have ok := layOk m s t
    have keys : ∀ x, x ∈ (seenAdd (lawT m n s t).1 (lawT m n s t).2).map (·.1) ↔ x ∈ ((layP m s t).1 ++ (layP m s t).2).map (·.1) := fun x => by
      rw [s2, i2, List.map_append, List.mem_append]
      refine or_congr_right ?_
      rw [List.mem_map, List.mem_map]
      exact exists_congr fun e => and_congr_left fun _ => i4 e
    refine ⟨⟨s1, keys⟩, moreF_nodup _ _, fun e => ?_⟩
    have cm : ∀ c, c ∈ candL m ((seenAdd (lawT m n s t).1 (lawT m n s t).2).map (·.1)) (lawT m n s t).2 ↔ c.1 ∉ ((layP m s t).1 ++ (layP m s t).2).map (·.1) ∧ c ∈ candP m (layP m s t).2 := fun c => by
      unfold candL
      rw [List.mem_flatMap, candP_mem]
      constructor
      · rintro ⟨x, hx, hc⟩
        obtain ⟨o, ho, rfl⟩ := List.mem_map.mp hc
        obtain ⟨ho1, ho2⟩ := List.mem_filter.mp ho
        refine ⟨fun z => ?_, x, (i4 x).mp hx, ho1, rfl⟩
        rw [Bool.not_eq_true', decide_eq_false_iff_not] at ho2
        exact ho2 ((keys _).mpr z)
      · rintro ⟨z, x, hx, h1, h2⟩
        refine ⟨x, (i4 x).mpr hx, List.mem_map.mpr ⟨c.1, List.mem_filter.mpr ⟨h1, ?_⟩, by rw [← h2]⟩⟩
        rw [Bool.not_eq_true', decide_eq_false_iff_not]
        exact fun y => z ((keys _).mp y)
    show e ∈ moreF n _ ↔ _
    rw [moreF_mem _ fun c hc => head_small hs (cand_ok ok ((cm c).mp hc).2).2.1, lay_mem, cm]
    constructor
    · rintro ⟨⟨a, b⟩, d⟩
      exact ⟨a, b, fun v hv => d v ((cm _).mpr ⟨a, hv⟩)⟩
    · rintro ⟨a, b, d⟩
      exact ⟨⟨a, b⟩, fun v hv => d v ((cm _).mp hv).2⟩
/-! the program's row of states -/
def addC (Q : List Ent2) (c : Ent2) : List Ent2 := if c.1 ∈ Q.map (·.1) then Q else Q ++ [c]
def candsQ (m : Maze) (e : Ent2) : List Ent2 := (sortS (stepsS m e.1)).map fun t => (t, e.2 ++ [t.1])
def expandQ (m : Maze) (Q : List Ent2) (e : Ent2) : List Ent2 := (candsQ m e).foldl addC Q
def runQ (m : Maze) (s : Int) : Nat → List Ent2
  | 0 => [(st0 m s, [s])]
  | i + 1 => match (runQ m s i)[i]? with
    | some e => expandQ m (runQ m s i) e
    | none => runQ m s i
theorem fold_prev (P : List Ent2) : ∀ (cs E : List Ent2), cs.foldl addC (P ++ E) = P ++ cs.foldl (addE (P.map (·.1))) E
  | [], E => rfl
  | c :: t, E => by
    rw [List.foldl_cons, List.foldl_cons]
    have e : addC (P ++ E) c = P ++ addE (P.map (·.1)) E c := by
      have iff : c.1 ∈ (P ++ E).map (·.1) ↔ c.1 ∈ P.map (·.1) ∨ c.1 ∈ E.map (·.1) := by rw [List.map_append, List.mem_append]
      unfold addC addE
      by_cases h : c.1 ∈ (P ++ E).map (·.1)
      · rw [if_pos h, if_pos (iff.mp h)]
      · rw [if_neg h, if_neg fun z => h (iff.mpr z), List.append_assoc]
    rw [e]
    exact fold_prev P t _
theorem run_mid {m : Maze} {s : Int} {P L : List Ent2} (h : runQ m s P.length = P ++ L) : ∀ j, j ≤ L.length → runQ m s (P.length + j) = P ++ L ++ growE ((P ++ L).map (·.1)) (candP m (L.take j))
  | 0, _ => by
    rw [Nat.add_zero, h, List.take_zero]
    show P ++ L = P ++ L ++ []
    rw [List.append_nil]
  | j + 1, hj => by
    have ih := run_mid h j (by omega)
    have hlt : j < L.length := by omega
    have ej : L[j]? = some L[j] := List.getElem?_eq_getElem hlt
    have eq : (runQ m s (P.length + j))[P.length + j]? = some L[j] := by
      rw [ih, List.append_assoc, List.getElem?_append_right (by omega), Nat.add_sub_cancel_left, List.getElem?_append_left hlt, ej]
    have e1 : runQ m s (P.length + (j + 1)) = expandQ m (runQ m s (P.length + j)) L[j] := by
      show (match (runQ m s (P.length + j))[P.length + j]? with | some e => expandQ m (runQ m s (P.length + j)) e | none => runQ m s (P.length + j)) = _
      rw [eq]
    have e2 : candP m (L.take (j + 1)) = candP m (L.take j) ++ candsQ m L[j] := by
      unfold candP
      rw [List.take_succ_eq_append_getElem hlt, List.flatMap_append]
      show _ ++ List.flatMap _ [L[j]] = _
      rw [List.flatMap_cons, List.flatMap_nil, List.append_nil]; rfl
    rw [e1, ih, e2]
    unfold expandQ growE
    rw [fold_prev, List.foldl_append]
theorem run_lay (m : Maze) (s : Int) : ∀ k, runQ m s (layP m s k).1.length = (layP m s k).1 ++ (layP m s k).2
  | 0 => rfl
  | k + 1 => by
    have h := run_mid (run_lay m s k) (layP m s k).2.length (Nat.le_refl _)
    rw [List.take_length] at h
    show runQ m s ((layP m s k).1 ++ (layP m s k).2).length = _
    rw [List.length_append, h]; rfl
theorem run_at (m : Maze) (s : Int) : ∀ t i, i < ((layP m s t).1 ++ (layP m s t).2).length → (runQ m s i)[i]? = ((layP m s t).1 ++ (layP m s t).2)[i]?
  | 0, i, h => by
    have : i = 0 := by
      have h' : i < 1 := h
      omega
    subst this; rfl
  | t + 1, i, h => by
    by_cases c : i < (layP m s (t + 1)).1.length
    · rw [List.getElem?_append_left c]
      exact run_at m s t i c
    · have hm := run_mid (run_lay m s (t + 1)) (i - (layP m s (t + 1)).1.length) (by rw [List.length_append] at h; omega)
      have e : (layP m s (t + 1)).1.length + (i - (layP m s (t + 1)).1.length) = i := by omega
      rw [e] at hm
      rw [hm, List.getElem?_append_left h]
/-! what can be come to by steps -/
inductive Reach (m : Maze) (a : State) : State → Prop where
  | refl : Reach m a a
  | step {b c : State} : Reach m a b → c ∈ stepsS m b → Reach m a c
theorem Reach.trans {m : Maze} {a b c : State} (h : Reach m a b) (k : Reach m b c) : Reach m a c := by
  induction k with
  | refl => exact h
  | step _ hc ih => exact ih.step hc
theorem taken_mem {ks : List Key2} {r k : Int} {h : List Int} : k ∈ taken ks r h ↔ k ∈ h ∨ (r, k) ∈ ks := by
  unfold taken keysIn
  rw [rise_mem, List.mem_append, rise_mem, List.mem_map]
  refine or_congr_right ⟨?_, fun z => ⟨(r, k), List.mem_filter.mpr ⟨z, decide_eq_true rfl⟩, rfl⟩⟩
  rintro ⟨⟨a, b⟩, h1, rfl⟩
  obtain ⟨h2, h3⟩ := List.mem_filter.mp h1
  have : a = r := of_decide_eq_true h3
  rw [← this]; exact h2
theorem among_mem {ks : List Key2} {k : Int} {rs : List Int} : k ∈ keysAmong ks rs ↔ ∃ r ∈ rs, (r, k) ∈ ks := by
  unfold keysAmong
  rw [rise_mem, List.mem_map]
  constructor
  · rintro ⟨⟨a, b⟩, h1, rfl⟩
    obtain ⟨h2, h3⟩ := List.mem_filter.mp h1
    exact ⟨a, of_decide_eq_true h3, h2⟩
  · rintro ⟨r, h1, h2⟩
    exact ⟨(r, k), List.mem_filter.mpr ⟨h2, decide_eq_true h1⟩, rfl⟩
theorem opens_more {l : Option Int} {h h' : List Int} (o : opensF l h = true) (k : ∀ x ∈ h, x ∈ h') : opensF l h' = true := by
  cases l with
  | none => rfl
  | some x => exact decide_eq_true (k x (of_decide_eq_true o))
theorem step_mem {m : Maze} {x t : State} : t ∈ stepsS m x ↔ ∃ d ∈ m.ds, viaF x.1 x.2 d = true ∧ t = toF m.ks x.1 x.2 d := by
  unfold stepsS stepsF
  rw [List.mem_map]
  constructor
  · rintro ⟨d, h, rfl⟩
    obtain ⟨h1, h2⟩ := List.mem_filter.mp h
    exact ⟨d, h1, h2, rfl⟩
  · rintro ⟨d, h1, h2, rfl⟩
    exact ⟨d, List.mem_filter.mpr ⟨h1, h2⟩, rfl⟩
/-- nothing leads out of what cannot grow -/
theorem reach_in {m : Maze} {C : List Int} (hC : nextR m C = none) {a : State} (h1 : a.1 ∈ C) (h2 : ∀ k ∈ a.2, k ∈ keysAmong m.ks C) {x : State} (r : Reach m a x) : x.1 ∈ C ∧ ∀ k ∈ x.2, k ∈ keysAmong m.ks C := by
  induction r with
  | refl => exact ⟨h1, h2⟩
  | @step b c _ hc ih =>
    obtain ⟨d, hd, hv, rfl⟩ := step_mem.mp hc
    obtain ⟨i1, i2⟩ := ih
    unfold viaF at hv
    rw [Bool.and_eq_true, decide_eq_true_eq] at hv
    have ho : opensIn m.ks C d.2.2 = true := by rw [← opens_among]; exact opens_more hv.2 i2
    have hne : goesOn m.ks C d = false := by
      unfold nextR at hC
      rw [Option.map_eq_none_iff, List.find?_eq_none] at hC
      exact Bool.eq_false_iff.mpr (hC d hd)
    have one : oneEnd C d = false := by
      unfold goesOn at hne
      rw [ho, Bool.and_true] at hne; exact hne
    have same : (d.1 ∈ C ↔ d.2.1 ∈ C) := by
      unfold oneEnd at one
      rw [Bool.not_eq_false', decide_eq_true_eq] at one
      exact decide_eq_decide.mp one
    have hin : otherF d b.1 ∈ C := by
      unfold otherF
      split
      · rename_i e; exact same.mp (by rw [e]; exact i1)
      · rename_i e
        rcases hv.1 with z | z
        · exact absurd z.symm e
        · exact same.mpr (by rw [← z]; exact i1)
    refine ⟨hin, fun k hk => ?_⟩
    have hk' : k ∈ taken m.ks (otherF d b.1) b.2 := hk
    rcases taken_mem.mp hk' with z | z
    · exact i2 k z
    · exact among_mem.mpr ⟨_, hin, z⟩
/-- rooms that lie together -/
def Conn (m : Maze) (rs : List Int) : Prop := ∀ u ∈ rs, ∀ r ∈ rs, ∀ h : List Int, (∀ k ∈ keysAmong m.ks rs, k ∈ h) → ∃ h' : List Int, Reach m (u, h) (r, h') ∧ ∀ k ∈ h, k ∈ h'
def Got (m : Maze) (s : Int) (rs : List Int) : Prop := ∃ r0 ∈ rs, ∃ h : List Int, Reach m (st0 m s) (r0, h) ∧ ∀ k ∈ keysAmong m.ks rs, k ∈ h
theorem conn_next {m : Maze} {s : Int} {rs : List Int} {x : Int} (hc : Conn m rs) (hg : Got m s rs) (hx : nextR m rs = some x) : Conn m (rs ++ [x]) ∧ Got m s (rs ++ [x]) := by
  unfold nextR at hx
  cases e : m.ds.find? (goesOn m.ks rs) with
  | none => rw [e] at hx; cases hx
  | some d =>
    rw [e] at hx
    obtain rfl := Option.some.inj hx
    have hd := List.mem_of_find?_eq_some e
    have hgo := List.find?_some e
    unfold goesOn at hgo
    rw [Bool.and_eq_true, ← opens_among] at hgo
    obtain ⟨one, op⟩ := hgo
    have new := farEnd_new one
    -- the end that is among them
    obtain ⟨u0, hu0, g1, g2⟩ : ∃ u0 ∈ rs, (∀ h, (∀ k ∈ keysAmong m.ks rs, k ∈ h) → (farEnd rs d, taken m.ks (farEnd rs d) h) ∈ stepsS m (u0, h)) ∧ ∀ h, (∀ k ∈ keysAmong m.ks rs, k ∈ h) → (u0, taken m.ks u0 h) ∈ stepsS m (farEnd rs d, h) := by
      unfold oneEnd at one
      rw [Bool.not_eq_true', decide_eq_false_iff_not] at one
      by_cases c : d.1 ∈ rs
      · have c2 : d.2.1 ∉ rs := fun z => one (by rw [decide_eq_true c, decide_eq_true z])
        have ne : d.1 ≠ d.2.1 := fun z => c2 (z ▸ c)
        have ef : farEnd rs d = d.2.1 := if_pos c
        refine ⟨d.1, c, fun h hh => step_mem.mpr ⟨d, hd, ?_, ?_⟩, fun h hh => step_mem.mpr ⟨d, hd, ?_, ?_⟩⟩
        · unfold viaF; rw [decide_eq_true (.inl rfl), opens_more op hh]; rfl
        · have o : otherF d d.1 = d.2.1 := if_pos rfl
          unfold toF; rw [ef, o]
        · unfold viaF; rw [ef, decide_eq_true (.inr rfl), opens_more op hh]; rfl
        · have o : otherF d d.2.1 = d.1 := if_neg ne
          unfold toF; rw [ef, o]
      · have c2 : d.2.1 ∈ rs := Classical.byContradiction fun z => one (by rw [decide_eq_false c, decide_eq_false z])
        have ne : d.1 ≠ d.2.1 := fun z => c (z ▸ c2)
        have ef : farEnd rs d = d.1 := if_neg c
        refine ⟨d.2.1, c2, fun h hh => step_mem.mpr ⟨d, hd, ?_, ?_⟩, fun h hh => step_mem.mpr ⟨d, hd, ?_, ?_⟩⟩
        · unfold viaF; rw [decide_eq_true (.inr rfl), opens_more op hh]; rfl
        · have o : otherF d d.2.1 = d.1 := if_neg ne
          unfold toF; rw [ef, o]
        · unfold viaF; rw [ef, decide_eq_true (.inl rfl), opens_more op hh]; rfl
        · have o : otherF d d.1 = d.2.1 := if_pos rfl
          unfold toF; rw [ef, o]
    generalize farEnd rs d = x at g1 g2 new
    have less : ∀ {h : List Int}, (∀ k ∈ keysAmong m.ks (rs ++ [x]), k ∈ h) → ∀ k ∈ keysAmong m.ks rs, k ∈ h := fun hh k hk => by
      obtain ⟨r, h1, h2⟩ := among_mem.mp hk
      exact hh k (among_mem.mpr ⟨r, List.mem_append.mpr (.inl h1), h2⟩)
    have grow : ∀ {r : Int} {h : List Int}, ∀ k ∈ h, k ∈ taken m.ks r h := fun k hk => taken_mem.mpr (.inl hk)
    constructor
    · intro u hu r hr h hh
      have hh' := less hh
      -- to u0
      have toU : ∃ h', Reach m (u, h) (u0, h') ∧ ∀ k ∈ h, k ∈ h' := by
        rcases List.mem_append.mp hu with z | z
        · exact hc u z u0 hu0 h hh'
        · rw [List.mem_singleton.mp z]
          exact ⟨_, Reach.refl.step (g2 h hh'), grow⟩
      obtain ⟨h1, r1, k1⟩ := toU
      have hh1 : ∀ k ∈ keysAmong m.ks rs, k ∈ h1 := fun k hk => k1 k (hh' k hk)
      rcases List.mem_append.mp hr with z | z
      · obtain ⟨h2, r2, k2⟩ := hc u0 hu0 r z h1 hh1
        exact ⟨h2, r1.trans r2, fun k hk => k2 k (k1 k hk)⟩
      · rw [List.mem_singleton.mp z]
        exact ⟨_, r1.step (g1 h1 hh1), fun k hk => grow k (k1 k hk)⟩
    · obtain ⟨r0, hr0, h, r1, k1⟩ := hg
      obtain ⟨h2, r2, k2⟩ := hc r0 hr0 u0 hu0 h k1
      have hh2 : ∀ k ∈ keysAmong m.ks rs, k ∈ h2 := fun k hk => k2 k (k1 k hk)
      refine ⟨x, List.mem_append.mpr (.inr (List.mem_singleton.mpr rfl)), _, (r1.trans r2).step (g1 h2 hh2), fun k hk => ?_⟩
      obtain ⟨r, h3, h4⟩ := among_mem.mp hk
      rcases List.mem_append.mp h3 with z | z
      · exact grow k (hh2 k (among_mem.mpr ⟨r, z, h4⟩))
      · rw [List.mem_singleton.mp z] at h4
        exact taken_mem.mpr (.inr h4)
theorem come_reach {m : Maze} (hm : okMaze m) {s : Int} (hs : inRoom m.n s) {g : Int} : g ∈ comeR m s ↔ ∃ h, Reach m (st0 m s) (g, h) := by
  obtain ⟨c1, c2, ⟨t, c3⟩, c4⟩ := comeR_is hm hs
  constructor
  · intro hg
    have all : ∀ k, 1 ≤ k → k ≤ (comeR m s).length → Conn m ((comeR m s).take k) ∧ Got m s ((comeR m s).take k) := by
      intro k
      induction k with
      | zero => intro z; omega
      | succ k ih =>
        intro _ h2
        by_cases k0 : k = 0
        · subst k0
          have e : (comeR m s).take 1 = [s] := by rw [c3]; rfl
          rw [e]
          refine ⟨fun u hu r hr h hh => ?_, s, List.mem_singleton.mpr rfl, _, Reach.refl, fun k hk => ?_⟩
          · rw [List.mem_singleton.mp hu, List.mem_singleton.mp hr]
            exact ⟨h, Reach.refl, fun _ z => z⟩
          · obtain ⟨r, h1, h2⟩ := among_mem.mp hk
            rw [List.mem_singleton.mp h1] at h2
            exact taken_mem.mpr (.inr h2)
        · obtain ⟨i1, i2⟩ := ih (by omega) (by omega)
          have e := List.take_succ_eq_append_getElem (l := comeR m s) (i := k) (by omega)
          rw [e]
          exact conn_next i1 i2 (c4 k _ (by omega) (List.getElem?_eq_getElem (by omega)))
    have hl : 1 ≤ (comeR m s).length := by rw [c3, List.length_cons]; omega
    obtain ⟨a1, r0, hr0, h, r1, k1⟩ := all (comeR m s).length hl (Nat.le_refl _)
    rw [List.take_length] at a1 hr0 k1
    obtain ⟨h', r2, _⟩ := a1 r0 hr0 g hg h k1
    exact ⟨h', r1.trans r2⟩
  · rintro ⟨h, r⟩
    have hs' : s ∈ comeR m s := by rw [c3]; exact List.mem_cons_self
    exact (reach_in c2 (a := st0 m s) hs' (fun k hk => by
      rcases taken_mem.mp (show k ∈ taken m.ks s [] from hk) with z | z
      · cases z
      · exact among_mem.mpr ⟨s, hs', z⟩) r).1

/-! there is an end -/
def fives : List (List Int) := [false, true].flatMap fun a => [false, true].flatMap fun b => [false, true].flatMap fun c => [false, true].flatMap fun d => [false, true].map fun e => ((List.range 5).filter fun k => [a, b, c, d, e].getD k false).map fun (k : Nat) => (k : Int)
theorem fives_len : fives.length = 32 := by decide
theorem fives_mem {L : List Int} (h : L.Pairwise (· < ·)) (h5 : ∀ x ∈ L, 0 ≤ x ∧ x < 5) : L ∈ fives := by
  have e := five_is (p := fun x => decide (x ∈ L)) (L := L) h fun x => ⟨fun z => ⟨h5 x z, decide_eq_true z⟩, fun z => of_decide_eq_true z.2⟩
  have bm : ∀ b : Bool, b ∈ [false, true] := fun b => by cases b <;> simp
  unfold fives
  refine List.mem_flatMap.mpr ⟨decide ((0 : Int) ∈ L), bm _, List.mem_flatMap.mpr ⟨decide ((1 : Int) ∈ L), bm _, List.mem_flatMap.mpr ⟨decide ((2 : Int) ∈ L), bm _, List.mem_flatMap.mpr ⟨decide ((3 : Int) ∈ L), bm _, List.mem_map.mpr ⟨decide ((4 : Int) ∈ L), bm _, ?_⟩⟩⟩⟩⟩
  refine Eq.trans ?_ e
  refine congrArg (List.map fun (k : Nat) => (k : Int)) (List.filter_congr fun k hk => ?_)
  have hk' := List.mem_range.mp hk
  have : k = 0 ∨ k = 1 ∨ k = 2 ∨ k = 3 ∨ k = 4 := by omega
  rcases this with rfl | rfl | rfl | rfl | rfl <;> rfl
def allStates (n : Int) : List State := (allRooms n).flatMap fun r => fives.map fun h => (r, h)
theorem allStates_len (n : Int) : (allStates n).length = n.toNat * 32 := by
  unfold allStates
  rw [List.length_flatMap]
  have : (allRooms n).map (fun r => (fives.map fun h => (r, h)).length) = (allRooms n).map fun _ => 32 := List.map_congr_left fun r _ => by rw [List.length_map, fives_len]
  rw [this, List.map_const', List.sum_replicate_nat, allRooms_len]
def okState (m : Maze) (x : State) : Prop := inRoom m.n x.1 ∧ x.2.Pairwise (· < ·) ∧ okHeld x.2
theorem okState_all {m : Maze} {x : State} (h : okState m x) : x ∈ allStates m.n := by
  unfold allStates
  exact List.mem_flatMap.mpr ⟨x.1, allRooms_mem.mpr h.1, List.mem_map.mpr ⟨x.2, fives_mem h.2.1 h.2.2.2, rfl⟩⟩
theorem okState_st0 {m : Maze} (hm : okMaze m) {s : Int} (hs : inRoom m.n s) : okState m (st0 m s) := ⟨hs, rise_up _, taken_ok hm.1 ⟨Nat.zero_le _, fun _ z => absurd z List.not_mem_nil⟩⟩
theorem okState_step {m : Maze} (hm : okMaze m) {x t : State} (h : okState m x) (ht : t ∈ stepsS m x) : okState m t := by
  obtain ⟨d, hd, _, rfl⟩ := step_mem.mp ht
  refine ⟨?_, rise_up _, taken_ok hm.1 h.2.2⟩
  show inRoom m.n (otherF d x.1)
  unfold otherF
  split
  · exact (hm.2.2 d hd).2
  · exact (hm.2.2 d hd).1
theorem lay_ok {m : Maze} (hm : okMaze m) {s : Int} (hs : inRoom m.n s) : ∀ k, ∀ e ∈ (layP m s k).1 ++ (layP m s k).2, okState m e.1
  | 0, e, he => by
    have : e ∈ [(st0 m s, [s])] := he
    rw [List.mem_singleton.mp this]
    exact okState_st0 hm hs
  | k + 1, e, he => by
    have ih := lay_ok hm hs k
    rcases List.mem_append.mp he with z | z
    · exact ih e z
    · obtain ⟨x, hx, h1, _⟩ := candP_mem.mp ((growE_sub _ _).subset z)
      exact okState_step hm (ih x (List.mem_append.mpr (.inr hx))) h1
theorem lay_reach {m : Maze} {s : Int} : ∀ k, ∀ e ∈ (layP m s k).1 ++ (layP m s k).2, Reach m (st0 m s) e.1
  | 0, e, he => by
    have : e ∈ [(st0 m s, [s])] := he
    rw [List.mem_singleton.mp this]
    exact Reach.refl
  | k + 1, e, he => by
    have ih := lay_reach (m := m) (s := s) k
    rcases List.mem_append.mp he with z | z
    · exact ih e z
    · obtain ⟨x, hx, h1, _⟩ := candP_mem.mp ((growE_sub _ _).subset z)
      exact (ih x (List.mem_append.mpr (.inr hx))).step h1
theorem lay_closed {m : Maze} {s : Int} : ∀ k, ∀ e ∈ (layP m s k).1, ∀ t ∈ stepsS m e.1, t ∈ ((layP m s k).1 ++ (layP m s k).2).map (·.1)
  | 0, e, he, _, _ => by cases he
  | k + 1, e, he, t, ht => by
    rw [List.map_append, List.mem_append]
    rcases List.mem_append.mp (show e ∈ (layP m s k).1 ++ (layP m s k).2 from he) with z | z
    · exact .inl (lay_closed k e z t ht)
    · by_cases c : t ∈ ((layP m s k).1 ++ (layP m s k).2).map (·.1)
      · exact .inl c
      · refine .inr ((growE_keys _ _ t).mpr ⟨c, List.mem_map.mpr ⟨(t, e.2 ++ [t.1]), candP_mem.mpr ⟨e, z, ht, rfl⟩, rfl⟩⟩)
theorem lay_mono {m : Maze} {s : Int} {j : Nat} : ∀ k, j ≤ k → ∀ e ∈ (layP m s j).1 ++ (layP m s j).2, e ∈ (layP m s k).1 ++ (layP m s k).2
  | 0, h, e, he => by
    obtain rfl : j = 0 := by omega
    exact he
  | k + 1, h, e, he => by
    rcases Nat.lt_or_ge k j with c | c
    · obtain rfl : j = k + 1 := by omega
      exact he
    · exact List.mem_append.mpr (.inl (lay_mono k c e he))
theorem lay_of {m : Maze} {s : Int} : ∀ k, ∀ e ∈ (layP m s k).1, ∃ j < k, e ∈ (layP m s j).2
  | 0, e, he => by cases he
  | k + 1, e, he => by
    rcases List.mem_append.mp (show e ∈ (layP m s k).1 ++ (layP m s k).2 from he) with z | z
    · obtain ⟨j, h1, h2⟩ := lay_of k e z
      exact ⟨j, by omega, h2⟩
    · exact ⟨k, by omega, z⟩
theorem lay_long {m : Maze} {s : Int} : ∀ k, (∀ j < k, (layP m s j).2 ≠ []) → k ≤ (layP m s k).1.length
  | 0, _ => Nat.zero_le _
  | k + 1, h => by
    have ih := lay_long (m := m) (s := s) k fun j hj => h j (by omega)
    show k + 1 ≤ ((layP m s k).1 ++ (layP m s k).2).length
    have := List.length_pos_iff.mpr (h k (by omega))
    rw [List.length_append]; omega
theorem lay_size {m : Maze} (hm : okMaze m) {s : Int} (hs : inRoom m.n s) (k : Nat) : ((layP m s k).1 ++ (layP m s k).2).length ≤ m.n.toNat * 32 := by
  rw [← allStates_len, ← List.length_map (·.1)]
  refine nodup_le (layOk m s k).nd fun x hx => ?_
  obtain ⟨e, he, rfl⟩ := List.mem_map.mp hx
  exact okState_all (lay_ok hm hs k e he)
theorem lay_end {m : Maze} (hm : okMaze m) {s : Int} (hs : inRoom m.n s) : ∃ k ≤ m.n.toNat * 32, (layP m s k).2 = [] := by
  refine Classical.byContradiction fun h => ?_
  have hn : ∀ j, j ≤ m.n.toNat * 32 → (layP m s j).2 ≠ [] := fun j hj z => h ⟨j, hj, z⟩
  have h1 := lay_long (m := m) (s := s) (m.n.toNat * 32 + 1) fun j hj => hn j (by omega)
  have h2 := lay_size hm hs (m.n.toNat * 32)
  have : (layP m s (m.n.toNat * 32 + 1)).1.length ≤ m.n.toNat * 32 := h2
  omega
theorem reach_lay {m : Maze} (hm : okMaze m) {s : Int} (hs : inRoom m.n s) {x : State} (r : Reach m (st0 m s) x) : ∃ j < m.n.toNat * 32, ∃ w, (x, w) ∈ (layP m s j).2 := by
  obtain ⟨k, hk, e⟩ := lay_end hm hs
  have h0 : (st0 m s, [s]) ∈ (layP m s k).1 := by
    have := lay_mono (m := m) (s := s) (j := 0) k (Nat.zero_le _) (st0 m s, [s]) (List.mem_append.mpr (.inr (List.mem_singleton.mpr rfl)))
    rw [e, List.append_nil] at this; exact this
  have all : x ∈ (layP m s k).1.map (·.1) := by
    induction r with
    | refl => exact List.mem_map.mpr ⟨_, h0, rfl⟩
    | step _ hc ih =>
      obtain ⟨y, hy, rfl⟩ := List.mem_map.mp ih
      have := lay_closed k y hy _ hc
      rw [e, List.append_nil] at this; exact this
  obtain ⟨y, hy, rfl⟩ := List.mem_map.mp all
  obtain ⟨j, h1, h2⟩ := lay_of k y hy
  exact ⟨j, by omega, y.2, h2⟩
theorem least_nat {p : Nat → Prop} : ∀ n, p n → ∃ k ≤ n, p k ∧ ∀ j < k, ¬ p j := by
  intro n
  induction n using Nat.strongRecOn with
  | _ n ih =>
    intro h
    by_cases c : ∃ j < n, p j
    · obtain ⟨j, h1, h2⟩ := c
      obtain ⟨k, k1, k2, k3⟩ := ih j h1 h2
      exact ⟨k, by omega, k2, k3⟩
    · exact ⟨n, Nat.le_refl _, h, fun j hj z => c ⟨j, hj, z⟩⟩
/-- the first layer with the goal, if there is one -/
theorem goal_lay {m : Maze} (hm : okMaze m) {s : Int} (hs : inRoom m.n s) {g : Int} (hg : g ∈ comeR m s) : ∃ t < m.n.toNat * 32, (∃ e ∈ (layP m s t).2, e.1.1 = g) ∧ ∀ e ∈ (layP m s t).1, e.1.1 ≠ g := by
  obtain ⟨h, r⟩ := (come_reach hm hs).mp hg
  obtain ⟨j, j1, w, j2⟩ := reach_lay hm hs r
  obtain ⟨t, t1, t2, t3⟩ := least_nat (p := fun t => ∃ e ∈ (layP m s t).2, e.1.1 = g) j ⟨_, j2, rfl⟩
  refine ⟨t, by omega, t2, fun e he z => ?_⟩
  obtain ⟨i, i1, i2⟩ := lay_of t e he
  exact t3 i i1 ⟨e, i2, z⟩
theorem no_goal {m : Maze} (hm : okMaze m) {s : Int} (hs : inRoom m.n s) {g : Int} (hg : g ∉ comeR m s) (t : Nat) : ∀ e ∈ (layP m s t).2, e.1.1 ≠ g := fun e he z => by
  have := lay_reach t e (List.mem_append.mpr (.inr he))
  exact hg ((come_reach hm hs).mpr ⟨e.1.2, by rw [← z]; exact this⟩)

/-! the least walk -/
def intsD (w : List Int) : PyData := .list (w.map .int)
def IsLeast (m : Maze) (s g : Int) (w : List Int) : Prop := ∃ t, (∃ e ∈ (layP m s t).2, e.1.1 = g ∧ e.2 = w) ∧ (∀ e ∈ (layP m s t).1, e.1.1 ≠ g) ∧ ∀ e ∈ (layP m s t).2, e.1.1 = g → w ≤ e.2
theorem least_one {m : Maze} {s g : Int} {w w' : List Int} (h : IsLeast m s g w) (k : IsLeast m s g w') : w = w' := by
  obtain ⟨t, ⟨e, h1, h2, h3⟩, h4, h5⟩ := h
  obtain ⟨u, ⟨f, k1, k2, k3⟩, k4, k5⟩ := k
  have tu : t = u := by
    rcases Nat.lt_trichotomy t u with z | z | z
    · have := lay_mono (m := m) (s := s) (j := t) (u - 1) (by omega) e (List.mem_append.mpr (.inr h1))
      have e1 : u = u - 1 + 1 := by omega
      have this' : e ∈ (layP m s u).1 := by rw [e1]; exact this
      exact absurd h2 (k4 e this')
    · exact z
    · have := lay_mono (m := m) (s := s) (j := u) (t - 1) (by omega) f (List.mem_append.mpr (.inr k1))
      have e1 : t = t - 1 + 1 := by omega
      have this' : f ∈ (layP m s t).1 := by rw [e1]; exact this
      exact absurd k2 (h4 f this')
  subst tu
  refine ll_anti ?_ ?_
  · rw [← k3]; exact h5 f k1 k2
  · rw [← h3]; exact k5 e h1 h2
/-- where the program stops -/
theorem run_stop {m : Maze} {s g : Int} {w : List Int} (h : IsLeast m s g w) : ∃ N, (∃ x, (runQ m s N)[N]? = some (x, w) ∧ x.1 = g) ∧ ∀ i < N, ∃ e, (runQ m s i)[i]? = some e ∧ e.1.1 ≠ g := by
  obtain ⟨t, ⟨e, h1, h2, h3⟩, h4, h5⟩ := h
  obtain ⟨k, hk⟩ := List.getElem?_of_mem h1
  obtain ⟨j, j1, ⟨f, j2, j3⟩, j4⟩ := least_nat (p := fun j => ∃ f, (layP m s t).2[j]? = some f ∧ f.1.1 = g) k ⟨e, hk, h2⟩
  have jl : j < (layP m s t).2.length := (List.getElem?_eq_some_iff.mp j2).1
  have at' : ∀ i, i < (layP m s t).1.length + (layP m s t).2.length → (runQ m s i)[i]? = ((layP m s t).1 ++ (layP m s t).2)[i]? := fun i hi => run_at m s t i (by rw [List.length_append]; exact hi)
  have fw : f.2 = w := by
    have f1 := List.mem_of_getElem? j2
    refine ll_anti ?_ (h5 f f1 j3)
    rw [← h3]
    by_cases c : j = k
    · subst c; rw [hk] at j2; rw [Option.some.inj j2]; exact List.le_refl _
    · have up := (layOk m s t).up
      have hkl : k < (layP m s t).2.length := (List.getElem?_eq_some_iff.mp hk).1
      have := List.pairwise_iff_getElem.mp up j k jl hkl (by omega)
      rw [(List.getElem?_eq_some_iff.mp j2).2, (List.getElem?_eq_some_iff.mp hk).2] at this
      exact ll_of_lt this
  refine ⟨(layP m s t).1.length + j, ⟨f.1, ?_, j3⟩, fun i hi => ?_⟩
  · rw [at' _ (by omega), List.getElem?_append_right (by omega), Nat.add_sub_cancel_left, j2, ← fw]
  · rw [at' i (by omega)]
    by_cases c : i < (layP m s t).1.length
    · rw [List.getElem?_append_left c, List.getElem?_eq_getElem c]
      exact ⟨_, rfl, h4 _ (List.getElem_mem c)⟩
    · rw [List.getElem?_append_right (by omega)]
      have hl : i - (layP m s t).1.length < (layP m s t).2.length := by omega
      rw [List.getElem?_eq_getElem hl]
      exact ⟨_, rfl, fun z => j4 (i - (layP m s t).1.length) (by omega) ⟨_, List.getElem?_eq_getElem hl, z⟩⟩
theorem fold_ok {m : Maze} {n : Nat} : ∀ (cs Q : List Ent2), (Q.map (·.1)).Nodup → (∀ e ∈ Q, okState m e.1 ∧ e.2.length ≤ n) → (∀ e ∈ cs, okState m e.1 ∧ e.2.length ≤ n) → ((cs.foldl addC Q).map (·.1)).Nodup ∧ ∀ e ∈ cs.foldl addC Q, okState m e.1 ∧ e.2.length ≤ n
  | [], Q, h1, h2, _ => ⟨h1, h2⟩
  | c :: t, Q, h1, h2, h3 => by
    rw [List.foldl_cons]
    have hc := h3 c List.mem_cons_self
    refine fold_ok t (addC Q c) ?_ ?_ fun e he => h3 e (List.mem_cons_of_mem _ he)
    · unfold addC
      split
      · exact h1
      · rename_i h
        rw [List.map_append]
        refine List.nodup_append.mpr ⟨h1, List.nodup_cons.mpr ⟨List.not_mem_nil, List.nodup_nil⟩, fun a ha b hb => ?_⟩
        rw [List.mem_singleton.mp hb]
        exact fun z => h ((show a = c.1 from z) ▸ ha)
    · unfold addC
      split
      · exact h2
      · intro e he
        rcases List.mem_append.mp he with z | z
        · exact h2 e z
        · rw [List.mem_singleton.mp z]; exact hc
theorem run_ok {m : Maze} (hm : okMaze m) {s : Int} (hs : inRoom m.n s) : ∀ i, ((runQ m s i).map (·.1)).Nodup ∧ ∀ e ∈ runQ m s i, okState m e.1 ∧ e.2.length ≤ i + 1
  | 0 => ⟨List.nodup_cons.mpr ⟨List.not_mem_nil, List.nodup_nil⟩, fun e he => by
    rw [List.mem_singleton.mp (show e ∈ [(st0 m s, [s])] from he)]
    exact ⟨okState_st0 hm hs, Nat.le_refl _⟩⟩
  | i + 1 => by
    obtain ⟨i1, i2⟩ := run_ok hm hs i
    cases e : (runQ m s i)[i]? with
    | none =>
      have : runQ m s (i + 1) = runQ m s i := by
        show (match (runQ m s i)[i]? with | some e => expandQ m (runQ m s i) e | none => runQ m s i) = _
        rw [e]
      rw [this]
      exact ⟨i1, fun x hx => ⟨(i2 x hx).1, by have := (i2 x hx).2; omega⟩⟩
    | some x =>
      have : runQ m s (i + 1) = expandQ m (runQ m s i) x := by
        show (match (runQ m s i)[i]? with | some e => expandQ m (runQ m s i) e | none => runQ m s i) = _
        rw [e]
      rw [this]
      obtain ⟨x1, x2⟩ := i2 x (List.mem_of_getElem? e)
      refine fold_ok (candsQ m x) _ i1 (fun y hy => ⟨(i2 y hy).1, by have := (i2 y hy).2; omega⟩) fun c hc => ?_
      obtain ⟨t, ht, rfl⟩ := List.mem_map.mp hc
      exact ⟨okState_step hm x1 (sortS_mem.mp ht), by rw [List.length_append]; exact Nat.succ_le_succ x2⟩
theorem few {m : Maze} (h60 : m.n ≤ 60) {Q : List Ent2} (h1 : (Q.map (·.1)).Nodup) (h2 : ∀ e ∈ Q, okState m e.1) : Q.length ≤ 1920 := by
  have : (Q.map (·.1)).length ≤ (allStates m.n).length := nodup_le h1 fun x hx => by
    obtain ⟨e, he, rfl⟩ := List.mem_map.mp hx
    exact okState_all (h2 e he)
  rw [List.length_map, allStates_len] at this
  omega
theorem stateD_alike (a b : State) : PySem.W.alike (stateD a) (stateD b) = true := by
  unfold stateD handD
  rw [PySem.W.alike, PySem.W.alikeAll, PySem.W.alikeAll, PySem.W.alikeAll, PySem.W.alike, PySem.W.alike, PySem.W.alike_ints]; rfl
theorem stateD_tup (a : State) : ∃ x r, stateD a = .tuple (x :: r) := ⟨_, _, rfl⟩
theorem stateD_deep (a : State) : (stateD a).depth ≤ 8 := Nat.le_trans (sh_state a).2 (by decide)
def R_least (ds : List PyData) (xs : List PyData) : Prop := ∃ (m : Maze) (s g : Int) (w : List Int), (okMaze m ∧ inRoom m.n s ∧ m.n ≤ 60 ∧ IsLeast m s g w) ∧ ds = [mazeD m, .int s, .int g] ∧ xs = w.map .int
theorem cleans_map {α : Type} {f : α → PyData} (h : ∀ x, clean (f x) = true) : ∀ l : List α, cleans (l.map f) = true
  | [] => by rw [List.map_nil, cleans]
  | x :: t => by rw [List.map_cons, cleans, h x, cleans_map h t]; rfl
theorem headI_map {α : Type} {f : α → PyData} (h : ∀ x, headI [f x] = false) : ∀ l : List α, headI (l.map f) = false
  | [] => rfl
  | x :: t => by
    have := h x
    rw [List.map_cons]
    revert this
    cases f x <;> first | exact fun _ => rfl | exact fun z => z
theorem clean_door (d : Door) : clean (doorD d) = true := by
  unfold doorD
  rw [clean, cleans, cleans, cleans, cleans]
  cases d.2.2 <;> simp [clean, optD]
theorem clean_key (k : Key2) : clean (keyD k) = true := by
  unfold keyD
  simp [clean, cleans]
theorem clean_doors (L : List Door) : clean (.list (L.map doorD)) = true := by
  rw [clean, cleans_map clean_door, headI_map fun _ => rfl]; rfl
theorem clean_keys (L : List Key2) : clean (.list (L.map keyD)) = true := by
  rw [clean, cleans_map clean_key, headI_map fun _ => rfl]; rfl
theorem clean_maze (m : Maze) : clean (mazeD m) = true := by
  unfold mazeD
  rw [clean, cleans, cleans, cleans, cleans, clean_doors, clean_keys]; simp [clean]

theorem len_states {m : Maze} {x : State} (hd : m.ds.length ≤ 1000) : (stepsS m x).length ≤ 1000 := by
  unfold stepsS stepsF
  rw [List.length_map]
  exact Nat.le_trans (List.length_filter_le _ _) hd
theorem putE_new {α : Type} {Q : List (State × α)} {t : State} {v : α} (h : t ∉ Q.map (·.1)) : putE Q t v = Q ++ [(t, v)] := by
  unfold putE
  rw [if_neg fun z => h (getE_isSome.mp z)]
theorem ok_least_walk (T : Txt K mg A) : FnOk P w K mg base (L2.CX P w) 5 A.a_least_walk A.d_least_walk ["maze", "start", "goal"] (spL K R_least) := by
  refine T.f_least_walk.okX sc_least_walk (fun vs H Q E h => ?_) (fun cdv Ar outer s H vs Q E hr h => ?_)
  · obtain ⟨H0, ds, d, sm, dv, ⟨m, s0, g, w, _, rfl, _⟩, _⟩ := h; exact dpa_len dv
  obtain ⟨H0, ds, d, sm, dv, ⟨m, s0, g, w0, ⟨hm, hs, h60, hL⟩, rfl, rfl⟩, q⟩ := h
  refine ⟨_, (pss_cons (ps_set (i := 3) sc_least_walk.nd rfl (.inl rfl) (pe_tup (pa_cons (pv 1) (pa_cons (pe_callS (ok_taken T) (hr.mono (by decide)) rfl T.g_taken T.f_taken.kp (b_taken T) (fun σ => passAt (takes_of rfl rfl rfl rfl) σ) (pa_cons (pv 0) (pa_cons (pv 1) (pa_cons (pe_tup pa_nil) pa_nil)))) pa_nil))))
      (pss_cons (ps_set (i := 4) sc_least_walk.nd rfl (.inl rfl) (pe_lst (pa_cons (pv 3) pa_nil)))
      (pss_cons (ps_set (i := 5) sc_least_walk.nd rfl (.inl rfl) (pe_dispX (u65 hr) (pv 3) (pe_lst (pa_cons (pv 1) pa_nil))))
      (pss_cons (ps_set (i := 6) sc_least_walk.nd rfl (.inl rfl) pe_int)
      (pss_cons (ps_while (passes_of rfl) (pt_cmpR op_ne (pe_ix (r := rIxT K) (by exact ix_tup) (pe_ix (r := rIxL K) (by exact ix_list) (pv 4) (pv 6) (fun _ _ => rfl)) pe_int (fun _ _ => rfl)) (pv 2) (nomark _)) (pss_cons (ps_asg (pe_ix (r := rIxL K) (by exact ix_list) (pv 4) (pv 6) (fun _ _ => rfl)) (pg_tup rfl (pgs_cons (pg_name (i := 7) sc_least_walk.nd rfl (Or.inl rfl)) (pgs_cons (pg_name (i := 8) sc_least_walk.nd rfl (Or.inl rfl)) pgs_nil))))
      (pss_cons (ps_for (passes_of rfl) rfl (pi_list (pe_callB (r := rSortD K) (by exact (cr_sortedD (u65 hr))) (by rfl) T.u_sorted (by decide +kernel) (pa_cons (pe_callS (ok_steps T) (hr.mono (by decide)) rfl T.g_steps T.f_steps.kp (b_steps T) (fun σ => passAt (takes_of rfl rfl rfl rfl) σ) (pa_cons (pv 0) (pa_cons (pv 7) (pa_cons (pv 8) pa_nil)))) pa_nil))) (pg_name (i := 9) sc_least_walk.nd rfl (Or.inl rfl))
        (pss_one (ps_if (pt_cmpR (r := rInX P w K true) (by exact (op_notInX (u65 hr))) (pv 9) (pv 5) (by rfl)) (pss_cons (ps_asg (pe_op op_cat (pe_ix (r := rIxX P w K) (by exact (ix_X (u65 hr))) (pv 5) (pe_ix (r := rIxL K) (by exact ix_list) (pv 4) (pv 6) (fun _ _ => rfl)) (fun _ _ => rfl)) (pe_lst (pa_cons (pe_ix (r := rIxT K) (by exact ix_tup) (pv 9) pe_int (fun _ _ => rfl)) pa_nil))) (pg_sub (pv 5) (pv 9) (set_X (u65 hr))))
      (pss_one (ps_expr (pe_bm PySem.F.plainAttrs_list PySem.F.slot_list_append PySem.F.type_list_append mt_append (pv 4) (pa_cons (pv 9) pa_nil))))) pss_nil)))
      (pss_one (ps_aug (i := 6) sc_least_walk.nd rfl (.inl rfl) pe_int ip_add)))))
      (pss_one (ps_ret (pe_ix (r := rIxX P w K) (by exact (ix_X (u65 hr))) (pv 5) (pe_ix (r := rIxL K) (by exact ix_list) (pv 4) (pv 6) (fun _ _ => rfl)) (fun _ _ => rfl))))))))), ?_⟩
  -- a start without lists of whole numbers
  have dv' := dpa_clean dv (by rw [cleans, cleans, cleans, cleans, clean_maze]; rfl)
  have sm' : Same (noI H0) H := (noI_same H0).trans sm
  obtain ⟨N, ⟨x0, hN, hx0⟩, hne⟩ := run_stop hL
  have wne : w0 ≠ [] := by
    obtain ⟨t, ⟨e, h1, h2, h3⟩, _⟩ := hL
    have := ((layOk m s0 t).wk e h1).1
    rw [h3] at this
    exact fun z => by rw [z] at this; cases this
  refine Pf.run (X := fun cls d _ H => E cls d H) (oc := .rk (w0.map .int)) sm' dv' rfl ?_ (fun p ws G H2 fr g1 g2 => ?_)
  rotate_left
  · have hp : H p = none := by
      cases w0 with
      | nil => exact absurd rfl wne
      | cons i t =>
        cases g2 with
        | cons a b =>
          cases a
          exact new_list fr (fun _ z => z) g1
    have e2 : Same H0 H2 := fun p o z => fr.s p o (fun z => z) (sm p o z)
    refine q p ws H0 H2 ⟨Same.refl _, e2, fr.s, fun _ _ z _ => z, fr.m⟩ hp (sm.free hp) (fr.r _ _ g1) ?_
    rw [dpa_ints g2]; exact dpa_of_ints _
  have ok := run_ok hm hs
  have lenQ : ∀ i, (runQ m s0 i).length ≤ 1920 := fun i => few h60 (ok i).1 fun e he => ((ok i).2 e he).1
  have inv : ∀ i, i ≤ N → N ≤ 1920 := fun i _ => by
    have := (List.getElem?_eq_some_iff.mp hN).1
    have := lenQ N
    omega
  have hN1 := inv 0 (Nat.zero_le _)
  have key : ∀ {env : List SV} {te : TE} {x : State}, Ev K te env (stateD x) → Ev K te env (kS x).data := fun {env te x} h => h.is (kS_data x).symm
  have atS : ∀ {i : Nat} {e : Ent2}, (runQ m s0 i)[i]? = some e → atI ((runQ m s0 i).map fun e => stateD e.1) (i : Int) = some (stateD e.1) := fun {i e} h => atI_nat' (by rw [List.getElem?_map, h]; rfl)
  refine sx_seq (sx_set (d := stateD (st0 m s0)) (ev_tup (ea_cons (ev_var rfl) (ea_cons (ev_callX (ea_cons (ev_var rfl) (ea_cons (ev_var rfl) (ea_cons (ev_tup ea_nil (by decide)) ea_nil))) ⟨m, s0, [], ⟨hm.1, Nat.zero_le _, hs⟩, rfl, rfl⟩) ea_nil)) (Nat.le_of_ble_eq_true rfl))) ?_
  refine sx_seq (sx_setO (xs := (runQ m s0 0).map fun e => stateD e.1) (eo_lst (ea_cons (ev_var rfl) ea_nil) (Nat.le_of_ble_eq_true rfl))) ?_
  refine sx_seq (sx_dispXL (P := P) (w := w) (kS_key (st0 m s0)) (key (ev_var rfl)) (EvO.kn (eo_lst (ds := [.int s0]) (ea_cons (ev_var rfl) ea_nil) (Nat.le_of_ble_eq_true rfl)))) ?_
  refine sx_seq (sx_set (ev_c (d := .int 0) rfl)) ?_
  refine sx_seq (sx_while (n := N) (fun i => [.dat (mazeD m), .dat (.int s0), .dat (.int g), .dat (stateD (st0 m s0)), .own ((runQ m s0 i).map fun e => stateD e.1), .dct P w (kvsE intsD (runQ m s0 i)), .dat (.int i), .no, .no, .no]) rfl (fun i hi => ⟨?_, ?_⟩) ?_) ?_
  · obtain ⟨e, he, hg⟩ := hne i hi
    exact EvT.is (et_test (ev_neI (ev_ixT (ds := [.int e.1.1, handD e.1.2]) (ev_ixO (el_var rfl) (ev_var rfl) (atS he) fun _ _ _ _ => trivial) (ev_c rfl) rfl) (ev_var rfl))) (by rw [decide_eq_false hg]; rfl)
  · obtain ⟨e, he, hg⟩ := hne i hi
    obtain ⟨⟨x, hx⟩, wx⟩ := e
    have ox := ((ok i).2 _ (List.mem_of_getElem? he)).1
    have lx := ((ok i).2 _ (List.mem_of_getElem? he)).2
    have lx' : wx.length ≤ i + 1 := lx
    have e1 : runQ m s0 (i + 1) = expandQ m (runQ m s0 i) ((x, hx), wx) := by
      show (match (runQ m s0 i)[i]? with | some e => expandQ m (runQ m s0 i) e | none => runQ m s0 i) = _
      rw [he]
    refine .inl ?_
    refine sx_seq (sx_asg (d := stateD (x, hx)) (ev_ixO (el_var rfl) (ev_var rfl) (atS he) fun _ _ _ _ => trivial) (tg_tup (ds := [.int x, handD hx]) (tgs_cons tg_name (tgs_cons tg_name tgs_nil)) rfl)) ?_
    have hsort : Ev K (tCB (rSortD K) (tCons (tCallS (spXL K R_steps (B_steps A)) (WE fun cls d _ H => E cls d H) (tCons (tVar 0) (tCons (tVar 7) (tCons (tVar 8) tNil)))) tNil)) [.dat (mazeD m), .dat (.int s0), .dat (.int g), .dat (stateD (st0 m s0)), .own ((runQ m s0 i).map fun e => stateD e.1), .dct P w (kvsE intsD (runQ m s0 i)), .dat (.int i), .dat (.int x), .dat (handD hx), .no] (.list ((sortS (stepsS m (x, hx))).map stateD)) := EvO.ev (eo_sortedD stateD (EvO.l (eo_callX (ea_cons (ev_var rfl) (ea_cons (ev_var rfl) (ea_cons (ev_var rfl) ea_nil))) ⟨m, x, hx, ⟨hm, ox.2.2.1, ox.1⟩, rfl, rfl⟩)) stateD_alike (.inl stateD_tup) (Nat.le_trans (len_states (x := (x, hx)) hm.2.1) (by decide)) stateD_deep)
    refine sx_seq (sx_for (ds := (sortS (stepsS m (x, hx))).map stateD) hsort (fun j => [.dat (mazeD m), .dat (.int s0), .dat (.int g), .dat (stateD (st0 m s0)), .own ((((candsQ m ((x, hx), wx)).take j).foldl addC (runQ m s0 i)).map fun e => stateD e.1), .dct P w (kvsE intsD (((candsQ m ((x, hx), wx)).take j).foldl addC (runQ m s0 i))), .dat (.int i), .dat (.int x), .dat (handD hx), .no]) rfl fun j d hj => ?_) ?_
    · rw [List.getElem?_map] at hj
      cases ej : (sortS (stepsS m (x, hx)))[j]? with
      | none => rw [ej] at hj; cases hj
      | some t =>
        rw [ej] at hj
        obtain rfl := Option.some.inj hj
        refine ⟨_, tg_name, ?_⟩
        have ecj : (candsQ m ((x, hx), wx))[j]? = some (t, wx ++ [t.1]) := by
          show ((sortS (stepsS m (x, hx))).map fun t => (t, wx ++ [t.1]))[j]? = _
          rw [List.getElem?_map, ej]; rfl
        have jl : j < (candsQ m ((x, hx), wx)).length := (List.getElem?_eq_some_iff.mp ecj).1
        have etk : (candsQ m ((x, hx), wx)).take (j + 1) = (candsQ m ((x, hx), wx)).take j ++ [(t, wx ++ [t.1])] := by
          rw [List.take_succ_eq_append_getElem jl, (List.getElem?_eq_some_iff.mp ecj).2]
        have candok : ∀ c ∈ candsQ m ((x, hx), wx), okState m c.1 ∧ c.2.length ≤ i + 2 := fun c hc => by
          obtain ⟨u, hu, rfl⟩ := List.mem_map.mp hc
          exact ⟨okState_step hm ox (sortS_mem.mp hu), by rw [List.length_append]; exact Nat.succ_le_succ lx⟩
        have okj := fold_ok (m := m) (n := i + 2) ((candsQ m ((x, hx), wx)).take j) (runQ m s0 i) (ok i).1 (fun y hy => ⟨((ok i).2 y hy).1, by have := ((ok i).2 y hy).2; omega⟩) fun c hc => candok c (List.mem_of_mem_take hc)
        have pre : (x, hx) ∈ (runQ m s0 i).map (·.1) := List.mem_map.mpr ⟨_, List.mem_of_getElem? he, rfl⟩
        -- what stood still stands
        have stay : ∀ (cs Q : List Ent2) (k : Nat) (y : Ent2), Q[k]? = some y → (cs.foldl addC Q)[k]? = some y := by
          intro cs
          induction cs with
          | nil => exact fun Q k y z => z
          | cons c cs ih =>
            intro Q k y z
            refine ih (addC Q c) k y ?_
            unfold addC
            split
            · exact z
            · rw [List.getElem?_append_left (List.getElem?_eq_some_iff.mp z).1]; exact z
        have hej := stay ((candsQ m ((x, hx), wx)).take j) _ _ _ he
        have lenj : (((candsQ m ((x, hx), wx)).take j).foldl addC (runQ m s0 i)).length ≤ 1920 := few h60 okj.1 fun e h => (okj.2 e h).1
        try dsimp only
        rw [etk, List.foldl_append]
        show Go K _ _ _ [_, _, _, _, .own ((addC (((candsQ m ((x, hx), wx)).take j).foldl addC (runQ m s0 i)) (t, wx ++ [t.1])).map fun e => stateD e.1), .dct P w (kvsE intsD (addC (((candsQ m ((x, hx), wx)).take j).foldl addC (runQ m s0 i)) (t, wx ++ [t.1]))), _, _, _, _]
        generalize ((candsQ m ((x, hx), wx)).take j).foldl addC (runQ m s0 i) = Q at okj hej lenj
        have atQ : atI (Q.map fun e => stateD e.1) (i : Int) = some (stateD (x, hx)) := atI_nat' (by rw [List.getElem?_map, hej]; rfl)
        have test : EvT K _ _ (!decide (t ∈ Q.map (·.1))) := EvT.is (et_test (ev_inX (P := P) (w := w) (neg := true) (kS_key t) (key (ev_var (i := 9) rfl)) (.inl rfl : IsDc P w [.dat (mazeD m), .dat (.int s0), .dat (.int g), .dat (stateD (st0 m s0)), .own (Q.map fun e => stateD e.1), .dct P w (kvsE intsD Q), .dat (.int i), .dat (.int x), .dat (handD hx), .dat (stateD t)] 5 (kvsE intsD Q)))) (by
          show (!(atP (kvsE intsD Q) (kS t)).isSome) = _
          rw [atP_E, Option.isSome_map]
          congr 1
          rw [Bool.eq_iff_iff, decide_eq_true_eq]; exact getE_isSome)
        by_cases c : t ∈ Q.map (·.1)
        · have ea : addC Q (t, wx ++ [t.1]) = Q := if_pos c
          rw [ea]
          rw [decide_eq_true c] at test
          exact go_less (sx_no test sx_next) (by walk_at "less")
        · have ea : addC Q (t, wx ++ [t.1]) = Q ++ [(t, wx ++ [t.1])] := if_neg c
          rw [ea, List.map_append]
          rw [decide_eq_false c] at test
          have ep : putP (kvsE intsD Q) (kS t) (.list ((wx ++ [t.1]).map .int)) = kvsE intsD (Q ++ [(t, wx ++ [t.1])]) := by
            rw [← putE_new c]; exact putP_E intsD Q t (wx ++ [t.1])
          rw [← ep]
          have cat : EvO K (tOp rCat (tOp (rIxX P w K) (tVar 5) (tOp (rIxL K) (tVar 4) (tVar 6))) (tLst (tCons (tOp (rIxT K) (tVar 9) (tC (.int 0))) tNil))) [.dat (mazeD m), .dat (.int s0), .dat (.int g), .dat (stateD (st0 m s0)), .own (Q.map fun e => stateD e.1), .dct P w (kvsE intsD Q), .dat (.int i), .dat (.int x), .dat (handD hx), .dat (stateD t)] ((wx ++ [t.1]).map .int) := (eo_cat (xs := wx.map .int) (ys := [.int t.1]) (ek_ixX (kS_key (x, hx)) (.inl rfl) (key (ev_ixO (el_var rfl) (ev_var rfl) atQ fun _ _ _ _ => trivial)) (by rw [atP_E, getE_of_mem okj.1 (List.mem_of_getElem? hej)]; rfl)).l (EvO.l (eo_lst (ea_cons (ev_ixT (ds := [.int t.1, handD t.2]) (ev_var rfl) (ev_c rfl) rfl) ea_nil) (Nat.le_of_ble_eq_true rfl))) (by rw [List.length_map]; show wx.length + 1 ≤ _; omega)).is (by rw [List.map_append]; rfl)
          refine go_less (sx_yes test (sx_seq (sx_putXL (kS_key t) rfl (EvO.kn cat) (key (ev_var rfl)) (by rw [len_E]; omega)) (sx_app (d := stateD t) rfl (ev_var rfl) (by rw [List.length_map]; omega)))) (by walk_at "less")
    · rw [List.length_map]
      have full : (candsQ m ((x, hx), wx)).take (sortS (stepsS m (x, hx))).length = candsQ m ((x, hx), wx) := List.take_of_length_le (by
        show ((sortS (stepsS m (x, hx))).map _).length ≤ _
        rw [List.length_map]; exact Nat.le_refl _)
      rw [full]
      show Sx K _ _ [_, _, _, _, .own ((expandQ m (runQ m s0 i) ((x, hx), wx)).map fun e => stateD e.1), .dct P w (kvsE intsD (expandQ m (runQ m s0 i) ((x, hx), wx))), _, _, _, _] _
      rw [← e1]
      exact nx_less (sx_augI rfl (ev_c rfl)) (by walk_at "less")
  · refine EvT.is (et_test (ev_neI (ev_ixT (ds := [.int x0.1, handD x0.2]) (ev_ixO (el_var rfl) (ev_var rfl) (atS hN) fun _ _ _ _ => trivial) (ev_c rfl) rfl) (ev_var rfl))) (by rw [decide_eq_true hx0]; rfl)
  · refine sx_retK (ek_ixX (kS_key x0) (.inl rfl) (key (ev_ixO (el_var rfl) (ev_var rfl) (atS hN) fun _ _ _ _ => trivial)) ?_)
    rw [atP_E, getE_of_mem (ok N).1 (List.mem_of_getElem? hN)]; rfl

/-! guide -/
def walkS : Str := Str.ofString "walk"
def shutS : Str := Str.ofString "shut"
def R_guide (ds : List PyData) (o : Str × List PyData × List PyData) : Prop := ∃ (m : Maze) (s g : Int), (okMaze m ∧ inRoom m.n s ∧ inRoom m.n g ∧ m.n ≤ 60) ∧ ds = [mazeD m, .int s, .int g] ∧ ((∃ w, g ∈ comeR m s ∧ IsLeast m s g w ∧ o = (walkS, w.map .int, [])) ∨ (g ∉ comeR m s ∧ o = (shutS, (comeR m s).map .int, [handD (keysAmong m.ks (comeR m s))])))
def B_guide (A : Ad) (ds : List PyData) (c : Value) : Prop := ∃ (m : Maze) (s g : Int), (okMaze m ∧ m.n ≤ 60 ∧ (¬ inRoom m.n s ∨ ¬ inRoom m.n g)) ∧ ds = [mazeD m, .int s, .int g] ∧ c = .ref A.c_NoRoom
theorem ints_nolist : ∀ l : List Int, nolists (l.map .int) = true
  | [] => by simp [nolists]
  | x :: t => by
    have := ints_nolist t
    simp [nolists, nolist] at this ⊢
    exact this
theorem hand_nolist (l : List Int) : nolist (handD l) = true := by unfold handD; rw [nolist]; exact ints_nolist l
theorem ok_guide (T : Txt K mg A) : FnOk P w K mg base (L2.CX P w) 6 A.a_guide A.d_guide ["maze", "start", "goal"] (spGd K R_guide (B_guide A)) := by
  refine T.f_guide.okX sc_guide (fun vs H Q E h => ?_) (fun cdv Ar outer s H vs Q E hr h => ?_)
  · obtain ⟨H0, ds, sm, dv, ⟨d, ⟨m, s, g, _, rfl, _⟩, _⟩ | ⟨c, ⟨m, s, g, _, rfl, _⟩, _⟩⟩ := h <;> exact dpa_len dv
  obtain ⟨H0, ds, sm, dv, hh⟩ := h
  refine ⟨_, (pss_cons (ps_set (i := 3) sc_guide.nd rfl (.inl rfl) (pe_callS (ok_come T) (hr.mono (by decide)) rfl T.g_come T.f_come.kp (b_come T) (fun σ => passAt (takes_of rfl rfl rfl rfl) σ) (pa_cons (pv 0) (pa_cons (pv 1) pa_nil))))
      (pss_cons (ps_expr (pe_callS (ok_need_room T) (hr.mono (by decide)) rfl T.g_need_room T.f_need_room.kp (b_need_room T) (fun σ => passAt (takes_of rfl rfl rfl rfl) σ) (pa_cons (pe_ix (r := rIxT K) (by exact ix_tup) (pv 0) pe_int (fun _ _ => rfl)) (pa_cons (pv 2) pa_nil))))
      (pss_cons (ps_if (pt_cmpR (r := rIn K false) (by exact op_in_seq) (pv 2) (pv 3) (by rfl)) (pss_one (ps_ret (pe_tup (pa_cons pe_str (pa_cons (pe_callS (ok_least_walk T) (hr.mono (by decide)) rfl T.g_least_walk T.f_least_walk.kp (b_least_walk T) (fun σ => passAt (takes_of rfl rfl rfl rfl) σ) (pa_cons (pv 0) (pa_cons (pv 1) (pa_cons (pv 2) pa_nil)))) pa_nil))))) pss_nil)
      (pss_one (ps_ret (pe_tup (pa_cons pe_str (pa_cons (pv 3) (pa_cons (pe_callS (E := fun _ => E0) (ok_keys_among T) (hr.mono (by decide)) rfl T.g_keys_among T.f_keys_among.kp (b_keys_among T) (fun σ => pass0S) (pa_cons (pv 0) (pa_cons (pv 3) pa_nil))) pa_nil))))))))), ?_⟩
  have room : ∀ {m : Maze} {s g : Int} {sv : SV}, EvA K (tCons (tOp (rIxT K) (tVar 0) (tC (.int 0))) (tCons (tVar 2) tNil)) [.dat (mazeD m), .dat (.int s), .dat (.int g), sv] [.int m.n, .int g] := fun {m s g sv} => ea_cons (ev_ixT (ds := [.int m.n, .list (m.ds.map doorD), .list (m.ks.map keyD)]) (ev_var rfl) (ev_c rfl) rfl) (ea_cons (ev_var rfl) ea_nil)
  rcases hh with ⟨o, ⟨m, s0, g, ⟨hm, hs, hg, h60⟩, rfl, ho⟩, q⟩ | ⟨c, ⟨m, s0, g, ⟨hm, h60, hb⟩, rfl, rfl⟩, q⟩
  · obtain ⟨k, xs, rs⟩ := o
    refine Pf.run (X := fun cls d _ H => E cls d H) (oc := .rg k xs rs) sm dv rfl ?_ (fun t l ws us G H2 fr a1 a2 a3 a4 a5 a6 => q t l ws us G H2 fr a1 a2 (a3.elim False.elim id) a4 a5 a6)
    refine sx_seq (sx_setO (eo_callX (ea_cons (ev_var rfl) (ea_cons (ev_var rfl) ea_nil)) ⟨m, s0, ⟨hm, hs, h60⟩, rfl, rfl⟩)) ?_
    refine sx_seq (sx_drop (ev_callX room ⟨m.n, g, hg, rfl, rfl⟩)) ?_
    refine sx_when (b := decide (g ∈ comeR m s0)) (et_fix 3 rfl ((et_test (ev_inL (ds := (comeR m s0).map .int) (ev_var rfl) (ev_var rfl) rfl (ints_flat _))).is (by rw [ints_any]))) (fun z => ?_) (fun _ => rfl) fun z => ?_
    · rcases ho with ⟨w, h1, h2, h3⟩ | ⟨h1, _⟩
      · obtain ⟨rfl, h4⟩ := Prod.mk.inj h3
        obtain ⟨rfl, rfl⟩ := Prod.mk.inj h4
        exact sx_retG (eo_call (ea_cons (ev_var rfl) (ea_cons (ev_var rfl) (ea_cons (ev_var rfl) ea_nil))) ⟨m, s0, g, w, ⟨hm, hs, h60, h2⟩, rfl, rfl⟩)
      · exact absurd (of_decide_eq_true z) h1
    · rcases ho with ⟨w, h1, _⟩ | ⟨h1, h3⟩
      · exact absurd h1 (of_decide_eq_false z)
      · obtain ⟨rfl, h4⟩ := Prod.mk.inj h3
        obtain ⟨rfl, rfl⟩ := Prod.mk.inj h4
        exact sx_retG3 rfl (ev_fixT 3 rfl (hand_nolist _) (ev_call (ea_cons (ev_var rfl) (ea_cons (ev_var rfl) ea_nil)) ⟨m, comeR m s0, hm.1.1, rfl, rfl⟩))
  · by_cases hs : inRoom m.n s0
    · have hg : ¬ inRoom m.n g := hb.elim (fun z => absurd hs z) id
      refine Pf.run (X := fun cls d _ H => E cls d H) (oc := .ex (.ref A.c_NoRoom) [.dat (mazeD m), .dat (.int s0), .dat (.int g), .own ((comeR m s0).map .int)]) sm dv rfl ?_ (fun σ G H2 f _ _ => q G H2 f)
      refine sx_seq (sx_setO (eo_callX (ea_cons (ev_var rfl) (ea_cons (ev_var rfl) ea_nil)) ⟨m, s0, ⟨hm, hs, h60⟩, rfl, rfl⟩)) ?_
      exact sx_end (sx_outD (evx_call room ⟨m.n, g, hg, rfl, rfl⟩)) rfl
    · refine Pf.run (X := fun cls d _ H => E cls d H) (oc := .ex (.ref A.c_NoRoom) [.dat (mazeD m), .dat (.int s0), .dat (.int g), .no]) sm dv rfl ?_ (fun σ G H2 f _ _ => q G H2 f)
      exact sx_end (sx_outS (evx_callL (ea_cons (ev_var rfl) (ea_cons (ev_var rfl) ea_nil)) ⟨m, s0, hs, rfl, rfl⟩)) rfl

/-! what is due -/
def R_row (ds : List PyData) (d : PyData) : Prop := ∃ f u : List Int, ds = [intsD f, intsD u] ∧ d = .bool (decide (f = u))
theorem sh_intsD (l : List Int) : Sh 1 (intsD l) := sh_lst (sh_map fun _ _ => sh_int)
theorem intsD_inj {a b : List Int} : a = b ↔ intsD a = intsD b := ⟨congrArg intsD, fun h => map_inj (fun _ _ e => PyData.int.inj e) (PyData.list.inj h)⟩
theorem ok_l_row (T : Txt K mg A) : FnOk P w K mg base CX0 2 A.a_l_row A.d_l_row ["_law_found", "_law_due_here"] (spG K R_row) := by
  refine T.f_l_row.ok sc_l_row (fun vs H Q E h => ?_) (fun cdv Ar outer s H vs Q E hr h => ?_)
  · obtain ⟨H0, ds, d, sm, dv, ⟨f, u, rfl, _⟩, _⟩ := h; exact dpa_len dv
  obtain ⟨H0, ds, d, sm, dv, ⟨f, u, rfl, rfl⟩, q⟩ := h
  refine ⟨_, (pss_cons (ps_if (PW.pt (pw_or (pt_not (pt_val (pe_callB (r := rIsi K) (by exact call_isi) (by rfl) T.u_isinstance (by decide +kernel) (pa_cons (pv 0) (pa_cons (pe_bltn (v := .ty "list") (by rfl) T.u_list (by decide +kernel) rfl) pa_nil))))) (pw_or1 (pt_cmpR op_ne (pe_callB call_len_seq (by rfl) T.u_len (by decide +kernel) (pa_cons (pv 0) pa_nil)) (pe_callB call_len_seq (by rfl) T.u_len (by decide +kernel) (pa_cons (pv 1) pa_nil)) (nomark _))))) (pss_one (ps_ret pe_bl)) pss_nil)
      (pss_cons (ps_for PassesOwn.never rfl (pi_list (pv 0)) (pg_name (i := 2) sc_l_row.nd rfl (Or.inl rfl))
        (pss_one (ps_if (pt_not (pt_val (pe_callS (E := fun _ => E0) (ok_l_whole T) (hr.mono (by decide)) rfl T.g_l_whole T.f_l_whole.kp (b_l_whole T) (fun σ => pass0S) (pa_cons (pv 2) pa_nil)))) (pss_one (ps_ret pe_bl)) pss_nil)))
      (pss_one (ps_ret (pe_cmpR (r := rEqD K) (by exact (op_eqD hr.units)) (pv 0) (pv 1) (nomark _)))))), ?_⟩
  refine Pf.run (X := fun _ _ _ _ => False) (oc := .rt (.bool (decide (f = u)))) sm dv rfl ?_ q
  have e : EvT K _ [.dat (intsD f), .dat (intsD u), .no] (!true || !decide ((f.length : Int) = u.length)) := et_or (et_not (et_B (ev_isi (n := "list") (ev_var (i := 0) rfl) (kit_ty (by decide +kernel))))) fun _ => et_test (ev_neI (ev_len (ev_var (i := 0) rfl)) (ev_len (ev_var (i := 1) rfl))) |>.is (by rw [List.length_map, List.length_map])
  by_cases c : (f.length : Int) = u.length
  · rw [decide_eq_true c] at e
    refine sx_seq (sx_no e sx_next) ?_
    refine sx_seq (sx_for (ds := f.map .int) (ev_var rfl) (fun i => [.dat (intsD f), .dat (intsD u), .no]) rfl fun i d hi => ?_) (sx_ret ?_)
    · rw [List.getElem?_map] at hi
      cases ei : f[i]? with
      | none => rw [ei] at hi; cases hi
      | some z =>
        rw [ei] at hi
        obtain rfl := Option.some.inj hi
        exact ⟨_, tg_name, go_less (sx_no (EvT.is (et_not (et_B (ev_call (ea_cons (ev_var rfl) ea_nil) ⟨z, rfl, rfl⟩))) rfl) sx_next) (by walk_at "less")⟩
    · exact (ev_eqD (ev_var rfl) (ev_var rfl) ((sh_intsD f).shaped (by decide)) ((sh_intsD u).shaped (by decide))).is (by rw [eqv_dec (sh_intsD f) (sh_intsD u) intsD_inj])
  · rw [decide_eq_false c] at e
    refine (sx_end (sx_yes e (sx_ret (ev_c rfl))) rfl).to ?_
    rw [decide_eq_false fun z => c (by rw [z])]
def R_ldue (ds : List PyData) (d : PyData) : Prop := ∃ (m : Maze) (s g : Int), (okMaze m ∧ inRoom m.n s ∧ m.n ≤ 60) ∧ ds = [.list (m.ds.map doorD), .list (m.ks.map keyD), .int m.n, .int s, .int g] ∧ ((∃ w, g ∈ comeR m s ∧ IsLeast m s g w ∧ d = intsD w) ∨ (g ∉ comeR m s ∧ d = .none))
def roomK (g : Int) (k : NestedKey) : Bool := match k with
  | .tup (.num r :: _) => decide (r = g)
  | _ => false
def valK (kvs : List Kv) (k : NestedKey) : PyData := (atP kvs k).getD .none
theorem goal_list (N : List Ent2) (nd : (N.map (·.1)).Nodup) (g : Int) : (((kvsE intsD N).map (·.1)).filter (roomK g)).map (valK (kvsE intsD N)) = ((N.filter fun e => decide (e.1.1 = g)).map (·.2)).map intsD := by
  have all : ∀ e ∈ N, valK (kvsE intsD N) (kS e.1) = intsD e.2 := fun e he => by
    unfold valK
    rw [atP_E, getE_of_mem nd he]; rfl
  rw [keys_E, List.map_map, List.filter_map, List.map_map, List.map_map]
  have e1 : (roomK g ∘ kS ∘ fun e : Ent2 => e.1) = fun e : Ent2 => decide (e.1.1 = g) := rfl
  rw [e1]
  exact List.map_congr_left fun e he => all e (List.mem_filter.mp he).1
def boolD (b : Bool) : PyData := .bool b
theorem intsD_alike (a b : List Int) : PySem.W.alike (intsD a) (intsD b) = true := by unfold intsD; rw [PySem.W.alike]; exact PySem.W.alike_ints _ _
theorem head_least {zs : List (List Int)} {w : List Int} (h : (zs.mergeSort (PySem.W.dataLe false intsD))[0]? = some w) : w ∈ zs ∧ ∀ v ∈ zs, w ≤ v := by
  have e : PySem.W.dataLe false intsD = fun p q : List Int => decide (p ≤ q) := PySem.W.dataLe_rows id
  rw [e] at h
  have pw := List.pairwise_mergeSort (le := fun p q : List Int => decide (p ≤ q)) (fun a b c h k => decide_eq_true (ll_trans (of_decide_eq_true h) (of_decide_eq_true k))) (fun a b => by
    rw [Bool.or_eq_true, decide_eq_true_eq, decide_eq_true_eq]; exact ll_total a b) zs
  have pm := List.mergeSort_perm zs (fun p q : List Int => decide (p ≤ q))
  cases es : zs.mergeSort (fun p q : List Int => decide (p ≤ q)) with
  | nil => rw [es] at h; cases h
  | cons a t =>
    rw [es] at h pw pm
    obtain rfl : a = w := Option.some.inj h
    refine ⟨pm.mem_iff.mp List.mem_cons_self, fun v hv => ?_⟩
    rcases List.mem_cons.mp (pm.mem_iff.mpr hv) with z | z
    · rw [z]; exact List.le_refl _
    · exact of_decide_eq_true ((List.pairwise_cons.mp pw).1 v z)
theorem law_ok {m : Maze} (hm : okMaze m) {s : Int} (hs : inRoom m.n s) (h60 : m.n ≤ 60) (t : Nat) : (lawT m m.n s t).1.length ≤ 1920 ∧ (lawT m m.n s t).2.length ≤ 1920 ∧ (∀ e ∈ (lawT m m.n s t).2, okState m e.1 ∧ e.2.length ≤ t + 1) ∧ ∀ x ∈ (lawT m m.n s t).1.map (·.1), okState m x := by
  obtain ⟨⟨i1, i2⟩, i3, i4⟩ := law_lay hs.2 t (m := m)
  have all := lay_ok hm hs t
  have ok2 : ∀ e ∈ (lawT m m.n s t).2, okState m e.1 ∧ e.2.length ≤ t + 1 := fun e he => ⟨all e (List.mem_append.mpr (.inr ((i4 e).mp he))), Nat.le_of_eq ((layOk m s t).wk e ((i4 e).mp he)).1⟩
  have ok1 : ∀ x ∈ (lawT m m.n s t).1.map (·.1), okState m x := fun x hx => by
    obtain ⟨e, he, rfl⟩ := List.mem_map.mp ((i2 x).mp hx)
    exact all e (List.mem_append.mpr (.inl he))
  have cnt : ∀ l : List State, l.Nodup → (∀ x ∈ l, okState m x) → l.length ≤ 1920 := fun l n h => by
    have := nodup_le (r := allStates m.n) n fun x hx => okState_all (h x hx)
    rw [allStates_len] at this; omega
  refine ⟨?_, ?_, ok2, ok1⟩
  · have := cnt _ i1 ok1
    rwa [List.length_map] at this
  · have := cnt _ i3 fun x hx => by
      obtain ⟨e, he, rfl⟩ := List.mem_map.mp hx
      exact (ok2 e he).1
    rwa [List.length_map] at this

theorem ok_l_due (T : Txt K mg A) : FnOk P w K mg base CX0 3 A.a_l_due A.d_l_due ["_law_doors_here", "_law_lying_here", "_law_size_here", "_law_start", "_law_goal_here"] (spG K R_ldue) := by
  refine T.f_l_due.ok sc_l_due (fun vs H Q E h => ?_) (fun cdv Ar outer s H vs Q E hr h => ?_)
  · obtain ⟨H0, ds, d, sm, dv, ⟨m, s0, g, _, rfl, _⟩, _⟩ := h; exact dpa_len dv
  obtain ⟨H0, ds, d, sm, dv, ⟨m, s0, g, ⟨hm, hs, h60⟩, rfl, hd⟩, q⟩ := h
  refine ⟨_, (pss_cons (ps_set (i := 5) sc_l_due.nd rfl (.inr rfl) (pe_dispX (u65 hr) (pe_tup (pa_cons (pv 3) (pa_cons (pe_callS (E := fun _ => E0) (ok_l_taken T) (hr.mono (by decide)) rfl T.g_l_taken T.f_l_taken.kp (b_l_taken T) (fun σ => pass0S) (pa_cons (pv 1) (pa_cons (pv 3) (pa_cons (pe_tup pa_nil) pa_nil)))) pa_nil))) (pe_lst (pa_cons (pv 3) pa_nil))))
      (pss_cons (ps_set (i := 6) sc_l_due.nd rfl (.inl rfl) pe_newX)
      (pss_cons (ps_for PassesOwn.never rfl (pi_range1 rfl T.u_range (pa_cons (pe_op op_mul (pv 2) pe_int) pa_nil)) (pg_name (i := 7) sc_l_due.nd rfl (Or.inl rfl))
        (pss_cons (ps_set (i := 8) sc_l_due.nd rfl (.inl rfl) (pe_callB (r := rSortD K) (by exact (cr_sortedD (u65 hr))) (by rfl) T.u_sorted (by decide +kernel) (pa_cons (pe_lc (own := [("_law_state", 9)]) (g := gName 9) rfl sc_l_due.nd (pi_X (pv 5)) (blkOk_by (own := [("_law_state", 9)]) (N := n_l_due) (sc := defScope s_l_due) (by decide +kernel))
        (fun _ _ _ _ _ => (pg_name (i := 9) sc_l_due.nd rfl (Or.inl rfl))) (fun _ _ _ _ _ => (pts_one (pt_cmpR op_eq (pe_ix (r := rIxT K) (by exact ix_tup) (pv 9) pe_int (fun _ _ => rfl)) (pv 4) (nomark _)))) (fun _ _ _ _ _ => (pe_ix (r := rIxX P w K) (by exact (ix_X (u65 hr))) (pv 5) (pv 9) (fun _ _ => rfl)))) pa_nil)))
      (pss_cons (ps_if (pt_cmpR (r := rNeD K) (by exact (op_neD hr.units)) (pv 8) (pe_lst pa_nil) (nomark _)) (pss_one (ps_ret (pe_ix (r := rIxL K) (by exact ix_list) (pv 8) pe_int (fun _ _ => rfl)))) pss_nil)
      (pss_cons (ps_for PassesOwn.never rfl (pi_X (pv 5)) (pg_name (i := 9) sc_l_due.nd rfl (Or.inl rfl))
        (pss_one (ps_asg pe_bl (pg_sub (pv 6) (pv 9) (set_X (u65 hr))))))
      (pss_cons (ps_set (i := 10) sc_l_due.nd rfl (.inl rfl) pe_newX)
      (pss_cons (ps_for PassesOwn.never rfl (pi_X (pv 5)) (pg_name (i := 9) sc_l_due.nd rfl (Or.inl rfl))
        (pss_one (ps_for PassesOwn.never rfl (pi_list (pe_callS (E := fun _ => E0) (ok_l_steps T) (hr.mono (by decide)) rfl T.g_l_steps T.f_l_steps.kp (b_l_steps T) (fun σ => pass0S) (pa_cons (pv 0) (pa_cons (pv 1) (pa_cons (pe_ix (r := rIxT K) (by exact ix_tup) (pv 9) pe_int (fun _ _ => rfl)) (pa_cons (pe_ix (r := rIxT K) (by exact ix_tup) (pv 9) pe_int (fun _ _ => rfl)) pa_nil)))))) (pg_name (i := 11) sc_l_due.nd rfl (Or.inl rfl))
        (pss_one (ps_if (pt_cmpR (r := rInX P w K true) (by exact (op_notInX (u65 hr))) (pv 11) (pv 6) (by rfl)) (pss_cons (ps_set (i := 12) sc_l_due.nd rfl (.inl rfl) (pe_op op_cat (pe_ix (r := rIxX P w K) (by exact (ix_X (u65 hr))) (pv 5) (pv 9) (fun _ _ => rfl)) (pe_lst (pa_cons (pe_ix (r := rIxT K) (by exact ix_tup) (pv 11) pe_int (fun _ _ => rfl)) pa_nil))))
      (pss_one (ps_asg (pe_callB (r := rMin2L K) (by exact (cr_min2L rfl (u65 hr))) (by rfl) T.u_min (by decide +kernel) (pa_cons (pe_getX (u65 hr) (pv 10) (pa_cons (pv 11) (pa_cons (pe_lst (pa_cons (pv 2) pa_nil)) pa_nil))) (pa_cons (pv 12) pa_nil))) (pg_sub (pv 10) (pv 11) (set_X (u65 hr)))))) pss_nil)))))
      (pss_one (ps_set (i := 5) sc_l_due.nd rfl (.inr rfl) (pv 10)))))))))
      (pss_one (ps_ret pe_non))))), ?_⟩
  refine Pf.run (X := fun _ _ _ _ => False) (oc := .rt d) sm dv rfl ?_ q
  have n0 : 0 < m.n := by have := hs.1; have := hs.2; omega
  have key : ∀ {env : List SV} {te : TE} {x : State}, Ev K te env (stateD x) → Ev K te env (kS x).data := fun {env te x} h => h.is (kS_data x).symm
  generalize hS : (fun t => (lawT m m.n s0 t).1) = S
  generalize hN : (fun t => (lawT m m.n s0 t).2) = N
  have lawS : ∀ t, (lawT m m.n s0 t).1 = S t := fun t => congrFun hS t
  have lawN : ∀ t, (lawT m m.n s0 t).2 = N t := fun t => congrFun hN t
  have nextS : ∀ t, S (t + 1) = seenAdd (S t) (N t) := fun t => by rw [← lawS, ← lawS, ← lawN]; rfl
  have nextN : ∀ t, N (t + 1) = moreF m.n (candL m ((S (t + 1)).map (·.1)) (N t)) := fun t => by rw [nextS, ← lawS, ← lawN, ← lawN]; rfl
  have lay := fun t => law_lay hs.2 t (m := m)
  have ok := fun t => law_ok hm hs h60 t
  simp only [lawS, lawN] at lay ok
  refine sx_seq (sx_dispXL (P := P) (w := w) (kS_key (st0 m s0)) (key (ev_tup (ea_cons (ev_var rfl) (ea_cons (ev_call (ea_cons (ev_var rfl) (ea_cons (ev_var rfl) (ea_cons (ev_tup ea_nil (by decide)) ea_nil))) ⟨m.ks, s0, [], ⟨hm.1, Nat.zero_le _, fun _ z => absurd z List.not_mem_nil⟩, rfl, rfl⟩) ea_nil)) (Nat.le_of_ble_eq_true rfl))) (EvO.kn (eo_lst (ds := [.int s0]) (ea_cons (ev_var rfl) ea_nil) (Nat.le_of_ble_eq_true rfl)))) ?_
  refine sx_seq (sx_newX (P := P) (w := w)) ?_
  refine sx_forR1E (n := (m.n * 32).toNat) (ea_cons (ev_I (ev_var rfl) (ev_c rfl) (cm1 ⟨by decide, by decide⟩) rfl) ea_nil) (by omega) rfl (fun t => [.dat (.list (m.ds.map doorD)), .dat (.list (m.ks.map keyD)), .dat (.int m.n), .dat (.int s0), .dat (.int g), .dct P w (kvsE intsD (N t)), .dct P w (kvsE boolD (S t)), .no, .no, .no, .no, .no, .no]) (by rw [← lawN, ← lawS]; rfl) (fun t => !((N t).filter fun e => decide (e.1.1 = g)).isEmpty) (.rt d) rfl (fun _ z => nomatch z) (fun _ z => nomatch z) (fun t ht hb => ?_) fun hall => ?_
  rotate_left
  · have dn : d = .none := by
      rcases hd with ⟨w0, h1, _⟩ | ⟨_, h2⟩
      · obtain ⟨t, t1, ⟨e, e1, e2⟩, _⟩ := goal_lay hm hs h1
        have := hall t (by omega)
        have me : e ∈ (N t).filter fun e => decide (e.1.1 = g) := List.mem_filter.mpr ⟨((lay t).2.2 e).mpr e1, decide_eq_true e2⟩
        cases ef : (N t).filter fun e => decide (e.1.1 = g) with
        | nil => rw [ef] at me; cases me
        | cons a b => rw [ef] at this; cases this
      · exact h2
    rw [dn]
    exact sx_ret (ev_c rfl)
  obtain ⟨okS, okN, okE, okX⟩ := ok t
  have ndN := (lay t).2.1
  have ndS := (lay t).1.1
  refine ⟨_, tg_name, ?_⟩
  generalize hzs : ((N t).filter fun e => decide (e.1.1 = g)).map (·.2) = zs
  have zl : zs.length ≤ 1920 := by rw [← hzs, List.length_map]; exact Nat.le_trans (List.length_filter_le _ _) okN
  have ends : ∀ {u : TS} {oc' : Oc}, Sx K (fun _ _ _ _ => False) u [.dat (.list (m.ds.map doorD)), .dat (.list (m.ks.map keyD)), .dat (.int m.n), .dat (.int s0), .dat (.int g), .dcf P w (kvsE intsD (N t)), .dct P w (kvsE boolD (S t)), .dat (.int t), .own ((zs.mergeSort (PySem.W.dataLe false intsD)).map intsD), .no, .no, .no, .no] oc' → Sx K (fun _ _ _ _ => False) (tSeq (tAsg (tCB (rSortD K) (tCons (tLc (iX P w (tVar 5)) (gName 9) (tTest (tOp rEq (tOp (rIxT K) (tVar 9) (tC (.int 0))) (tVar 4))) (tOp (rIxX P w K) (tVar 5) (tVar 9)) [9]) tNil)) (gName 8)) u) [.dat (.list (m.ds.map doorD)), .dat (.list (m.ks.map keyD)), .dat (.int m.n), .dat (.int s0), .dat (.int g), .dct P w (kvsE intsD (N t)), .dct P w (kvsE boolD (S t)), .dat (.int t), .no, .no, .no, .no, .no] oc' := fun {u oc'} hu => by
    refine sx_seq (sx_setZ (ez_sort (zs := zs) intsD (env' := [.dat (.list (m.ds.map doorD)), .dat (.list (m.ks.map keyD)), .dat (.int m.n), .dat (.int s0), .dat (.int g), .dcf P w (kvsE intsD (N t)), .dct P w (kvsE boolD (S t)), .dat (.int t), .no, .no, .no, .no, .no]) ?_ intsD_alike (.inr fun a => ⟨(fun z => nomatch z), fun _ z => nomatch z⟩) (by omega) (fun a => Nat.le_trans (sh_intsD a).2 (by decide)))) hu
    have e := ez_lcX (P := P) (w := w) (K := K) (i := 5) (tt := tTest (tOp rEq (tOp (rIxT K) (tVar 9) (tC (.int 0))) (tVar 4))) (te := tOp (rIxX P w K) (tVar 5) (tVar 9)) (g := gName 9) (vs := [9]) (env := [.dat (.list (m.ds.map doorD)), .dat (.list (m.ks.map keyD)), .dat (.int m.n), .dat (.int s0), .dat (.int g), .dct P w (kvsE intsD (N t)), .dct P w (kvsE boolD (S t)), .dat (.int t), .no, .no, .no, .no, .no]) (kvs := kvsE intsD (N t)) rfl (roomK g) (valK (kvsE intsD (N t))) (by rw [len_E]; omega) fun k hk => by
      rw [keys_E] at hk
      obtain ⟨x, hx, rfl⟩ := List.mem_map.mp hk
      obtain ⟨e, he, rfl⟩ := List.mem_map.mp hx
      refine ⟨_, tgw_name (by decide), et_test ((ev_eqI (i := e.1.1) (j := g) (ev_ixT (ds := [.int e.1.1, handD e.1.2]) ((ev_var rfl).is (kS_data e.1)) (ev_c rfl) rfl) (ev_var rfl)).is rfl), fun _ => ?_⟩
      have ev : valK (kvsE intsD (N t)) (kS e.1) = .list (e.2.map .int) := by
        unfold valK
        rw [atP_E, getE_of_mem ndN he]; rfl
      rw [ev]
      exact EvKn.ev (ek_ixX (kS_key e.1) (.inr rfl) (ev_var rfl) (by rw [atP_E, getE_of_mem ndN he]; rfl))
    rw [goal_list _ ndN, hzs] at e
    exact e
  refine ⟨fun ho => .inl (ends ?_), fun ho => ⟨rfl, ends ?_⟩⟩
  rotate_left
  · -- the goal is met
    have hne : ∃ v r, zs.mergeSort (PySem.W.dataLe false intsD) = v :: r := by
      cases e : zs.mergeSort (PySem.W.dataLe false intsD) with
      | nil =>
        have : zs = [] := List.eq_nil_of_length_eq_zero (by rw [← List.length_mergeSort (le := PySem.W.dataLe false intsD), e]; rfl)
        rw [← hzs, List.map_eq_nil_iff] at this
        rw [this] at ho; cases ho
      | cons v r => exact ⟨v, r, rfl⟩
    obtain ⟨v, r, ev⟩ := hne
    obtain ⟨v1, v2⟩ := head_least (zs := zs) (w := v) (by rw [ev]; rfl)
    have inz : ∀ w', w' ∈ zs ↔ ∃ e ∈ (layP m s0 t).2, e.1.1 = g ∧ e.2 = w' := fun w' => by
      rw [← hzs, List.mem_map]
      constructor
      · rintro ⟨e, h1, h2⟩
        obtain ⟨h3, h4⟩ := List.mem_filter.mp h1
        exact ⟨e, ((lay t).2.2 e).mp h3, of_decide_eq_true h4, h2⟩
      · rintro ⟨e, h1, h2, h3⟩
        exact ⟨e, List.mem_filter.mpr ⟨((lay t).2.2 e).mpr h1, decide_eq_true h2⟩, h3⟩
    have none0 : ∀ e ∈ (layP m s0 t).1, e.1.1 ≠ g := fun e he z => by
      obtain ⟨j, j1, j2⟩ := lay_of t e he
      have := hb j j1
      have me : e ∈ (N j).filter fun e => decide (e.1.1 = g) := List.mem_filter.mpr ⟨((lay j).2.2 e).mpr j2, decide_eq_true z⟩
      cases ef : (N j).filter fun e => decide (e.1.1 = g) with
      | nil => rw [ef] at me; cases me
      | cons a b => rw [ef] at this; cases this
    have isl : IsLeast m s0 g v := ⟨t, (inz v).mp v1, none0, fun e he z => v2 e.2 ((inz e.2).mpr ⟨e, he, z, rfl⟩)⟩
    have hd' : d = intsD v := by
      rcases hd with ⟨w0, _, h2, h3⟩ | ⟨h1, _⟩
      · rw [h3, least_one h2 isl]
      · obtain ⟨e, he, hg, _⟩ := (inz v).mp v1
        exact absurd hg (no_goal hm hs h1 t e he)
    rw [ev, hd']
    refine sx_end (sx_yes (EvT.is (b := !PyData.eqv (.list ((v :: r).map intsD)) (.list [])) (et_fix 8 rfl (et_test (ev_neD (ev_var rfl) (ev_lst ea_nil (by decide)) ((sh_lst (sh_map fun x _ => sh_intsD x)).shaped (by decide)) ((sh_lst (n := 0) fun _ z => absurd z List.not_mem_nil).shaped (by decide))))) ?_) (sx_ret (ev_ixO (ds := (v :: r).map intsD) (el_var rfl) (ev_c rfl) (atI_int (by decide) rfl) fun _ _ _ _ => trivial))) rfl
    rw [eqv_dec (sh_lst (n := 1) (sh_map fun x _ => sh_intsD x)) (sh_lst (n := 0) fun _ z => absurd z List.not_mem_nil) (p := False) ⟨fun z => z.elim, fun z => by cases z⟩]; rfl
  · -- on to the next layer
    have zn : zs = [] := by
      rw [← hzs]
      cases ef : (N t).filter fun e => decide (e.1.1 = g) with
      | nil => rfl
      | cons a b => rw [ef] at ho; cases ho
    rw [zn]
    refine sx_seq (sx_no (EvT.is (b := !PyData.eqv (.list ((([] : List (List Int)).mergeSort (PySem.W.dataLe false intsD)).map intsD)) (.list [])) (et_fix 8 rfl (et_test (ev_neD (ev_var rfl) (ev_lst ea_nil (by decide)) ((sh_lst (sh_map fun x _ => sh_intsD x)).shaped (by decide)) ((sh_lst (n := 0) fun _ z => absurd z List.not_mem_nil).shaped (by decide))))) (by
      rw [eqv_dec (sh_lst (n := 1) (sh_map fun x _ => sh_intsD x)) (sh_lst (n := 0) fun _ z => absurd z List.not_mem_nil) (p := True) ⟨fun _ => by rw [List.mergeSort_nil]; rfl, fun _ => trivial⟩]; rfl)) sx_next) ?_
    generalize (([] : List (List Int)).mergeSort (PySem.W.dataLe false intsD)).map intsD = X8
    refine sx_forXE (P := P) (w := w) (i := 5) (kvs := kvsE intsD (N t)) (.inr rfl) (fun j => [.dat (.list (m.ds.map doorD)), .dat (.list (m.ks.map keyD)), .dat (.int m.n), .dat (.int s0), .dat (.int g), .dcf P w (kvsE intsD (N t)), .dct P w (kvsE boolD (seenAdd (S t) ((N t).take j))), .dat (.int t), .own X8, .no, .no, .no, .no]) rfl (fun _ => false) (.rt .none) rfl (fun _ z => nomatch z) (fun _ z => nomatch z) (fun j k hk _ => ?_) fun _ => ?_
    · rw [keys_E, List.getElem?_map, List.getElem?_map] at hk
      cases ej : (N t)[j]? with
      | none => rw [ej] at hk; cases hk
      | some e =>
        rw [ej] at hk
        obtain rfl := Option.some.inj hk
        refine ⟨_, tg_name, fun _ => ?_, fun z => absurd z Bool.false_ne_true⟩
        have jl := (List.getElem?_eq_some_iff.mp ej).1
        have es : seenAdd (S t) ((N t).take (j + 1)) = putE (seenAdd (S t) ((N t).take j)) e.1 true := by
          rw [List.take_succ_eq_append_getElem jl, (List.getElem?_eq_some_iff.mp ej).2]
          unfold seenAdd
          rw [List.foldl_append]; rfl
        have sl : (seenAdd (S t) ((N t).take j)).length ≤ 1920 := by
          obtain ⟨a1, a2⟩ := seenAdd_ok ((N t).take j) (S t) ndS
          have := nodup_le (r := allStates m.n) a1 fun x hx => by
            rcases (a2 x).mp hx with z | z
            · exact okState_all (okX x z)
            · obtain ⟨y, hy, rfl⟩ := List.mem_map.mp z
              exact okState_all (okE y (List.mem_of_mem_take hy)).1
          rw [allStates_len, List.length_map] at this; omega
        try dsimp only
        rw [es, ← putP_E boolD _ e.1 true]
        exact go_less (sx_putX (d := .bool true) (kS_key e.1) rfl (fun _ z => nomatch z) (ev_c (d := .bool true) rfl) (ev_var rfl) (by rw [len_E]; omega)) (by walk_at "less")
    rw [len_E, List.take_length, ← nextS]
    refine sx_seq (sx_newX (P := P) (w := w)) ?_
    have cand_ok2 : ∀ j, ∀ c ∈ candL m ((S (t + 1)).map (·.1)) ((N t).take j), okState m c.1 := fun j c hc => by
      unfold candL at hc
      obtain ⟨x, hx, hc⟩ := List.mem_flatMap.mp hc
      obtain ⟨o, ho, rfl⟩ := List.mem_map.mp hc
      exact okState_step hm (okE x (List.mem_of_mem_take hx)).1 (List.mem_filter.mp ho).1
    have moreLen : ∀ cs : List Ent2, (∀ c ∈ cs, okState m c.1) → (moreF m.n cs).length ≤ 1920 := fun cs h => by
      have keys : ∀ x ∈ (moreF m.n cs).map (·.1), okState m x := by
        refine snoc_ind (P := fun cs => (∀ c ∈ cs, okState m c.1) → ∀ x ∈ (moreF m.n cs).map (·.1), okState m x) (fun _ x hx => by cases hx) (fun cs c ih h x hx => ?_) cs h
        rw [moreF_snoc] at hx
        unfold addM at hx
        rw [putE_keys] at hx
        have ih' := ih fun y hy => h y (List.mem_append.mpr (.inl hy))
        split at hx
        · exact ih' x hx
        · rcases List.mem_append.mp hx with z | z
          · exact ih' x z
          · rw [List.mem_singleton.mp z]; exact h c (List.mem_append.mpr (.inr (List.mem_singleton.mpr rfl)))
      have := nodup_le (r := allStates m.n) (moreF_nodup m.n cs) fun x hx => okState_all (keys x hx)
      rw [allStates_len, List.length_map] at this; omega
    refine sx_forXE (P := P) (w := w) (i := 5) (kvs := kvsE intsD (N t)) (.inr rfl) (fun j => [.dat (.list (m.ds.map doorD)), .dat (.list (m.ks.map keyD)), .dat (.int m.n), .dat (.int s0), .dat (.int g), .dcf P w (kvsE intsD (N t)), .dct P w (kvsE boolD (S (t + 1))), .dat (.int t), .own X8, .no, .dct P w (kvsE intsD (moreF m.n (candL m ((S (t + 1)).map (·.1)) ((N t).take j)))), .no, .no]) rfl (fun _ => false) (.rt .none) rfl (fun _ z => nomatch z) (fun _ z => nomatch z) (fun j k hk _ => ?_) fun _ => ?_
    · rw [keys_E, List.getElem?_map, List.getElem?_map] at hk
      cases ej : (N t)[j]? with
      | none => rw [ej] at hk; cases hk
      | some e =>
        rw [ej] at hk
        obtain rfl := Option.some.inj hk
        obtain ⟨x, wx⟩ := e
        have jl := (List.getElem?_eq_some_iff.mp ej).1
        obtain ⟨ox, lx⟩ := okE _ (List.mem_of_getElem? ej)
        have lx' : wx.length ≤ t + 1 := lx
        refine ⟨[.dat (.list (m.ds.map doorD)), .dat (.list (m.ks.map keyD)), .dat (.int m.n), .dat (.int s0), .dat (.int g), .dcf P w (kvsE intsD (N t)), .dct P w (kvsE boolD (S (t + 1))), .dat (.int t), .own X8, .dat (stateD x), .dct P w (kvsE intsD (moreF m.n (candL m ((S (t + 1)).map (·.1)) ((N t).take j)))), .no, .no], by rw [kS_data]; exact tg_name, fun _ => ?_, fun z => absurd z Bool.false_ne_true⟩
        generalize hp : (fun o : State => !decide (o ∈ (S (t + 1)).map (·.1))) = p
        have ec : candL m ((S (t + 1)).map (·.1)) ((N t).take (j + 1)) = candL m ((S (t + 1)).map (·.1)) ((N t).take j) ++ ((stepsS m x).filter p).map fun o => (o, wx ++ [o.1]) := by
          unfold candL
          rw [List.take_succ_eq_append_getElem jl, (List.getElem?_eq_some_iff.mp ej).2, List.flatMap_append, ← hp]
          show _ ++ List.flatMap _ [(x, wx)] = _
          rw [List.flatMap_cons, List.flatMap_nil, List.append_nil]
        have em : moreF m.n (candL m ((S (t + 1)).map (·.1)) ((N t).take (j + 1))) = (((stepsS m x).filter p).map fun o => (o, wx ++ [o.1])).foldl (addM m.n) (moreF m.n (candL m ((S (t + 1)).map (·.1)) ((N t).take j))) := by
          rw [ec]; unfold moreF; rw [List.foldl_append]
        have em2 : ∀ i, (((((stepsS m x).take i).filter p).map fun o => (o, wx ++ [o.1])).foldl (addM m.n) (moreF m.n (candL m ((S (t + 1)).map (·.1)) ((N t).take j)))) = moreF m.n (candL m ((S (t + 1)).map (·.1)) ((N t).take j) ++ (((stepsS m x).take i).filter p).map fun o => (o, wx ++ [o.1])) := fun i => by
          unfold moreF; rw [List.foldl_append]
        have hst : ∀ o ∈ stepsS m x, okState m o := fun o ho => okState_step hm ox ho
        try dsimp only
        rw [em]
        generalize hM0 : moreF m.n (candL m ((S (t + 1)).map (·.1)) ((N t).take j)) = M0 at em2
        have hlen : ∀ i, (((((stepsS m x).take i).filter p).map fun o => (o, wx ++ [o.1])).foldl (addM m.n) M0).length ≤ 1920 := fun i => by
          rw [em2]
          refine moreLen _ fun c hc => ?_
          rcases List.mem_append.mp hc with z | z
          · exact cand_ok2 j c z
          · obtain ⟨o, ho, rfl⟩ := List.mem_map.mp z
            exact hst o (List.mem_of_mem_take (List.mem_filter.mp ho).1)
        have hnd : ∀ i, ((((((stepsS m x).take i).filter p).map fun o => (o, wx ++ [o.1])).foldl (addM m.n) M0).map (·.1)).Nodup := fun i => by
          rw [em2]; exact moreF_nodup _ _
        have hsteps : Ev K (tCallS (spL K R_lsteps) (fun _ => E0) (tCons (tVar 0) (tCons (tVar 1) (tCons (tOp (rIxT K) (tVar 9) (tC (.int 0))) (tCons (tOp (rIxT K) (tVar 9) (tC (.int 1))) tNil))))) [.dat (.list (m.ds.map doorD)), .dat (.list (m.ks.map keyD)), .dat (.int m.n), .dat (.int s0), .dat (.int g), .dcf P w (kvsE intsD (N t)), .dct P w (kvsE boolD (S (t + 1))), .dat (.int t), .own X8, .dat (stateD x), .dct P w (kvsE intsD M0), .no, .no] (.list ((stepsS m x).map stateD)) := EvO.ev (eo_call (ea_cons (ev_var rfl) (ea_cons (ev_var rfl) (ea_cons (ev_ixT (ds := [.int x.1, handD x.2]) (ev_var rfl) (ev_c rfl) rfl) (ea_cons (ev_ixT (ds := [.int x.1, handD x.2]) (ev_var rfl) (ev_c rfl) rfl) ea_nil)))) ⟨m, x.1, x.2, ⟨hm, ox.2.2⟩, rfl, rfl⟩)
        refine .inl (nx_less (env1 := [.dat (.list (m.ds.map doorD)), .dat (.list (m.ks.map keyD)), .dat (.int m.n), .dat (.int s0), .dat (.int g), .dcf P w (kvsE intsD (N t)), .dct P w (kvsE boolD (S (t + 1))), .dat (.int t), .own X8, .dat (stateD x), .dct P w (kvsE intsD ((((stepsS m x).filter p).map fun o => (o, wx ++ [o.1])).foldl (addM m.n) M0)), .no, .no]) ((sx_for (ds := (stepsS m x).map stateD) hsteps (fun i => [.dat (.list (m.ds.map doorD)), .dat (.list (m.ks.map keyD)), .dat (.int m.n), .dat (.int s0), .dat (.int g), .dcf P w (kvsE intsD (N t)), .dct P w (kvsE boolD (S (t + 1))), .dat (.int t), .own X8, .dat (stateD x), .dct P w (kvsE intsD (((((stepsS m x).take i).filter p).map fun o => (o, wx ++ [o.1])).foldl (addM m.n) M0)), .no, .no]) rfl fun i d hi => ?_).to ?_) (by walk_at "less"))
        rotate_left
        · rw [List.length_map, List.take_length]
        rw [List.getElem?_map] at hi
        cases ei : (stepsS m x)[i]? with
        | none => rw [ei] at hi; cases hi
        | some o =>
          rw [ei] at hi
          obtain rfl := Option.some.inj hi
          refine ⟨_, tg_name, ?_⟩
          have hl := hlen i
          have nd := hnd i
          try dsimp only
          rw [take_next ei, List.foldl_append]
          generalize ((((stepsS m x).take i).filter p).map fun o => (o, wx ++ [o.1])).foldl (addM m.n) M0 = M at hl nd
          have test : EvT K _ _ (p o) := EvT.is (et_test (ev_inX (P := P) (w := w) (K := K) (neg := true) (kS_key o) (key (ev_var (i := 11) rfl)) (.inl rfl : IsDc P w [.dat (.list (m.ds.map doorD)), .dat (.list (m.ks.map keyD)), .dat (.int m.n), .dat (.int s0), .dat (.int g), .dcf P w (kvsE intsD (N t)), .dct P w (kvsE boolD (S (t + 1))), .dat (.int t), .own X8, .dat (stateD x), .dct P w (kvsE intsD M), .dat (stateD o), .no] 6 (kvsE boolD (S (t + 1)))))) (by
            show (!(atP (kvsE boolD (S (t + 1))) (kS o)).isSome) = _
            rw [atP_E, Option.isSome_map, ← hp]
            show _ = !decide (o ∈ (S (t + 1)).map (·.1))
            congr 1
            rw [Bool.eq_iff_iff, decide_eq_true_eq]; exact getE_isSome)
          by_cases c : p o = true
          · rw [if_pos c]
            rw [c] at test
            show Go K _ _ _ [_, _, _, _, _, _, _, _, _, _, .dct P w (kvsE intsD (putE M o (minL ((getE M o).getD [m.n]) (wx ++ [o.1])))), _, _]
            rw [← putP_E intsD]
            refine go_less (sx_yes test (sx_seq (sx_setKn (xs := (wx ++ [o.1]).map .int) (EvO.kn (EvO.is (eo_cat (xs := wx.map .int) (ys := [.int o.1]) (ek_ixX (kS_key x) (.inr rfl) (key (ev_var rfl)) (by rw [atP_E, getE_of_mem ndN (List.mem_of_getElem? ej)]; rfl)).l (EvO.l (eo_lst (ea_cons (ev_ixT (ds := [.int o.1, handD o.2]) (ev_var rfl) (ev_c rfl) rfl) ea_nil) (Nat.le_of_ble_eq_true rfl))) (by rw [List.length_map]; show wx.length + 1 ≤ _; omega)) (by rw [List.map_append]; rfl)))) (sx_putXL (xs := (minL ((getE M o).getD [m.n]) (wx ++ [o.1])).map .int) (kS_key o) rfl (ek_min2 (ek_getX (ys := [.int m.n]) (xs := ((getE M o).getD [m.n]).map .int) (kS_key o) (.inl rfl) (key (ev_var rfl)) (EvO.kn (eo_lst (ea_cons (ev_var rfl) ea_nil) (Nat.le_of_ble_eq_true rfl))) ?_) (ek_kl rfl)) (key (ev_var rfl)) (by rw [len_E]; omega)))) (by walk_at "less")
            rw [atP_E]
            cases getE M o with
            | none => exact .inl ⟨rfl, rfl⟩
            | some u => exact .inr rfl
          · rw [if_neg c]
            rw [Bool.eq_false_iff.mpr c] at test
            exact go_less (sx_no test sx_next) (by walk_at "less")
    · rw [len_E, List.take_length, ← nextN]
      exact nx_less (sx_move (i := 10) (j := 5) rfl rfl (by decide)) (by walk_at "less")

/-! the rooms that the law grows; the shut ones -/
theorem heldW_mem {m : Maze} {k : Int} (w : List Int) : k ∈ heldW m w ↔ ∃ r ∈ w, (r, k) ∈ m.ks := by
  refine snoc_ind (P := fun w => k ∈ heldW m w ↔ ∃ r ∈ w, (r, k) ∈ m.ks) (by unfold heldW; simp) (fun w a ih => ?_) w
  have e : heldW m (w ++ [a]) = taken m.ks a (heldW m w) := by unfold heldW; rw [List.foldl_append]; rfl
  rw [e, taken_mem, ih]
  constructor
  · rintro (⟨r, h1, h2⟩ | h)
    · exact ⟨r, List.mem_append.mpr (.inl h1), h2⟩
    · exact ⟨a, List.mem_append.mpr (.inr (List.mem_singleton.mpr rfl)), h⟩
  · rintro ⟨r, h1, h2⟩
    rcases List.mem_append.mp h1 with z | z
    · exact .inl ⟨r, z, h2⟩
    · rw [List.mem_singleton.mp z] at h2; exact .inr h2
theorem heldW_ok {m : Maze} (hk : okKeys m.ks) (w : List Int) : okHeld (heldW m w) ∧ (heldW m w).Pairwise (· < ·) := by
  refine snoc_ind (P := fun w => okHeld (heldW m w) ∧ (heldW m w).Pairwise (· < ·)) ⟨⟨Nat.zero_le _, fun _ z => absurd z List.not_mem_nil⟩, List.Pairwise.nil⟩ (fun w a ih => ?_) w
  have e : heldW m (w ++ [a]) = taken m.ks a (heldW m w) := by unfold heldW; rw [List.foldl_append]; rfl
  rw [e]
  exact ⟨taken_ok hk ih.1, rise_up _⟩
theorem heldW_among {m : Maze} (hk : okKeys m.ks) (w : List Int) : heldW m w = keysAmong m.ks w := rising_one (heldW_ok hk w).2 (rise_up _) fun k => by rw [heldW_mem, among_mem]
theorem opens_heldW (m : Maze) (w : List Int) (l : Option Int) : opensF l (heldW m w) = opensIn m.ks w l := by
  rw [← opens_among]
  cases l with
  | none => rfl
  | some k => exact decide_eq_decide.mpr ((heldW_mem w).trans among_mem.symm)
def R_rooms (ds : List PyData) (xs : List PyData) : Prop := ∃ (m : Maze) (s : Int), (okMaze m ∧ inRoom m.n s ∧ m.n ≤ 60) ∧ ds = [.list (m.ds.map doorD), .list (m.ks.map keyD), .int s] ∧ xs = (comeR m s).map .int
def hit (m : Maze) (R : List Int) (j : Nat) : List Int := (((m.ds.take j).find? (goesOn m.ks R)).map (farEnd R)).toList
theorem ok_l_rooms (T : Txt K mg A) : FnOk P w K mg base CX0 2 A.a_l_rooms A.d_l_rooms ["_law_doors_here", "_law_lying_here", "_law_start"] (spL K R_rooms) := by
  refine T.f_l_rooms.ok sc_l_rooms (fun vs H Q E h => ?_) (fun cdv Ar outer s H vs Q E hr h => ?_)
  · obtain ⟨H0, ds, d, sm, dv, ⟨m, s0, _, rfl, _⟩, _⟩ := h; exact dpa_len dv
  obtain ⟨H0, ds, d, sm, dv, ⟨m, s0, ⟨hm, hs, h60⟩, rfl, rfl⟩, q⟩ := h
  refine ⟨_, (pss_cons (ps_set (i := 3) sc_l_rooms.nd rfl (.inl rfl) (pe_lst (pa_cons (pv 2) pa_nil)))
      (pss_cons (ps_set (i := 4) sc_l_rooms.nd rfl (.inl rfl) (pe_lst (pa_cons (pv 2) pa_nil)))
      (pss_cons (ps_set (i := 5) sc_l_rooms.nd rfl (.inl rfl) (pe_tup pa_nil))
      (pss_cons (ps_while PassesOwn.never (pt_cmpR (r := rNeD K) (by exact (op_neD hr.units)) (pv 4) (pe_lst pa_nil) (nomark _)) (pss_cons (ps_set (i := 5) sc_l_rooms.nd rfl (.inl rfl) (pe_callS (E := fun _ => E0) (ok_l_taken T) (hr.mono (by decide)) rfl T.g_l_taken T.f_l_taken.kp (b_l_taken T) (fun σ => pass0S) (pa_cons (pv 1) (pa_cons (pe_ix (r := rIxL K) (by exact ix_list) (pv 3) (pe_un un_neg pe_int) (fun _ _ => rfl)) (pa_cons (pv 5) pa_nil)))))
      (pss_cons (ps_set (i := 4) sc_l_rooms.nd rfl (.inl rfl) (pe_lst pa_nil))
      (pss_cons (ps_for PassesOwn.never rfl (pi_list (pv 0)) (pg_tup rfl (pgs_cons (pg_name (i := 6) sc_l_rooms.nd rfl (Or.inl rfl)) (pgs_cons (pg_name (i := 7) sc_l_rooms.nd rfl (Or.inl rfl)) (pgs_cons (pg_name (i := 8) sc_l_rooms.nd rfl (Or.inl rfl)) pgs_nil))))
        (pss_one (ps_if (PW.pt (pw_and (pt_cmpR (r := rEqD K) (by exact (op_eqD hr.units)) (pv 4) (pe_lst pa_nil) (nomark _)) (pw_and1 (pt_cmpR op_ne (pe_cmpR (r := rIn K false) (by exact op_in_seq) (pv 6) (pv 3) (by rfl)) (pe_cmpR (r := rIn K false) (by exact op_in_seq) (pv 7) (pv 3) (by rfl)) (nomark _))))) (pss_one (ps_if (PW.pt (pw_or (pt_cmpR op_isN (pv 8) pe_non (nomark _)) (pw_or1 (pt_cmpR (r := rIn K false) (by exact op_in_seq) (pv 8) (pv 5) (by rfl))))) (pss_one (ps_set (i := 4) sc_l_rooms.nd rfl (.inl rfl) (pe_ifExp (pt_cmpR (r := rIn K false) (by exact op_in_seq) (pv 6) (pv 3) (by rfl)) (pe_lst (pa_cons (pv 7) pa_nil)) (pe_lst (pa_cons (pv 6) pa_nil))))) pss_nil)) pss_nil)))
      (pss_one (ps_set (i := 3) sc_l_rooms.nd rfl (.inl rfl) (pe_op op_cat (pv 3) (pv 4))))))))
      (pss_one (ps_ret (pv 3))))))), ?_⟩
  refine Pf.run (X := fun _ _ _ _ => False) (oc := .rl ((comeR m s0).map .int)) sm dv rfl ?_ (fun p ws G H2 fr w1 w2 w3 w4 => q p ws G H2 fr (w1.elim False.elim id) w2 w3 w4)
  obtain ⟨c1, c2, ⟨t, c3⟩, c4⟩ := comeR_is hm hs
  have cl := comeR_len hm hs
  generalize hC : comeR m s0 = C at c1 c2 c3 c4 cl
  have c0 : C[0]? = some s0 := by rw [c3]; rfl
  have next : ∀ i, i < C.length → nextR m (C.take (i + 1)) = C[i + 1]? := fun i hi => by
    by_cases z : i + 1 < C.length
    · rw [List.getElem?_eq_getElem z]; exact c4 (i + 1) _ (by omega) (List.getElem?_eq_getElem z)
    · rw [List.take_of_length_le (by omega), c2, List.getElem?_eq_none (by omega)]
  have takeS : ∀ i, i < C.length → C.take (i + 1) ++ (C[i + 1]?).toList = C.take (i + 1 + 1) := fun i hi => by
    rw [List.take_add_one (i := i + 1)]
  have eq0 : ∀ l : List Int, PyData.eqv (.list (l.map .int)) (.list []) = decide (l = []) := fun l => eqv_dec (n := 1) (m := 1) (sh_intsD l) (sh_lst fun _ z => absurd z List.not_mem_nil) ⟨fun z => by rw [z]; rfl, fun z => by cases l with | nil => rfl | cons a b => cases z⟩
  refine sx_seq (sx_setO (eo_lst (ds := [.int s0]) (ea_cons (ev_var rfl) ea_nil) (Nat.le_of_ble_eq_true rfl))) ?_
  refine sx_seq (sx_setO (eo_lst (ds := [.int s0]) (ea_cons (ev_var rfl) ea_nil) (Nat.le_of_ble_eq_true rfl))) ?_
  refine sx_seq (sx_set (d := handD []) (ev_tup ea_nil (by decide))) ?_
  have inv0 : [SV.dat (.list (m.ds.map doorD)), .dat (.list (m.ks.map keyD)), .dat (.int s0), .own ((C.take (0 + 1)).map .int), .own ((C[0]?).toList.map .int), .dat (handD (heldW m (C.take 0))), .no, .no, .no] = [.dat (.list (m.ds.map doorD)), .dat (.list (m.ks.map keyD)), .dat (.int s0), .own [.int s0], .own [.int s0], .dat (handD []), .no, .no, .no] := by
    rw [c0, c3]; rfl
  refine sx_seq (sx_while (n := C.length) (fun i => [.dat (.list (m.ds.map doorD)), .dat (.list (m.ks.map keyD)), .dat (.int s0), .own ((C.take (i + 1)).map .int), .own ((C[i]?).toList.map .int), .dat (handD (heldW m (C.take i))), .no, .no, .no]) inv0 (fun i hi => ⟨?_, .inl ?_⟩) ?_) ?_
  · refine EvT.is (et_fix 4 rfl (et_test (ev_neD (ev_var rfl) (ev_lst ea_nil (by decide)) ((sh_intsD _).shaped (by decide)) ((sh_lst (n := 0) fun _ z => absurd z List.not_mem_nil).shaped (by decide))))) ?_
    rw [eq0, List.getElem?_eq_getElem hi]; rfl
  · have tk : C.take (i + 1) = C.take i ++ [C[i]] := List.take_succ_eq_append_getElem hi
    have hh : heldW m (C.take (i + 1)) = taken m.ks C[i] (heldW m (C.take i)) := by
      rw [tk]; unfold heldW; rw [List.foldl_append]; rfl
    have rl : (C.take (i + 1)).length = i + 1 := by rw [List.length_take]; omega
    have last : atI ((C.take (i + 1)).map PyData.int) (-1) = some (.int C[i]) := by
      unfold atI ixN
      rw [if_neg (by decide), if_pos (by rw [List.length_map, rl]; omega), List.length_map, rl]
      have e : (-1 + ((i + 1 : Nat) : Int)).toNat = i := by omega
      show ((C.take (i + 1)).map PyData.int)[(-1 + ((i + 1 : Nat) : Int)).toNat]? = _
      rw [e, List.getElem?_map, tk, List.getElem?_append_right (by rw [List.length_take]; omega), List.length_take, Nat.min_eq_left (by omega), Nat.sub_self]; rfl
    refine sx_seq (sx_set (d := handD (heldW m (C.take (i + 1)))) (ev_call (ea_cons (ev_var rfl) (ea_cons (ev_ixO (el_var rfl) (ev_U (ev_c rfl) rfl) last fun _ _ _ _ => trivial) (ea_cons (ev_var rfl) ea_nil))) ⟨m.ks, C[i], heldW m (C.take i), ⟨hm.1, (heldW_ok hm.1 _).1⟩, rfl, by rw [hh]⟩)) ?_
    refine sx_seq (sx_setO (eo_lst ea_nil (by decide))) ?_
    have nx := next i hi
    have ts := takeS i hi
    generalize hR : C.take (i + 1) = R at nx ts rl
    refine sx_seq (sx_for (ds := m.ds.map doorD) (ev_var rfl) (fun j => [.dat (.list (m.ds.map doorD)), .dat (.list (m.ks.map keyD)), .dat (.int s0), .own (R.map .int), .own ((hit m R j).map .int), .dat (handD (heldW m R)), .no, .no, .no]) rfl fun j d hj => ?_) ?_
    · rw [List.getElem?_map] at hj
      cases ej : m.ds[j]? with
      | none => rw [ej] at hj; cases hj
      | some x =>
        rw [ej] at hj
        obtain rfl := Option.some.inj hj
        refine ⟨_, tg_tup (tgs_cons tg_name (tgs_cons tg_name (tgs_cons tg_name tgs_nil))) rfl, ?_⟩
        have jl := (List.getElem?_eq_some_iff.mp ej).1
        have eh : hit m R (j + 1) = if (hit m R j = [] ∧ goesOn m.ks R x = true) then [farEnd R x] else hit m R j := by
          unfold hit
          rw [List.take_succ_eq_append_getElem jl, (List.getElem?_eq_some_iff.mp ej).2, List.find?_append]
          cases (m.ds.take j).find? (goesOn m.ks R) with
          | some y => rw [if_neg (fun z => by cases z.1)]; rfl
          | none =>
            by_cases g : goesOn m.ks R x = true
            · rw [if_pos ⟨rfl, g⟩, List.find?_cons_of_pos g]; rfl
            · rw [if_neg (fun z => g z.2), List.find?_cons_of_neg g]; rfl
        try dsimp only
        rw [eh]
        generalize hit m R j = M
        have t1 : EvT K _ [.dat (.list (m.ds.map doorD)), .dat (.list (m.ks.map keyD)), .dat (.int s0), .own (R.map .int), .own (M.map .int), .dat (handD (heldW m R)), .dat (.int x.1), .dat (.int x.2.1), .dat (optD x.2.2)] (decide (M = []) && oneEnd R x) := et_fix 3 rfl (et_fix 4 rfl (et_and ((et_test (ev_eqD (ev_var (i := 4) rfl) (ev_lst ea_nil (by decide)) ((sh_intsD _).shaped (by decide)) ((sh_lst (n := 0) fun _ z => absurd z List.not_mem_nil).shaped (by decide)))).is (eq0 M)) fun _ => et_test ((ev_neB ((ev_inL (ds := R.map .int) (ev_var (i := 6) rfl) (ev_var (i := 3) rfl) rfl (ints_flat _)).is (by rw [ints_any])) ((ev_inL (ds := R.map .int) (ev_var (i := 7) rfl) (ev_var (i := 3) rfl) rfl (ints_flat _)).is (by rw [ints_any]))).is rfl)))
        have t2 : EvT K _ [.dat (.list (m.ds.map doorD)), .dat (.list (m.ks.map keyD)), .dat (.int s0), .own (R.map .int), .own (M.map .int), .dat (handD (heldW m R)), .dat (.int x.1), .dat (.int x.2.1), .dat (optD x.2.2)] (opensIn m.ks R x.2.2) := ((et_or (et_test (ev_isN (ev_var (i := 8) rfl))) fun _ => et_test (ev_inT (ds := (heldW m R).map .int) (ev_var (i := 8) rfl) (ev_var (i := 5) rfl) (optD_flat _) (ints_flat _))).is (opt_any _ _)).is (opens_heldW m R _)
        by_cases g1 : (decide (M = []) && oneEnd R x) = true
        · rw [g1] at t1
          rw [Bool.and_eq_true, decide_eq_true_eq] at g1
          by_cases g2 : opensIn m.ks R x.2.2 = true
          · have gg : goesOn m.ks R x = true := by unfold goesOn; rw [g1.2, g2]; rfl
            rw [g2] at t2
            rw [if_pos ⟨g1.1, gg⟩]
            refine go_less (sx_yes t1 (sx_yes t2 (sx_setO (xs := [.int (farEnd R x)]) (eo_if (b := decide (x.1 ∈ R)) (et_fix 3 rfl ((et_test (ev_inL (ds := R.map .int) (ev_var rfl) (ev_var rfl) rfl (ints_flat _))).is (by rw [ints_any]))) (fun z => (eo_lst (ds := [.int x.2.1]) (ea_cons (ev_var rfl) ea_nil) (Nat.le_of_ble_eq_true rfl)).is ?_) fun z => (eo_lst (ds := [.int x.1]) (ea_cons (ev_var rfl) ea_nil) (Nat.le_of_ble_eq_true rfl)).is ?_)))) (by walk_at "less")
            · unfold farEnd; rw [if_pos (of_decide_eq_true z)]
            · unfold farEnd; rw [if_neg (of_decide_eq_false z)]
          · have gg : ¬ (M = [] ∧ goesOn m.ks R x = true) := fun z => by
              have := z.2
              unfold goesOn at this
              rw [Bool.and_eq_true] at this
              exact g2 this.2
            rw [Bool.eq_false_iff.mpr g2] at t2
            rw [if_neg gg]
            exact go_less (sx_yes t1 (sx_no t2 sx_next)) (by walk_at "less")
        · have gg : ¬ (M = [] ∧ goesOn m.ks R x = true) := fun z => by
            have := z.2
            unfold goesOn at this
            rw [Bool.and_eq_true] at this
            exact g1 (by rw [decide_eq_true z.1, this.1]; rfl)
          rw [Bool.eq_false_iff.mpr g1] at t1
          rw [if_neg gg]
          exact go_less (sx_no t1 sx_next) (by walk_at "less")
    · have eM : hit m R (m.ds.map doorD).length = (C[i + 1]?).toList := by
        rw [← nx]
        unfold hit nextR
        rw [List.length_map, List.take_length]
      rw [eM, ← ts]
      refine nx_less (sx_setO (xs := (R ++ (C[i + 1]?).toList).map .int) ((eo_cat (el_var rfl) (el_var rfl) ?_).is (by rw [List.map_append]))) (by walk_at "less")
      rw [List.length_map, List.length_map, rl]
      have : (C[i + 1]?).toList.length ≤ 1 := by cases C[i + 1]? <;> simp
      omega
  · refine EvT.is (et_fix 4 rfl (et_test (ev_neD (ev_var rfl) (ev_lst ea_nil (by decide)) ((sh_intsD _).shaped (by decide)) ((sh_lst (n := 0) fun _ z => absurd z List.not_mem_nil).shaped (by decide))))) ?_
    rw [eq0, List.getElem?_eq_none (Nat.le_refl _)]; rfl
  · rw [List.take_of_length_le (by omega)]
    exact sx_retV rfl
def R_shut (ds : List PyData) (d : PyData) : Prop := ∃ (m : Maze) (s : Int), (okMaze m ∧ inRoom m.n s ∧ m.n ≤ 60) ∧ ds = [.tuple [.str shutS, intsD (comeR m s), handD (keysAmong m.ks (comeR m s))], .list (m.ds.map doorD), .list (m.ks.map keyD), .int s] ∧ d = .bool true
theorem ok_l_shut (T : Txt K mg A) : FnOk P w K mg base CX0 3 A.a_l_shut A.d_l_shut ["_law_found", "_law_doors_here", "_law_lying_here", "_law_start"] (spG K R_shut) := by
  refine T.f_l_shut.ok sc_l_shut (fun vs H Q E h => ?_) (fun cdv Ar outer s H vs Q E hr h => ?_)
  · obtain ⟨H0, ds, d, sm, dv, ⟨m, s0, _, rfl, _⟩, _⟩ := h; exact dpa_len dv
  obtain ⟨H0, ds, d, sm, dv, ⟨m, s0, ⟨hm, hs, h60⟩, rfl, rfl⟩, q⟩ := h
  refine ⟨_, (pss_cons (ps_if (PW.pt (pw_or (pt_cmpR op_ne (pe_ix (r := rIxT K) (by exact ix_tup) (pv 0) pe_int (fun _ _ => rfl)) pe_str (nomark _)) (pw_or1 (pt_cmpR op_ne (pe_callB call_len_seq (by rfl) T.u_len (by decide +kernel) (pa_cons (pv 0) pa_nil)) pe_int (nomark _))))) (pss_one (ps_ret pe_bl)) pss_nil)
      (pss_cons (ps_set (i := 4) sc_l_shut.nd rfl (.inl rfl) (pe_callS (E := fun _ => E0) (ok_l_rooms T) (hr.mono (by decide)) rfl T.g_l_rooms T.f_l_rooms.kp (b_l_rooms T) (fun σ => pass0S) (pa_cons (pv 1) (pa_cons (pv 2) (pa_cons (pv 3) pa_nil)))))
      (pss_cons (ps_set (i := 5) sc_l_shut.nd rfl (.inl rfl) (pe_tup pa_nil))
      (pss_cons (ps_for PassesOwn.never rfl (pi_list (pv 4)) (pg_name (i := 6) sc_l_shut.nd rfl (Or.inl rfl))
        (pss_one (ps_set (i := 5) sc_l_shut.nd rfl (.inl rfl) (pe_callS (E := fun _ => E0) (ok_l_taken T) (hr.mono (by decide)) rfl T.g_l_taken T.f_l_taken.kp (b_l_taken T) (fun σ => pass0S) (pa_cons (pv 2) (pa_cons (pv 6) (pa_cons (pv 5) pa_nil)))))))
      (pss_one (ps_ret (pe_and (pe_callS (E := fun _ => E0) (ok_l_row T) (hr.mono (by decide)) rfl T.g_l_row T.f_l_row.kp (b_l_row T) (fun σ => pass0S) (pa_cons (pe_ix (r := rIxT K) (by exact ix_tup) (pv 0) pe_int (fun _ _ => rfl)) (pa_cons (pv 4) pa_nil))) (pe_one (pe_callS (E := fun _ => E0) (ok_l_hand T) (hr.mono (by decide)) rfl T.g_l_hand T.f_l_hand.kp (b_l_hand T) (fun σ => pass0S) (pa_cons (pe_ix (r := rIxT K) (by exact ix_tup) (pv 0) pe_int (fun _ _ => rfl)) (pa_cons (pv 5) pa_nil))))))))))), ?_⟩
  refine Pf.run (X := fun _ _ _ _ => False) (oc := .rt (.bool true)) sm dv rfl ?_ q
  refine sx_seq (sx_no (EvT.is (b := !decide (shutS = shutS) || !decide ((3 : Int) = 3)) (et_or (et_test (ev_neS (ev_ixT (ds := [.str shutS, intsD (comeR m s0), handD (keysAmong m.ks (comeR m s0))]) (ev_var rfl) (ev_c rfl) rfl) (ev_c (d := .str shutS) rfl))) fun _ => et_test (ev_neI (ev_lenT (xs := [.str shutS, intsD (comeR m s0), handD (keysAmong m.ks (comeR m s0))]) (ev_var rfl)) (ev_c rfl))) (by rw [decide_eq_true rfl]; rfl)) sx_next) ?_
  refine sx_seq (sx_setO (eo_call (ea_cons (ev_var rfl) (ea_cons (ev_var rfl) (ea_cons (ev_var rfl) ea_nil))) ⟨m, s0, ⟨hm, hs, h60⟩, rfl, rfl⟩)) ?_
  refine sx_fix 4 rfl ?_
  refine sx_seq (sx_set (d := handD []) (ev_tup ea_nil (by decide))) ?_
  have hA := heldW_among hm.1 (comeR m s0)
  generalize comeR m s0 = C at hA
  refine sx_seq (sx_for (ds := C.map .int) (ev_var rfl) (fun i => [.dat (.tuple [.str shutS, intsD C, handD (keysAmong m.ks C)]), .dat (.list (m.ds.map doorD)), .dat (.list (m.ks.map keyD)), .dat (.int s0), .dat (.list (C.map .int)), .dat (handD (heldW m (C.take i))), .no]) rfl fun i d hi => ?_) ?_
  · rw [List.getElem?_map] at hi
    cases ei : C[i]? with
    | none => rw [ei] at hi; cases hi
    | some x =>
      rw [ei] at hi
      obtain rfl := Option.some.inj hi
      have il := (List.getElem?_eq_some_iff.mp ei).1
      have hh : heldW m (C.take (i + 1)) = taken m.ks x (heldW m (C.take i)) := by
        rw [List.take_succ_eq_append_getElem il, (List.getElem?_eq_some_iff.mp ei).2]; unfold heldW; rw [List.foldl_append]; rfl
      refine ⟨_, tg_name, ?_⟩
      try dsimp only
      rw [hh]
      exact go_less (sx_set (ev_call (ea_cons (ev_var rfl) (ea_cons (ev_var rfl) (ea_cons (ev_var rfl) ea_nil))) ⟨m.ks, x, heldW m (C.take i), ⟨hm.1, (heldW_ok hm.1 _).1⟩, rfl, rfl⟩)) (by walk_at "less")
  · rw [List.length_map, List.take_length, hA]
    refine sx_ret ((ev_andV (a := decide (C = C)) (b := decide (keysAmong m.ks C = keysAmong m.ks C)) (ev_call (ea_cons (ev_ixT (ds := [.str shutS, intsD C, handD (keysAmong m.ks C)]) (ev_var rfl) (ev_c rfl) rfl) (ea_cons (ev_var rfl) ea_nil)) ⟨C, C, rfl, rfl⟩) fun _ => ev_call (ea_cons (ev_ixT (ds := [.str shutS, intsD C, handD (keysAmong m.ks C)]) (ev_var rfl) (ev_c rfl) rfl) (ea_cons (ev_var rfl) ea_nil)) ⟨_, _, rfl, rfl⟩).is ?_)
    rw [decide_eq_true rfl, decide_eq_true rfl]; rfl

/-! the goal; the law -/
def goalF (ns : List Int) (n : Int) : Int := if cellAt ns 0 % 12 = 10 ∧ cellAt ns 2 % 2 = 1 then n - 1 else if (cellAt ns 0 % 12 = 6 ∨ cellAt ns 0 % 12 = 8) ∧ 0 < cellAt ns 2 % 4 then (n - 1) * (1 + mix (cellAt ns 0) 0 % (n - 1)) % n else cellAt ns 2 % n
def R_goal (ds : List PyData) (d : PyData) : Prop := ∃ (ns : List Int) (n : Int), sizeOk (cellAt ns 0) n ∧ ds = [.list (ns.map .int), .int n] ∧ d = .int (goalF ns n)
theorem goalF_room {ns : List Int} {n : Int} (h : sizeOk (cellAt ns 0) n) : inRoom n (goalF ns n) := by
  have h1 := h.1
  unfold goalF
  split
  · unfold inRoom; omega
  · split
    · exact room_mod (by omega)
    · exact room_mod (by omega)
theorem ok_l_goal (T : Txt K mg A) : FnOk P w K mg base CX0 2 A.a_l_goal A.d_l_goal ["_law_script", "_law_size_here"] (spG K R_goal) := by
  refine T.f_l_goal.ok sc_l_goal (fun vs H Q E h => ?_) (fun cdv Ar outer s H vs Q E hr h => ?_)
  · obtain ⟨H0, ds, d, sm, dv, ⟨ns, n, _, rfl, _⟩, _⟩ := h; exact dpa_len dv
  obtain ⟨H0, ds, d, sm, dv, ⟨ns, n, hn, rfl, rfl⟩, q⟩ := h
  refine ⟨_, (pss_cons (ps_set (i := 2) sc_l_goal.nd rfl (.inl rfl) (pe_callS (E := fun _ => E0) (ok_l_cell_at T) (hr.mono (by decide)) rfl T.g_l_cell_at T.f_l_cell_at.kp (b_l_cell_at T) (fun σ => pass0S) (pa_cons (pv 0) (pa_cons pe_int pa_nil))))
      (pss_cons (ps_if (PW.pt (pw_and (pt_cmpR op_eq (pe_op op_mod (pv 2) pe_int) pe_int (nomark _)) (pw_and1 (pt_cmpR op_eq (pe_op op_mod (pe_callS (E := fun _ => E0) (ok_l_cell_at T) (hr.mono (by decide)) rfl T.g_l_cell_at T.f_l_cell_at.kp (b_l_cell_at T) (fun σ => pass0S) (pa_cons (pv 0) (pa_cons pe_int pa_nil))) pe_int) pe_int (nomark _))))) (pss_one (ps_ret (pe_op op_sub (pv 1) pe_int))) pss_nil)
      (pss_cons (ps_if (PW.pt (pw_and (pt_cmpR (r := rIn K false) (by exact op_in_seq) (pe_op op_mod (pv 2) pe_int) (pe_tup (pa_cons pe_int (pa_cons pe_int pa_nil))) (by rfl)) (pw_and1 (pt_cmpR op_gt (pe_op op_mod (pe_callS (E := fun _ => E0) (ok_l_cell_at T) (hr.mono (by decide)) rfl T.g_l_cell_at T.f_l_cell_at.kp (b_l_cell_at T) (fun σ => pass0S) (pa_cons (pv 0) (pa_cons pe_int pa_nil))) pe_int) pe_int (nomark _))))) (pss_one (ps_ret (pe_op op_mod (pe_op op_mul (pe_op op_sub (pv 1) pe_int) (pe_op op_add pe_int (pe_op op_mod (pe_callS (E := fun _ => E0) (ok_l_mix T) (hr.mono (by decide)) rfl T.g_l_mix T.f_l_mix.kp (b_l_mix T) (fun σ => pass0S) (pa_cons (pv 2) (pa_cons pe_int pa_nil))) (pe_op op_sub (pv 1) pe_int)))) (pv 1)))) pss_nil)
      (pss_one (ps_ret (pe_op op_mod (pe_callS (E := fun _ => E0) (ok_l_cell_at T) (hr.mono (by decide)) rfl T.g_l_cell_at T.f_l_cell_at.kp (b_l_cell_at T) (fun σ => pass0S) (pa_cons (pv 0) (pa_cons pe_int pa_nil))) (pv 1))))))), ?_⟩
  refine Pf.run (X := fun _ _ _ _ => False) (oc := .rt (.int (goalF ns n))) sm dv rfl ?_ q
  have cell : ∀ {env : List SV} {te : TE} {k : Int}, 0 ≤ k → env[0]? = some (.dat (.list (ns.map .int))) → Ev K te env (.int k) → Ev K (tCallS (spG K R_cell) (fun _ => E0) (tCons (tVar 0) (tCons te tNil))) env (.int (cellAt ns k)) := fun h0 h1 h2 => ev_call (ea_cons (ev_var h1) (ea_cons h2 ea_nil)) ⟨ns, _, h0, rfl, rfl⟩
  have n0 : 0 < n := by have := hn.1; omega
  refine sx_seq (sx_set (cell (by decide) rfl (ev_c rfl))) ?_
  unfold goalF
  have hsz := hn.2.1
  have h60 := hn.1
  generalize cellAt ns 0 = f at hsz
  refine sx_when (b := decide (f % 12 = 10) && decide (cellAt ns 2 % 2 = 1)) (et_and (et_test (ev_eqI (ev_I (ev_var rfl) (ev_c rfl) (by decide) rfl) (ev_c rfl))) fun _ => et_test (ev_eqI (ev_I (cell (by decide) rfl (ev_c rfl)) (ev_c rfl) (by decide) rfl) (ev_c rfl))) (fun z => ?_) (fun _ => rfl) fun z => ?_
  · rw [Bool.and_eq_true, decide_eq_true_eq, decide_eq_true_eq] at z
    rw [if_pos z]
    exact sx_ret (ev_I0 (ev_var rfl) (ev_c rfl) rfl)
  have z' : ¬ (f % 12 = 10 ∧ cellAt ns 2 % 2 = 1) := fun y => by
    rw [decide_eq_true y.1, decide_eq_true y.2] at z; cases z
  rw [if_neg z']
  refine sx_when (b := decide (f % 12 = 6 ∨ f % 12 = 8) && decide (0 < cellAt ns 2 % 4)) (et_and ((et_test (ev_inT (ds := [.int 6, .int 8]) (ev_I (ev_var rfl) (ev_c rfl) (by decide) rfl) (ev_tup (ea_cons (ev_c rfl) (ea_cons (ev_c rfl) ea_nil)) (Nat.le_of_ble_eq_true rfl)) rfl rfl)).is (any2 _ _ _)) fun _ => et_test (ev_I0 (ev_I (cell (by decide) rfl (ev_c rfl)) (ev_c rfl) (by decide) rfl) (ev_c rfl) rfl)) (fun y => ?_) (fun _ => rfl) fun y => ?_
  · rw [Bool.and_eq_true, decide_eq_true_eq, decide_eq_true_eq] at y
    rw [if_pos y]
    have big := hsz y.1
    exact sx_ret (ev_I (ev_I (ev_I0 (ev_var rfl) (ev_c rfl) rfl) (ev_I0 (ev_c rfl) (ev_I (ev_call (ea_cons (ev_var rfl) (ea_cons (ev_c rfl) ea_nil)) ⟨f, 0, rfl, rfl⟩) (ev_I0 (ev_var rfl) (ev_c rfl) rfl) (by show (0 : Int) < n - 1; omega) rfl) rfl) (cm0 (by omega)) rfl) (ev_var rfl) n0 rfl)
  · have y' : ¬ ((f % 12 = 6 ∨ f % 12 = 8) ∧ 0 < cellAt ns 2 % 4) := fun x => by
      rw [decide_eq_true x.1, decide_eq_true x.2] at y; cases y
    rw [if_neg y']
    exact sx_ret (ev_I (cell (by decide) rfl (ev_c rfl)) (ev_var rfl) n0 rfl)
theorem least_ex {m : Maze} (hm : okMaze m) {s : Int} (hs : inRoom m.n s) {g : Int} (hg : g ∈ comeR m s) : ∃ w, IsLeast m s g w := by
  obtain ⟨t, _, ⟨e, h1, h2⟩, h3⟩ := goal_lay hm hs hg
  obtain ⟨k, hk⟩ := List.getElem?_of_mem h1
  obtain ⟨j, j1, ⟨f, j2, j3⟩, j4⟩ := least_nat (p := fun j => ∃ f, (layP m s t).2[j]? = some f ∧ f.1.1 = g) k ⟨e, hk, h2⟩
  refine ⟨f.2, t, ⟨f, List.mem_of_getElem? j2, j3, rfl⟩, h3, fun x hx hgx => ?_⟩
  obtain ⟨i, hi⟩ := List.getElem?_of_mem hx
  have ij : j ≤ i := Nat.le_of_not_lt fun z => j4 i z ⟨x, hi, hgx⟩
  by_cases c : i = j
  · subst c; rw [hi] at j2; rw [Option.some.inj j2]; exact List.le_refl _
  · have jl := (List.getElem?_eq_some_iff.mp j2).1
    have il := (List.getElem?_eq_some_iff.mp hi).1
    have := List.pairwise_iff_getElem.mp (layOk m s t).up j i jl il (by omega)
    rw [(List.getElem?_eq_some_iff.mp j2).2, (List.getElem?_eq_some_iff.mp hi).2] at this
    exact ll_of_lt this
theorem least_head {m : Maze} {s g : Int} {w : List Int} (h : IsLeast m s g w) : ∃ t, w = s :: t := by
  obtain ⟨t, ⟨e, h1, h2, h3⟩, _⟩ := h
  have := ((layOk m s t).wk e h1).2.1
  rw [h3] at this
  cases w with
  | nil => cases this
  | cons a b => exact ⟨b, by rw [Option.some.inj this]⟩
def spLaw (K : PySem.W.Frag) : Sp := fun vs H Q _ => ∃ (a : Addr) (ns : List Int), vs = [.ref a] ∧ SqL K H a (ns.map V.int) ∧ ns.length ≤ 63 ∧ ∀ H', Q (.bl true) H'
theorem cleans_ints : ∀ l : List Int, cleans (l.map .int) = true
  | [] => by simp [cleans]
  | x :: t => by
    have := cleans_ints t
    simp [cleans, clean] at this ⊢
    exact this
theorem ok_law (T : Txt K mg A) : FnOk P w K mg base CX0 7 A.a_law A.d_law ["_law_script"] (spLaw K) := by
  refine T.f_law.ok sc_law (fun vs H Q E h => ?_) (fun cdv Ar outer s H vs Q E hr h => ?_)
  · obtain ⟨a, ns, rfl, _⟩ := h; rfl
  obtain ⟨a, ns, rfl, hS, hlen, q⟩ := h
  have dv : DpAll K H [.ref a] [.list (ns.map .int)] := .cons (.lst hS (dpa_of_ints ns)) .nil
  refine ⟨_, (pss_cons (ps_set (i := 1) sc_law.nd rfl (.inl rfl) (pe_callS (E := fun _ => E0) (ok_l_size T) (hr.mono (by decide)) rfl T.g_l_size T.f_l_size.kp (b_l_size T) (fun σ => pass0S) (pa_cons (pv 0) pa_nil)))
      (pss_cons (ps_set (i := 2) sc_law.nd rfl (.inl rfl) (pe_callS (E := fun _ => E0) (ok_l_doors T) (hr.mono (by decide)) rfl T.g_l_doors T.f_l_doors.kp (b_l_doors T) (fun σ => pass0S) (pa_cons (pv 0) (pa_cons (pv 1) pa_nil))))
      (pss_cons (ps_set (i := 3) sc_law.nd rfl (.inl rfl) (pe_callS (E := fun _ => E0) (ok_l_lying T) (hr.mono (by decide)) rfl T.g_l_lying T.f_l_lying.kp (b_l_lying T) (fun σ => pass0S) (pa_cons (pv 0) (pa_cons (pv 1) pa_nil))))
      (pss_cons (ps_set (i := 4) sc_law.nd rfl (.inl rfl) (pe_op op_mod (pe_callS (E := fun _ => E0) (ok_l_cell_at T) (hr.mono (by decide)) rfl T.g_l_cell_at T.f_l_cell_at.kp (b_l_cell_at T) (fun σ => pass0S) (pa_cons (pv 0) (pa_cons pe_int pa_nil))) (pv 1)))
      (pss_cons (ps_set (i := 5) sc_law.nd rfl (.inl rfl) (pe_callS (E := fun _ => E0) (ok_l_goal T) (hr.mono (by decide)) rfl T.g_l_goal T.f_l_goal.kp (b_l_goal T) (fun σ => pass0S) (pa_cons (pv 0) (pa_cons (pv 1) pa_nil))))
      (pss_cons (ps_if (PW.pt (pw_and (pt_cmpR (r := rIn K false) (by exact op_in_seq) (pe_op op_mod (pe_callS (E := fun _ => E0) (ok_l_cell_at T) (hr.mono (by decide)) rfl T.g_l_cell_at T.f_l_cell_at.kp (b_l_cell_at T) (fun σ => pass0S) (pa_cons (pv 0) (pa_cons pe_int pa_nil))) pe_int) (pe_tup (pa_cons pe_int (pa_cons pe_int pa_nil))) (by rfl)) (pw_and1 (pt_cmpR op_gt (pe_op op_mod (pe_callS (E := fun _ => E0) (ok_l_cell_at T) (hr.mono (by decide)) rfl T.g_l_cell_at T.f_l_cell_at.kp (b_l_cell_at T) (fun σ => pass0S) (pa_cons (pv 0) (pa_cons pe_int pa_nil))) pe_int) pe_int (nomark _))))) (pss_one (ps_set (i := 4) sc_law.nd rfl (.inl rfl) pe_int)) pss_nil)
      (pss_cons (ps_if (pt_cmpR op_eq (pe_op op_mod (pe_callS (E := fun _ => E0) (ok_l_cell_at T) (hr.mono (by decide)) rfl T.g_l_cell_at T.f_l_cell_at.kp (b_l_cell_at T) (fun σ => pass0S) (pa_cons (pv 0) (pa_cons pe_int pa_nil))) pe_int) pe_int (nomark _)) (pss_cons (ps_try_only rfl rfl ⟨rfl, by decide, .inl T.g_NoRoom⟩ takes0
        (fun W pn xe tk _ => (pss_cons (ps_set (i := 6) sc_law.nd rfl (.inl rfl) (pe_callS (E := fun _ => E0) (ok_l_far T) (hr.mono (by decide)) rfl T.g_l_far T.f_l_far.kp (b_l_far T) (fun σ => pass0S) (pa_cons (pe_callS (E := fun _ => E0) (ok_l_cell_at T) (hr.mono (by decide)) rfl T.g_l_cell_at T.f_l_cell_at.kp (b_l_cell_at T) (fun σ => pass0S) (pa_cons (pv 0) (pa_cons pe_int pa_nil))) (pa_cons (pv 1) pa_nil))))
      (pss_cons (ps_if (pt_cmpR op_eq (pe_op op_mod (pe_callS (E := fun _ => E0) (ok_l_cell_at T) (hr.mono (by decide)) rfl T.g_l_cell_at T.f_l_cell_at.kp (b_l_cell_at T) (fun σ => pass0S) (pa_cons (pv 0) (pa_cons pe_int pa_nil))) pe_int) pe_int (nomark _)) (pss_one (ps_set (i := 4) sc_law.nd rfl (.inl rfl) (pv 6))) pss_nil)
      (pss_one (ps_expr (pe_callS (ok_guide T) (hr.mono (by decide)) rfl T.g_guide T.f_guide.kp (b_guide T) (fun σ => passAt tk σ) (pa_cons (pe_tup (pa_cons (pv 1) (pa_cons (pv 2) (pa_cons (pv 3) pa_nil)))) (pa_cons (pv 4) (pa_cons (pe_ix (r := rIxL K) (by exact ix_list) (pe_lst (pa_cons (pv 6) (pa_cons (pv 5) pa_nil))) (pe_op op_mod (pe_callS (E := fun _ => E0) (ok_l_cell_at T) (hr.mono (by decide)) rfl T.g_l_cell_at T.f_l_cell_at.kp (b_l_cell_at T) (fun σ => pass0S) (pa_cons (pv 0) (pa_cons pe_int pa_nil))) pe_int) (fun _ _ => rfl)) pa_nil)))))))))
        (fun a oe cls d pn hz hf => (pss_one (ps_ret pe_bl))))
      (pss_one (ps_ret pe_bl))) pss_nil)
      (pss_cons (ps_set (i := 7) sc_law.nd rfl (.inl rfl) (pe_callS (ok_guide T) (hr.mono (by decide)) rfl T.g_guide T.f_guide.kp (b_guide T) (fun σ => passAt takes0 σ) (pa_cons (pe_tup (pa_cons (pv 1) (pa_cons (pe_callTy call_list_of (by rfl) T.u_list (by decide +kernel) (pa_cons (pv 2) pa_nil)) (pa_cons (pe_callTy call_list_of (by rfl) T.u_list (by decide +kernel) (pa_cons (pv 3) pa_nil)) pa_nil)))) (pa_cons (pv 4) (pa_cons (pv 5) pa_nil)))))
      (pss_cons (ps_set (i := 8) sc_law.nd rfl (.inl rfl) (pe_callS (E := fun _ => E0) (ok_l_due T) (hr.mono (by decide)) rfl T.g_l_due T.f_l_due.kp (b_l_due T) (fun σ => pass0S) (pa_cons (pv 2) (pa_cons (pv 3) (pa_cons (pv 1) (pa_cons (pv 4) (pa_cons (pv 5) pa_nil)))))))
      (pss_cons (ps_if (PW.pt (pw_or (pt_not (pt_val (pe_callB (r := rIsi K) (by exact call_isi) (by rfl) T.u_isinstance (by decide +kernel) (pa_cons (pv 7) (pa_cons (pe_bltn (v := .ty "tuple") (by rfl) T.u_tuple (by decide +kernel) rfl) pa_nil))))) (pw_or1 (pt_cmpR op_lt (pe_callB call_len_seq (by rfl) T.u_len (by decide +kernel) (pa_cons (pv 7) pa_nil)) pe_int (nomark _))))) (pss_one (ps_ret pe_bl)) pss_nil)
      (pss_cons (ps_if (pt_cmpR op_isN (pv 8) pe_non (nomark _)) (pss_one (ps_set (i := 9) sc_law.nd rfl (.inl rfl) (pe_callS (E := fun _ => E0) (ok_l_shut T) (hr.mono (by decide)) rfl T.g_l_shut T.f_l_shut.kp (b_l_shut T) (fun σ => pass0S) (pa_cons (pv 7) (pa_cons (pv 2) (pa_cons (pv 3) (pa_cons (pv 4) pa_nil))))))) (pss_one (ps_set (i := 9) sc_law.nd rfl (.inl rfl) (pe_and (pe_cmpR op_eq (pe_ix (r := rIxT K) (by exact ix_tup) (pv 7) pe_int (fun _ _ => rfl)) pe_str (nomark _)) (pe_one (pe_callS (E := fun _ => E0) (ok_l_row T) (hr.mono (by decide)) rfl T.g_l_row T.f_l_row.kp (b_l_row T) (fun σ => pass0S) (pa_cons (pe_ix (r := rIxT K) (by exact ix_tup) (pv 7) pe_int (fun _ _ => rfl)) (pa_cons (pv 8) pa_nil))))))))
      (pss_cons (ps_if (pt_not (pt_val (pv 9))) (pss_one (ps_ret pe_bl)) pss_nil)
      (pss_cons (ps_set (i := 10) sc_law.nd rfl (.inl rfl) (pe_callTy call_list_of (by rfl) T.u_list (by decide +kernel) (pa_cons (pe_ix (r := rIxT K) (by exact ix_tup) (pv 7) pe_int (fun _ _ => rfl)) pa_nil)))
      (pss_cons (ps_expr (pe_bm0 PySem.F.plainAttrs_list PySem.F.slot_list_clear PySem.F.type_list_clear mt_clear (pe_ix (r := rIxT K) (by exact ix_tup) (pv 7) pe_int (fun _ _ => rfl))))
      (pss_one (ps_ret (pe_cmpR (r := rEqD K) (by exact (op_eqD hr.units)) (pe_ix (r := rIxT K) (by exact ix_tup) (pe_callS (ok_guide T) (hr.mono (by decide)) rfl T.g_guide T.f_guide.kp (b_guide T) (fun σ => passAt takes0 σ) (pa_cons (pe_tup (pa_cons (pv 1) (pa_cons (pe_callTy call_list_of (by rfl) T.u_list (by decide +kernel) (pa_cons (pv 2) pa_nil)) (pa_cons (pe_callTy call_list_of (by rfl) T.u_list (by decide +kernel) (pa_cons (pv 3) pa_nil)) pa_nil)))) (pa_cons (pv 4) (pa_cons (pv 5) pa_nil)))) pe_int (fun _ _ => rfl)) (pv 10) (nomark _)))))))))))))))))), ?_⟩
  refine Pf.runN (X := fun _ _ _ _ => False) (P := fun oc => oc = .rt (.bool true) ∨ oc = .rb) (Same.refl H) dv rfl ?_ (fun oc e => by
    rcases e with rfl | rfl
    · exact fun v G H2 f d => by cases d; exact q H2
    · exact fun H2 => q H2)
  have fin : ∀ oc : Oc, (oc = .rt (.bool true) ∨ oc = .rb) → oc.isNx = false := fun oc e => by rcases e with rfl | rfl <;> rfl
  have cell : ∀ {env : List SV} {te : TE} {k : Int}, 0 ≤ k → env[0]? = some (.dat (.list (ns.map .int))) → Ev K te env (.int k) → Ev K (tCallS (spG K R_cell) (fun _ => E0) (tCons (tVar 0) (tCons te tNil))) env (.int (cellAt ns k)) := fun h0 h1 h2 => ev_call (ea_cons (ev_var h1) (ea_cons h2 ea_nil)) ⟨ns, _, h0, rfl, rfl⟩
  -- the maze
  refine sn_seq (sn_setD (ea_cons (ev_var rfl) ea_nil) ⟨ns, rfl⟩) fun e ⟨d, ⟨ns', n, e1, hn, ed⟩, he⟩ => ?_
  have e2 : ns = ns' := map_inj (fun _ _ e => PyData.int.inj e) (PyData.list.inj (List.cons.inj e1).1)
  subst e2 ed he
  have n0 : 0 < n := by have := hn.1; omega
  refine sn_seq (sn_setN (ea_cons (ev_var rfl) (ea_cons (ev_var rfl) ea_nil)) ⟨ns, n, hlen, hn, rfl⟩) fun e ⟨xs, ⟨n', L, e1, hL, exs⟩, he⟩ => ?_
  obtain rfl : n = n' := PyData.int.inj (Option.some.inj e1)
  subst exs he
  refine sn_seq (sn_setN (ea_cons (ev_var rfl) (ea_cons (ev_var rfl) ea_nil)) ⟨ns, n, hlen, hn, rfl⟩) fun e ⟨xs, ⟨n', Ks, e1, hK, exs⟩, he⟩ => ?_
  obtain rfl : n = n' := PyData.int.inj (Option.some.inj e1)
  subst exs he
  refine sn_fix 2 rfl (sn_fix 3 rfl ?_)
  refine sn_seq1 (sx_set (ev_I (cell (by decide) rfl (ev_c rfl)) (ev_var rfl) n0 rfl)) ?_
  refine sn_seq1 (sx_set (ev_call (ea_cons (ev_var rfl) (ea_cons (ev_var rfl) ea_nil)) ⟨ns, n, hn, rfl, rfl⟩)) ?_
  have hg := goalF_room hn
  generalize goalF ns n = g at hg
  have hk : okKeys Ks := ⟨hK.1, fun k hk => (hK.2 k hk).2⟩
  have hm : okMaze ⟨n, L, Ks⟩ := ⟨hk, Nat.le_trans hL.1 (by decide), fun d hd => ⟨(hL.2 d hd).1, (hL.2 d hd).2.1⟩⟩
  have h60 : n ≤ 60 := hn.1.2
  obtain ⟨r, er, hr0⟩ : ∃ r, r = (if (decide (cellAt ns 0 % 12 = 6 ∨ cellAt ns 0 % 12 = 8) && decide (0 < cellAt ns 2 % 4)) = true then 0 else cellAt ns 1 % n) ∧ inRoom n r := ⟨_, rfl, by
    split
    · exact ⟨Int.le_refl _, n0⟩
    · exact room_mod n0⟩
  refine sn_seq1 (env1 := [.dat (.list (ns.map .int)), .dat (.int n), .dat (.list (L.map doorD)), .dat (.list (Ks.map keyD)), .dat (.int r), .dat (.int g), .no, .no, .no, .no, .no]) (sx_if (b := decide (cellAt ns 0 % 12 = 6 ∨ cellAt ns 0 % 12 = 8) && decide (0 < cellAt ns 2 % 4)) (et_and ((et_test (ev_inT (ds := [.int 6, .int 8]) (ev_I (cell (by decide) rfl (ev_c rfl)) (ev_c rfl) (by decide) rfl) (ev_tup (ea_cons (ev_c rfl) (ea_cons (ev_c rfl) ea_nil)) (Nat.le_of_ble_eq_true rfl)) rfl rfl)).is (any2 _ _ _)) fun _ => et_test (ev_I0 (ev_I (cell (by decide) rfl (ev_c rfl)) (ev_c rfl) (by decide) rfl) (ev_c rfl) rfl)) (fun z => ?_) fun z => ?_) ?_
  · rw [er, if_pos z]
    exact sx_set (ev_c (d := .int 0) rfl)
  · rw [er, if_neg (by rw [z]; decide)]
    exact sx_next
  have mz : ∀ {env : List SV}, env[1]? = some (.dat (.int n)) → env[2]? = some (.dat (.list (L.map doorD))) → env[3]? = some (.dat (.list (Ks.map keyD))) → Ev K (tTup (tCons (tVar 1) (tCons (tCB (fun xs H Q => ∃ p ys, xs = [.ref p] ∧ (SqL K H p ys ∨ SqT K H p ys) ∧ ∀ l, H l = none → Q (.ref l) (upd H l (.lst ys))) (tCons (tVar 2) tNil)) (tCons (tCB (fun xs H Q => ∃ p ys, xs = [.ref p] ∧ (SqL K H p ys ∨ SqT K H p ys) ∧ ∀ l, H l = none → Q (.ref l) (upd H l (.lst ys))) (tCons (tVar 3) tNil)) tNil)))) env (mazeD ⟨n, L, Ks⟩) := fun h1 h2 h3 => ev_tup (ea_cons (ev_var h1) (ea_cons (EvO.ev (eo_list (ev_var h2))) (ea_cons (EvO.ev (eo_list (ev_var h3))) ea_nil))) (Nat.le_of_ble_eq_true rfl)
  refine sn_when (b := decide (cellAt ns 2 % 12 = 11)) (et_test (ev_eqI (ev_I (cell (by decide) rfl (ev_c rfl)) (ev_c rfl) (by decide) rfl) (ev_c rfl))) (fun _ => ?_) fin (fun _ => ?_)
  · -- a room that there is not
    have far := farC_bad (c := cellAt ns 2) n0
    have excl := exm_of T.b_NoRoom T.i_NoRoom T.t_NoRoom T.s_NoRoom_NoRoom
    refine sn_of (sx_end (oc := .rt (.bool true)) ?_ rfl) (.inl rfl)
    have pick : ∀ {env : List SV} {y : Int}, env[0]? = some (.dat (.list (ns.map .int))) → env[6]? = some (.dat (.int (farC (cellAt ns 2) n))) → env[5]? = some (.dat (.int g)) → (if cellAt ns 1 % 2 = 1 then g else farC (cellAt ns 2) n) = y → Ev K (tOp (rIxL K) (tLst (tCons (tVar 6) (tCons (tVar 5) tNil))) (tOp (rI (fun _ j => 0 < j) fun i j => .int (i % j)) (tCallS (spG K R_cell) (fun _ => E0) (tCons (tVar 0) (tCons (tC (.int 1)) tNil))) (tC (.int 2)))) env (.int y) := fun {env y} h0 h6 h5 hy => by
      refine ev_ixL (ds := [.int (farC (cellAt ns 2) n), .int g]) (ev_lst (ea_cons (ev_var h6) (ea_cons (ev_var h5) ea_nil)) (Nat.le_of_ble_eq_true rfl)) (ev_I (cell (by decide) h0 (ev_c rfl)) (ev_c rfl) (by decide) rfl) ?_
      have hq := Int.emod_nonneg (cellAt ns 1) (b := 2) (by decide)
      have hq2 := Int.emod_lt_of_pos (cellAt ns 1) (b := 2) (by decide)
      rw [← hy]
      by_cases c : cellAt ns 1 % 2 = 1
      · rw [c, if_pos rfl]; rfl
      · have : cellAt ns 1 % 2 = 0 := by omega
        rw [this, if_neg (by decide)]; rfl
    by_cases c : cellAt ns 1 % 2 = 1
    · exact sx_try_ex (c := .ref A.c_NoRoom) (fun X' => sx_seq (sx_set (ev_call (ea_cons (cell (by decide) rfl (ev_c rfl)) (ea_cons (ev_var rfl) ea_nil)) ⟨_, n, rfl, rfl⟩)) (sx_seq (sx_yes (EvT.is (et_test (ev_eqI (ev_I (cell (by decide) rfl (ev_c rfl)) (ev_c rfl) (by decide) rfl) (ev_c rfl))) (decide_eq_true c)) (sx_set (ev_var (i := 6) rfl))) (sx_outD (evx_callGd (ea_cons (ev_tup (ea_cons (ev_var rfl) (ea_cons (ev_var rfl) (ea_cons (ev_var rfl) ea_nil))) (Nat.le_of_ble_eq_true rfl)) (ea_cons (ev_var rfl) (ea_cons (pick (y := g) rfl rfl rfl (if_pos c)) ea_nil))) ⟨⟨n, L, Ks⟩, farC (cellAt ns 2) n, g, ⟨hm, h60, .inl far⟩, rfl, rfl⟩)))) excl fun a => sx_ret (ev_c rfl)
    · exact sx_try_ex (c := .ref A.c_NoRoom) (fun X' => sx_seq (sx_set (ev_call (ea_cons (cell (by decide) rfl (ev_c rfl)) (ea_cons (ev_var rfl) ea_nil)) ⟨_, n, rfl, rfl⟩)) (sx_seq (sx_no (EvT.is (et_test (ev_eqI (ev_I (cell (by decide) rfl (ev_c rfl)) (ev_c rfl) (by decide) rfl) (ev_c rfl))) (decide_eq_false c)) sx_next) (sx_outD (evx_callGd (ea_cons (ev_tup (ea_cons (ev_var rfl) (ea_cons (ev_var rfl) (ea_cons (ev_var rfl) ea_nil))) (Nat.le_of_ble_eq_true rfl)) (ea_cons (ev_var rfl) (ea_cons (pick (y := farC (cellAt ns 2) n) rfl rfl rfl (if_neg c)) ea_nil))) ⟨⟨n, L, Ks⟩, r, farC (cellAt ns 2) n, ⟨hm, h60, .inr far⟩, rfl, rfl⟩)))) excl fun a => sx_ret (ev_c rfl)
  -- the answer
  obtain ⟨k, w0, rs, du, hR, hdue, ⟨j0, ys, hw⟩, hcase⟩ : ∃ (k : Str) (w0 : List Int) (rs : List PyData) (du : PyData), R_guide [mazeD ⟨n, L, Ks⟩, .int r, .int g] (k, w0.map .int, rs) ∧ R_ldue [.list (L.map doorD), .list (Ks.map keyD), .int n, .int r, .int g] du ∧ (∃ j ys, w0 = j :: ys) ∧ ((du = .none ∧ k = shutS ∧ w0 = comeR ⟨n, L, Ks⟩ r ∧ rs = [handD (keysAmong Ks (comeR ⟨n, L, Ks⟩ r))]) ∨ (du = intsD w0 ∧ k = walkS ∧ rs = [])) := by
    by_cases hin : g ∈ comeR ⟨n, L, Ks⟩ r
    · obtain ⟨w0, hw⟩ := least_ex hm hr0 hin
      obtain ⟨t, ht⟩ := least_head hw
      exact ⟨walkS, w0, [], intsD w0, ⟨⟨n, L, Ks⟩, r, g, ⟨hm, hr0, hg, h60⟩, rfl, .inl ⟨w0, hin, hw, rfl⟩⟩, ⟨⟨n, L, Ks⟩, r, g, ⟨hm, hr0, h60⟩, rfl, .inl ⟨w0, hin, hw, rfl⟩⟩, ⟨r, t, ht⟩, .inr ⟨rfl, rfl, rfl⟩⟩
    · obtain ⟨_, _, ⟨t, ht⟩, _⟩ := comeR_is hm hr0
      exact ⟨shutS, comeR ⟨n, L, Ks⟩ r, [handD (keysAmong Ks (comeR ⟨n, L, Ks⟩ r))], .none, ⟨⟨n, L, Ks⟩, r, g, ⟨hm, hr0, hg, h60⟩, rfl, .inr ⟨hin, rfl⟩⟩, ⟨⟨n, L, Ks⟩, r, g, ⟨hm, hr0, h60⟩, rfl, .inr ⟨hin, rfl⟩⟩, ⟨r, t, ht⟩, .inl ⟨rfl, rfl, rfl, rfl⟩⟩
  have args : ∀ {env : List SV}, env[1]? = some (.dat (.int n)) → env[2]? = some (.dat (.list (L.map doorD))) → env[3]? = some (.dat (.list (Ks.map keyD))) → env[4]? = some (.dat (.int r)) → env[5]? = some (.dat (.int g)) → EvA K _ env [mazeD ⟨n, L, Ks⟩, .int r, .int g] := fun h1 h2 h3 h4 h5 => ea_cons (mz h1 h2 h3) (ea_cons (ev_var h4) (ea_cons (ev_var h5) ea_nil))
  refine sn_seq1 (sx_setGd (args rfl rfl rfl rfl rfl) hR) ?_
  refine sn_seq1 (sx_set (ev_call (ea_cons (ev_var rfl) (ea_cons (ev_var rfl) (ea_cons (ev_var rfl) (ea_cons (ev_var rfl) (ea_cons (ev_var rfl) ea_nil))))) hdue)) ?_
  have tl : (((PyData.str k :: .list (w0.map .int) :: rs).length : Int) < 2) ↔ False := ⟨fun z => by rw [List.length_cons, List.length_cons] at z; omega, False.elim⟩
  refine sn_when (b := false) (EvT.is (b := !true || decide (((PyData.str k :: .list (w0.map .int) :: rs).length : Int) < 2)) (et_or (et_not (et_B (ev_isi (n := "tuple") (ev_kpg (i := 7) rfl) (kit_ty (by decide +kernel))))) fun _ => et_test (ev_I0 (ev_lenT (ev_kpg (i := 7) rfl)) (ev_c rfl) rfl)) (by rw [decide_eq_false (fun z => tl.mp z)]; rfl)) (fun z => nomatch z) fin (fun _ => ?_)
  have at0 : atI (PyData.str k :: .list (w0.map .int) :: rs) 0 = some (.str k) := atI_int (by decide) rfl
  have at1 : atI (PyData.str k :: .list (w0.map .int) :: rs) 1 = some (intsD w0) := atI_int (by decide) rfl
  refine sn_seq1 (env1 := [.dat (.list (ns.map .int)), .dat (.int n), .dat (.list (L.map doorD)), .dat (.list (Ks.map keyD)), .dat (.int r), .dat (.int g), .no, .kpg k (w0.map .int) rs, .dat du, .dat (.bool true), .no]) (sx_if (b := isN du) (et_test (ev_isN (ev_var (i := 8) rfl))) (fun z => ?_) fun z => ?_) ?_
  · rcases hcase with ⟨rfl, rfl, e1, e2⟩ | ⟨rfl, _⟩
    · exact sx_set (ev_call (ea_cons (ev_kpg (i := 7) rfl) (ea_cons (ev_var rfl) (ea_cons (ev_var rfl) (ea_cons (ev_var rfl) ea_nil)))) ⟨⟨n, L, Ks⟩, r, ⟨hm, hr0, h60⟩, by rw [e1, e2]; rfl, rfl⟩)
    · cases z
  · rcases hcase with ⟨rfl, _⟩ | ⟨rfl, rfl, rfl⟩
    · cases z
    · refine sx_set ((ev_andV (a := decide (walkS = walkS)) (b := decide (w0 = w0)) (ev_eqS (ev_ixT (ev_kpg (i := 7) rfl) (ev_c rfl) at0) (ev_c (d := .str walkS) rfl)) fun _ => ev_call (ea_cons (ev_ixT (ev_kpg (i := 7) rfl) (ev_c rfl) at1) (ea_cons (ev_var rfl) ea_nil)) ⟨w0, w0, rfl, rfl⟩).is ?_)
      rw [decide_eq_true rfl, decide_eq_true rfl]; rfl
  refine sn_when (b := false) (EvT.is (b := !true) (et_not (et_B (ev_var rfl))) rfl) (fun z => nomatch z) fin (fun _ => ?_)
  refine sn_seq1 (sx_setO (xs := w0.map .int) (eo_list (ev_ixT (ev_kpg (i := 7) rfl) (ev_c rfl) at1))) ?_
  subst hw
  refine sn_of (sx_clearG (i := 7) (j := j0) (ys := ys.map .int) (env' := [.no, .dat (.int n), .dat (.list (L.map doorD)), .dat (.list (Ks.map keyD)), .dat (.int r), .dat (.int g), .no, .no, .no, .no, .own ((j0 :: ys).map .int)]) rfl ?_ ?_) (.inr rfl)
  · exact .no (.dat (by simp [clean]) (.dat (clean_doors L) (.dat (clean_keys Ks) (.dat (by simp [clean]) (.dat (by simp [clean]) (.no (.no (.no (.no (.own (cleans_ints (j0 :: ys)) .nil))))))))))
  · refine sx_fix 10 rfl ?_
    refine sx_retB ((ev_eqD (d := intsD (j0 :: ys)) (e := intsD (j0 :: ys)) (ev_ixT (ev_callGd (args rfl rfl rfl rfl rfl) hR) (ev_c rfl) at1) (ev_var rfl) ((sh_intsD _).shaped (by decide)) ((sh_intsD _).shaped (by decide))).is ?_)
    rw [eqv_dec (sh_intsD _) (sh_intsD _) (p := True) ⟨fun _ => rfl, fun _ => trivial⟩]; rfl

end
theorem all_mk {l : PySem.W.OpenLaw} {w : World} {K : PySem.W.Frag} {h : Heap} {mg : PySem.Str → Option Value} {fa : Addr} (X : K.In h) (G : h.Ns mainGlobals mg) (hfa : mg "law" = some (.ref fa))
    {ad_need_room : Addr} {od_need_room an_need_room : Option Addr} {sl_need_room : Array (Option Value)} {oc_need_room kV_need_room dc_need_room pm_need_room cd_need_room ct_need_room : Value}
    {ad_keys_in : Addr} {od_keys_in an_keys_in : Option Addr} {sl_keys_in : Array (Option Value)} {oc_keys_in kV_keys_in dc_keys_in pm_keys_in cd_keys_in ct_keys_in : Value}
    {ad_keys_among : Addr} {od_keys_among an_keys_among : Option Addr} {sl_keys_among : Array (Option Value)} {oc_keys_among kV_keys_among dc_keys_among pm_keys_among cd_keys_among ct_keys_among : Value}
    {ad_taken : Addr} {od_taken an_taken : Option Addr} {sl_taken : Array (Option Value)} {oc_taken kV_taken dc_taken pm_taken cd_taken ct_taken : Value}
    {ad_opens : Addr} {od_opens an_opens : Option Addr} {sl_opens : Array (Option Value)} {oc_opens kV_opens dc_opens pm_opens cd_opens ct_opens : Value}
    {ad_steps : Addr} {od_steps an_steps : Option Addr} {sl_steps : Array (Option Value)} {oc_steps kV_steps dc_steps pm_steps cd_steps ct_steps : Value}
    {ad_far_end : Addr} {od_far_end an_far_end : Option Addr} {sl_far_end : Array (Option Value)} {oc_far_end kV_far_end dc_far_end pm_far_end cd_far_end ct_far_end : Value}
    {ad_come : Addr} {od_come an_come : Option Addr} {sl_come : Array (Option Value)} {oc_come kV_come dc_come pm_come cd_come ct_come : Value}
    {ad_ways_out : Addr} {od_ways_out an_ways_out : Option Addr} {sl_ways_out : Array (Option Value)} {oc_ways_out kV_ways_out dc_ways_out pm_ways_out cd_ways_out ct_ways_out : Value}
    {ad_guide : Addr} {od_guide an_guide : Option Addr} {sl_guide : Array (Option Value)} {oc_guide kV_guide dc_guide pm_guide cd_guide ct_guide : Value}
    {ad_least_walk : Addr} {od_least_walk an_least_walk : Option Addr} {sl_least_walk : Array (Option Value)} {oc_least_walk kV_least_walk dc_least_walk pm_least_walk cd_least_walk ct_least_walk : Value}
    {ad_l_mix : Addr} {od_l_mix an_l_mix : Option Addr} {sl_l_mix : Array (Option Value)} {oc_l_mix kV_l_mix dc_l_mix pm_l_mix cd_l_mix ct_l_mix : Value}
    {ad_l_whole : Addr} {od_l_whole an_l_whole : Option Addr} {sl_l_whole : Array (Option Value)} {oc_l_whole kV_l_whole dc_l_whole pm_l_whole cd_l_whole ct_l_whole : Value}
    {ad_l_cell_at : Addr} {od_l_cell_at an_l_cell_at : Option Addr} {sl_l_cell_at : Array (Option Value)} {oc_l_cell_at kV_l_cell_at dc_l_cell_at pm_l_cell_at cd_l_cell_at ct_l_cell_at : Value}
    {ad_l_size : Addr} {od_l_size an_l_size : Option Addr} {sl_l_size : Array (Option Value)} {oc_l_size kV_l_size dc_l_size pm_l_size cd_l_size ct_l_size : Value}
    {ad_l_lock : Addr} {od_l_lock an_l_lock : Option Addr} {sl_l_lock : Array (Option Value)} {oc_l_lock kV_l_lock dc_l_lock pm_l_lock cd_l_lock ct_l_lock : Value}
    {ad_l_rank : Addr} {od_l_rank an_l_rank : Option Addr} {sl_l_rank : Array (Option Value)} {oc_l_rank kV_l_rank dc_l_rank pm_l_rank cd_l_rank ct_l_rank : Value}
    {ad_l_ranks : Addr} {od_l_ranks an_l_ranks : Option Addr} {sl_l_ranks : Array (Option Value)} {oc_l_ranks kV_l_ranks dc_l_ranks pm_l_ranks cd_l_ranks ct_l_ranks : Value}
    {ad_l_many : Addr} {od_l_many an_l_many : Option Addr} {sl_l_many : Array (Option Value)} {oc_l_many kV_l_many dc_l_many pm_l_many cd_l_many ct_l_many : Value}
    {ad_l_mixed : Addr} {od_l_mixed an_l_mixed : Option Addr} {sl_l_mixed : Array (Option Value)} {oc_l_mixed kV_l_mixed dc_l_mixed pm_l_mixed cd_l_mixed ct_l_mixed : Value}
    {ad_l_built : Addr} {od_l_built an_l_built : Option Addr} {sl_l_built : Array (Option Value)} {oc_l_built kV_l_built dc_l_built pm_l_built cd_l_built ct_l_built : Value}
    {ad_l_doors : Addr} {od_l_doors an_l_doors : Option Addr} {sl_l_doors : Array (Option Value)} {oc_l_doors kV_l_doors dc_l_doors pm_l_doors cd_l_doors ct_l_doors : Value}
    {ad_l_lying : Addr} {od_l_lying an_l_lying : Option Addr} {sl_l_lying : Array (Option Value)} {oc_l_lying kV_l_lying dc_l_lying pm_l_lying cd_l_lying ct_l_lying : Value}
    {ad_l_taken : Addr} {od_l_taken an_l_taken : Option Addr} {sl_l_taken : Array (Option Value)} {oc_l_taken kV_l_taken dc_l_taken pm_l_taken cd_l_taken ct_l_taken : Value}
    {ad_l_steps : Addr} {od_l_steps an_l_steps : Option Addr} {sl_l_steps : Array (Option Value)} {oc_l_steps kV_l_steps dc_l_steps pm_l_steps cd_l_steps ct_l_steps : Value}
    {ad_l_hand : Addr} {od_l_hand an_l_hand : Option Addr} {sl_l_hand : Array (Option Value)} {oc_l_hand kV_l_hand dc_l_hand pm_l_hand cd_l_hand ct_l_hand : Value}
    {ad_l_row : Addr} {od_l_row an_l_row : Option Addr} {sl_l_row : Array (Option Value)} {oc_l_row kV_l_row dc_l_row pm_l_row cd_l_row ct_l_row : Value}
    {ad_l_due : Addr} {od_l_due an_l_due : Option Addr} {sl_l_due : Array (Option Value)} {oc_l_due kV_l_due dc_l_due pm_l_due cd_l_due ct_l_due : Value}
    {ad_l_rooms : Addr} {od_l_rooms an_l_rooms : Option Addr} {sl_l_rooms : Array (Option Value)} {oc_l_rooms kV_l_rooms dc_l_rooms pm_l_rooms cd_l_rooms ct_l_rooms : Value}
    {ad_l_shut : Addr} {od_l_shut an_l_shut : Option Addr} {sl_l_shut : Array (Option Value)} {oc_l_shut kV_l_shut dc_l_shut pm_l_shut cd_l_shut ct_l_shut : Value}
    {ad_l_goal : Addr} {od_l_goal an_l_goal : Option Addr} {sl_l_goal : Array (Option Value)} {oc_l_goal kV_l_goal dc_l_goal pm_l_goal cd_l_goal ct_l_goal : Value}
    {ad_l_far : Addr} {od_l_far an_l_far : Option Addr} {sl_l_far : Array (Option Value)} {oc_l_far kV_l_far dc_l_far pm_l_far cd_l_far ct_l_far : Value}
    {ad_law : Addr} {od_law an_law : Option Addr} {sl_law : Array (Option Value)} {oc_law kV_law dc_law pm_law cd_law ct_law : Value}
    {ac_MazeError : Addr}
    {ac_NoRoom : Addr}
    (a_need_room : PySem.W.nsIn K mainGlobals "need_room" = some (some (.ref ad_need_room)))
    (l_need_room : K.lookup ad_need_room = some ⟨oc_need_room, od_need_room, .func (PySem.W.fnOf "need_room" "need_room" (defArgs s_need_room) (defBody s_need_room) (defScope s_need_room) .none kV_need_room dc_need_room pm_need_room an_need_room cd_need_room ct_need_room), sl_need_room⟩)
    (c_need_room : PySem.W.codeIn K cd_need_room "need_room" = true)
    (k_need_room : PySem.W.keepIn K (.ref ad_need_room) = true)
    (a_keys_in : PySem.W.nsIn K mainGlobals "keys_in" = some (some (.ref ad_keys_in)))
    (l_keys_in : K.lookup ad_keys_in = some ⟨oc_keys_in, od_keys_in, .func (PySem.W.fnOf "keys_in" "keys_in" (defArgs s_keys_in) (defBody s_keys_in) (defScope s_keys_in) .none kV_keys_in dc_keys_in pm_keys_in an_keys_in cd_keys_in ct_keys_in), sl_keys_in⟩)
    (c_keys_in : PySem.W.codeIn K cd_keys_in "keys_in" = true)
    (k_keys_in : PySem.W.keepIn K (.ref ad_keys_in) = true)
    (a_keys_among : PySem.W.nsIn K mainGlobals "keys_among" = some (some (.ref ad_keys_among)))
    (l_keys_among : K.lookup ad_keys_among = some ⟨oc_keys_among, od_keys_among, .func (PySem.W.fnOf "keys_among" "keys_among" (defArgs s_keys_among) (defBody s_keys_among) (defScope s_keys_among) .none kV_keys_among dc_keys_among pm_keys_among an_keys_among cd_keys_among ct_keys_among), sl_keys_among⟩)
    (c_keys_among : PySem.W.codeIn K cd_keys_among "keys_among" = true)
    (k_keys_among : PySem.W.keepIn K (.ref ad_keys_among) = true)
    (a_taken : PySem.W.nsIn K mainGlobals "taken" = some (some (.ref ad_taken)))
    (l_taken : K.lookup ad_taken = some ⟨oc_taken, od_taken, .func (PySem.W.fnOf "taken" "taken" (defArgs s_taken) (defBody s_taken) (defScope s_taken) .none kV_taken dc_taken pm_taken an_taken cd_taken ct_taken), sl_taken⟩)
    (c_taken : PySem.W.codeIn K cd_taken "taken" = true)
    (k_taken : PySem.W.keepIn K (.ref ad_taken) = true)
    (a_opens : PySem.W.nsIn K mainGlobals "opens" = some (some (.ref ad_opens)))
    (l_opens : K.lookup ad_opens = some ⟨oc_opens, od_opens, .func (PySem.W.fnOf "opens" "opens" (defArgs s_opens) (defBody s_opens) (defScope s_opens) .none kV_opens dc_opens pm_opens an_opens cd_opens ct_opens), sl_opens⟩)
    (c_opens : PySem.W.codeIn K cd_opens "opens" = true)
    (k_opens : PySem.W.keepIn K (.ref ad_opens) = true)
    (a_steps : PySem.W.nsIn K mainGlobals "steps" = some (some (.ref ad_steps)))
    (l_steps : K.lookup ad_steps = some ⟨oc_steps, od_steps, .func (PySem.W.fnOf "steps" "steps" (defArgs s_steps) (defBody s_steps) (defScope s_steps) .none kV_steps dc_steps pm_steps an_steps cd_steps ct_steps), sl_steps⟩)
    (c_steps : PySem.W.codeIn K cd_steps "steps" = true)
    (k_steps : PySem.W.keepIn K (.ref ad_steps) = true)
    (a_far_end : PySem.W.nsIn K mainGlobals "far_end" = some (some (.ref ad_far_end)))
    (l_far_end : K.lookup ad_far_end = some ⟨oc_far_end, od_far_end, .func (PySem.W.fnOf "far_end" "far_end" (defArgs s_far_end) (defBody s_far_end) (defScope s_far_end) .none kV_far_end dc_far_end pm_far_end an_far_end cd_far_end ct_far_end), sl_far_end⟩)
    (c_far_end : PySem.W.codeIn K cd_far_end "far_end" = true)
    (k_far_end : PySem.W.keepIn K (.ref ad_far_end) = true)
    (a_come : PySem.W.nsIn K mainGlobals "come" = some (some (.ref ad_come)))
    (l_come : K.lookup ad_come = some ⟨oc_come, od_come, .func (PySem.W.fnOf "come" "come" (defArgs s_come) (defBody s_come) (defScope s_come) .none kV_come dc_come pm_come an_come cd_come ct_come), sl_come⟩)
    (c_come : PySem.W.codeIn K cd_come "come" = true)
    (k_come : PySem.W.keepIn K (.ref ad_come) = true)
    (a_ways_out : PySem.W.nsIn K mainGlobals "ways_out" = some (some (.ref ad_ways_out)))
    (l_ways_out : K.lookup ad_ways_out = some ⟨oc_ways_out, od_ways_out, .func (PySem.W.fnOf "ways_out" "ways_out" (defArgs s_ways_out) (defBody s_ways_out) (defScope s_ways_out) .none kV_ways_out dc_ways_out pm_ways_out an_ways_out cd_ways_out ct_ways_out), sl_ways_out⟩)
    (c_ways_out : PySem.W.codeIn K cd_ways_out "ways_out" = true)
    (k_ways_out : PySem.W.keepIn K (.ref ad_ways_out) = true)
    (a_guide : PySem.W.nsIn K mainGlobals "guide" = some (some (.ref ad_guide)))
    (l_guide : K.lookup ad_guide = some ⟨oc_guide, od_guide, .func (PySem.W.fnOf "guide" "guide" (defArgs s_guide) (defBody s_guide) (defScope s_guide) .none kV_guide dc_guide pm_guide an_guide cd_guide ct_guide), sl_guide⟩)
    (c_guide : PySem.W.codeIn K cd_guide "guide" = true)
    (k_guide : PySem.W.keepIn K (.ref ad_guide) = true)
    (a_least_walk : PySem.W.nsIn K mainGlobals "least_walk" = some (some (.ref ad_least_walk)))
    (l_least_walk : K.lookup ad_least_walk = some ⟨oc_least_walk, od_least_walk, .func (PySem.W.fnOf "least_walk" "least_walk" (defArgs s_least_walk) (defBody s_least_walk) (defScope s_least_walk) .none kV_least_walk dc_least_walk pm_least_walk an_least_walk cd_least_walk ct_least_walk), sl_least_walk⟩)
    (c_least_walk : PySem.W.codeIn K cd_least_walk "least_walk" = true)
    (k_least_walk : PySem.W.keepIn K (.ref ad_least_walk) = true)
    (a_l_mix : PySem.W.nsIn K mainGlobals "_law_mix" = some (some (.ref ad_l_mix)))
    (l_l_mix : K.lookup ad_l_mix = some ⟨oc_l_mix, od_l_mix, .func (PySem.W.fnOf "_law_mix" "_law_mix" (defArgs s_l_mix) (defBody s_l_mix) (defScope s_l_mix) .none kV_l_mix dc_l_mix pm_l_mix an_l_mix cd_l_mix ct_l_mix), sl_l_mix⟩)
    (c_l_mix : PySem.W.codeIn K cd_l_mix "_law_mix" = true)
    (k_l_mix : PySem.W.keepIn K (.ref ad_l_mix) = true)
    (a_l_whole : PySem.W.nsIn K mainGlobals "_law_whole" = some (some (.ref ad_l_whole)))
    (l_l_whole : K.lookup ad_l_whole = some ⟨oc_l_whole, od_l_whole, .func (PySem.W.fnOf "_law_whole" "_law_whole" (defArgs s_l_whole) (defBody s_l_whole) (defScope s_l_whole) .none kV_l_whole dc_l_whole pm_l_whole an_l_whole cd_l_whole ct_l_whole), sl_l_whole⟩)
    (c_l_whole : PySem.W.codeIn K cd_l_whole "_law_whole" = true)
    (k_l_whole : PySem.W.keepIn K (.ref ad_l_whole) = true)
    (a_l_cell_at : PySem.W.nsIn K mainGlobals "_law_cell_at" = some (some (.ref ad_l_cell_at)))
    (l_l_cell_at : K.lookup ad_l_cell_at = some ⟨oc_l_cell_at, od_l_cell_at, .func (PySem.W.fnOf "_law_cell_at" "_law_cell_at" (defArgs s_l_cell_at) (defBody s_l_cell_at) (defScope s_l_cell_at) .none kV_l_cell_at dc_l_cell_at pm_l_cell_at an_l_cell_at cd_l_cell_at ct_l_cell_at), sl_l_cell_at⟩)
    (c_l_cell_at : PySem.W.codeIn K cd_l_cell_at "_law_cell_at" = true)
    (k_l_cell_at : PySem.W.keepIn K (.ref ad_l_cell_at) = true)
    (a_l_size : PySem.W.nsIn K mainGlobals "_law_size" = some (some (.ref ad_l_size)))
    (l_l_size : K.lookup ad_l_size = some ⟨oc_l_size, od_l_size, .func (PySem.W.fnOf "_law_size" "_law_size" (defArgs s_l_size) (defBody s_l_size) (defScope s_l_size) .none kV_l_size dc_l_size pm_l_size an_l_size cd_l_size ct_l_size), sl_l_size⟩)
    (c_l_size : PySem.W.codeIn K cd_l_size "_law_size" = true)
    (k_l_size : PySem.W.keepIn K (.ref ad_l_size) = true)
    (a_l_lock : PySem.W.nsIn K mainGlobals "_law_lock" = some (some (.ref ad_l_lock)))
    (l_l_lock : K.lookup ad_l_lock = some ⟨oc_l_lock, od_l_lock, .func (PySem.W.fnOf "_law_lock" "_law_lock" (defArgs s_l_lock) (defBody s_l_lock) (defScope s_l_lock) .none kV_l_lock dc_l_lock pm_l_lock an_l_lock cd_l_lock ct_l_lock), sl_l_lock⟩)
    (c_l_lock : PySem.W.codeIn K cd_l_lock "_law_lock" = true)
    (k_l_lock : PySem.W.keepIn K (.ref ad_l_lock) = true)
    (a_l_rank : PySem.W.nsIn K mainGlobals "_law_rank" = some (some (.ref ad_l_rank)))
    (l_l_rank : K.lookup ad_l_rank = some ⟨oc_l_rank, od_l_rank, .func (PySem.W.fnOf "_law_rank" "_law_rank" (defArgs s_l_rank) (defBody s_l_rank) (defScope s_l_rank) .none kV_l_rank dc_l_rank pm_l_rank an_l_rank cd_l_rank ct_l_rank), sl_l_rank⟩)
    (c_l_rank : PySem.W.codeIn K cd_l_rank "_law_rank" = true)
    (k_l_rank : PySem.W.keepIn K (.ref ad_l_rank) = true)
    (a_l_ranks : PySem.W.nsIn K mainGlobals "_law_ranks" = some (some (.ref ad_l_ranks)))
    (l_l_ranks : K.lookup ad_l_ranks = some ⟨oc_l_ranks, od_l_ranks, .func (PySem.W.fnOf "_law_ranks" "_law_ranks" (defArgs s_l_ranks) (defBody s_l_ranks) (defScope s_l_ranks) .none kV_l_ranks dc_l_ranks pm_l_ranks an_l_ranks cd_l_ranks ct_l_ranks), sl_l_ranks⟩)
    (c_l_ranks : PySem.W.codeIn K cd_l_ranks "_law_ranks" = true)
    (k_l_ranks : PySem.W.keepIn K (.ref ad_l_ranks) = true)
    (a_l_many : PySem.W.nsIn K mainGlobals "_law_many" = some (some (.ref ad_l_many)))
    (l_l_many : K.lookup ad_l_many = some ⟨oc_l_many, od_l_many, .func (PySem.W.fnOf "_law_many" "_law_many" (defArgs s_l_many) (defBody s_l_many) (defScope s_l_many) .none kV_l_many dc_l_many pm_l_many an_l_many cd_l_many ct_l_many), sl_l_many⟩)
    (c_l_many : PySem.W.codeIn K cd_l_many "_law_many" = true)
    (k_l_many : PySem.W.keepIn K (.ref ad_l_many) = true)
    (a_l_mixed : PySem.W.nsIn K mainGlobals "_law_mixed" = some (some (.ref ad_l_mixed)))
    (l_l_mixed : K.lookup ad_l_mixed = some ⟨oc_l_mixed, od_l_mixed, .func (PySem.W.fnOf "_law_mixed" "_law_mixed" (defArgs s_l_mixed) (defBody s_l_mixed) (defScope s_l_mixed) .none kV_l_mixed dc_l_mixed pm_l_mixed an_l_mixed cd_l_mixed ct_l_mixed), sl_l_mixed⟩)
    (c_l_mixed : PySem.W.codeIn K cd_l_mixed "_law_mixed" = true)
    (k_l_mixed : PySem.W.keepIn K (.ref ad_l_mixed) = true)
    (a_l_built : PySem.W.nsIn K mainGlobals "_law_built" = some (some (.ref ad_l_built)))
    (l_l_built : K.lookup ad_l_built = some ⟨oc_l_built, od_l_built, .func (PySem.W.fnOf "_law_built" "_law_built" (defArgs s_l_built) (defBody s_l_built) (defScope s_l_built) .none kV_l_built dc_l_built pm_l_built an_l_built cd_l_built ct_l_built), sl_l_built⟩)
    (c_l_built : PySem.W.codeIn K cd_l_built "_law_built" = true)
    (k_l_built : PySem.W.keepIn K (.ref ad_l_built) = true)
    (a_l_doors : PySem.W.nsIn K mainGlobals "_law_doors" = some (some (.ref ad_l_doors)))
    (l_l_doors : K.lookup ad_l_doors = some ⟨oc_l_doors, od_l_doors, .func (PySem.W.fnOf "_law_doors" "_law_doors" (defArgs s_l_doors) (defBody s_l_doors) (defScope s_l_doors) .none kV_l_doors dc_l_doors pm_l_doors an_l_doors cd_l_doors ct_l_doors), sl_l_doors⟩)
    (c_l_doors : PySem.W.codeIn K cd_l_doors "_law_doors" = true)
    (k_l_doors : PySem.W.keepIn K (.ref ad_l_doors) = true)
    (a_l_lying : PySem.W.nsIn K mainGlobals "_law_lying" = some (some (.ref ad_l_lying)))
    (l_l_lying : K.lookup ad_l_lying = some ⟨oc_l_lying, od_l_lying, .func (PySem.W.fnOf "_law_lying" "_law_lying" (defArgs s_l_lying) (defBody s_l_lying) (defScope s_l_lying) .none kV_l_lying dc_l_lying pm_l_lying an_l_lying cd_l_lying ct_l_lying), sl_l_lying⟩)
    (c_l_lying : PySem.W.codeIn K cd_l_lying "_law_lying" = true)
    (k_l_lying : PySem.W.keepIn K (.ref ad_l_lying) = true)
    (a_l_taken : PySem.W.nsIn K mainGlobals "_law_taken" = some (some (.ref ad_l_taken)))
    (l_l_taken : K.lookup ad_l_taken = some ⟨oc_l_taken, od_l_taken, .func (PySem.W.fnOf "_law_taken" "_law_taken" (defArgs s_l_taken) (defBody s_l_taken) (defScope s_l_taken) .none kV_l_taken dc_l_taken pm_l_taken an_l_taken cd_l_taken ct_l_taken), sl_l_taken⟩)
    (c_l_taken : PySem.W.codeIn K cd_l_taken "_law_taken" = true)
    (k_l_taken : PySem.W.keepIn K (.ref ad_l_taken) = true)
    (a_l_steps : PySem.W.nsIn K mainGlobals "_law_steps" = some (some (.ref ad_l_steps)))
    (l_l_steps : K.lookup ad_l_steps = some ⟨oc_l_steps, od_l_steps, .func (PySem.W.fnOf "_law_steps" "_law_steps" (defArgs s_l_steps) (defBody s_l_steps) (defScope s_l_steps) .none kV_l_steps dc_l_steps pm_l_steps an_l_steps cd_l_steps ct_l_steps), sl_l_steps⟩)
    (c_l_steps : PySem.W.codeIn K cd_l_steps "_law_steps" = true)
    (k_l_steps : PySem.W.keepIn K (.ref ad_l_steps) = true)
    (a_l_hand : PySem.W.nsIn K mainGlobals "_law_hand" = some (some (.ref ad_l_hand)))
    (l_l_hand : K.lookup ad_l_hand = some ⟨oc_l_hand, od_l_hand, .func (PySem.W.fnOf "_law_hand" "_law_hand" (defArgs s_l_hand) (defBody s_l_hand) (defScope s_l_hand) .none kV_l_hand dc_l_hand pm_l_hand an_l_hand cd_l_hand ct_l_hand), sl_l_hand⟩)
    (c_l_hand : PySem.W.codeIn K cd_l_hand "_law_hand" = true)
    (k_l_hand : PySem.W.keepIn K (.ref ad_l_hand) = true)
    (a_l_row : PySem.W.nsIn K mainGlobals "_law_row" = some (some (.ref ad_l_row)))
    (l_l_row : K.lookup ad_l_row = some ⟨oc_l_row, od_l_row, .func (PySem.W.fnOf "_law_row" "_law_row" (defArgs s_l_row) (defBody s_l_row) (defScope s_l_row) .none kV_l_row dc_l_row pm_l_row an_l_row cd_l_row ct_l_row), sl_l_row⟩)
    (c_l_row : PySem.W.codeIn K cd_l_row "_law_row" = true)
    (k_l_row : PySem.W.keepIn K (.ref ad_l_row) = true)
    (a_l_due : PySem.W.nsIn K mainGlobals "_law_due" = some (some (.ref ad_l_due)))
    (l_l_due : K.lookup ad_l_due = some ⟨oc_l_due, od_l_due, .func (PySem.W.fnOf "_law_due" "_law_due" (defArgs s_l_due) (defBody s_l_due) (defScope s_l_due) .none kV_l_due dc_l_due pm_l_due an_l_due cd_l_due ct_l_due), sl_l_due⟩)
    (c_l_due : PySem.W.codeIn K cd_l_due "_law_due" = true)
    (k_l_due : PySem.W.keepIn K (.ref ad_l_due) = true)
    (a_l_rooms : PySem.W.nsIn K mainGlobals "_law_rooms" = some (some (.ref ad_l_rooms)))
    (l_l_rooms : K.lookup ad_l_rooms = some ⟨oc_l_rooms, od_l_rooms, .func (PySem.W.fnOf "_law_rooms" "_law_rooms" (defArgs s_l_rooms) (defBody s_l_rooms) (defScope s_l_rooms) .none kV_l_rooms dc_l_rooms pm_l_rooms an_l_rooms cd_l_rooms ct_l_rooms), sl_l_rooms⟩)
    (c_l_rooms : PySem.W.codeIn K cd_l_rooms "_law_rooms" = true)
    (k_l_rooms : PySem.W.keepIn K (.ref ad_l_rooms) = true)
    (a_l_shut : PySem.W.nsIn K mainGlobals "_law_shut" = some (some (.ref ad_l_shut)))
    (l_l_shut : K.lookup ad_l_shut = some ⟨oc_l_shut, od_l_shut, .func (PySem.W.fnOf "_law_shut" "_law_shut" (defArgs s_l_shut) (defBody s_l_shut) (defScope s_l_shut) .none kV_l_shut dc_l_shut pm_l_shut an_l_shut cd_l_shut ct_l_shut), sl_l_shut⟩)
    (c_l_shut : PySem.W.codeIn K cd_l_shut "_law_shut" = true)
    (k_l_shut : PySem.W.keepIn K (.ref ad_l_shut) = true)
    (a_l_goal : PySem.W.nsIn K mainGlobals "_law_goal" = some (some (.ref ad_l_goal)))
    (l_l_goal : K.lookup ad_l_goal = some ⟨oc_l_goal, od_l_goal, .func (PySem.W.fnOf "_law_goal" "_law_goal" (defArgs s_l_goal) (defBody s_l_goal) (defScope s_l_goal) .none kV_l_goal dc_l_goal pm_l_goal an_l_goal cd_l_goal ct_l_goal), sl_l_goal⟩)
    (c_l_goal : PySem.W.codeIn K cd_l_goal "_law_goal" = true)
    (k_l_goal : PySem.W.keepIn K (.ref ad_l_goal) = true)
    (a_l_far : PySem.W.nsIn K mainGlobals "_law_far" = some (some (.ref ad_l_far)))
    (l_l_far : K.lookup ad_l_far = some ⟨oc_l_far, od_l_far, .func (PySem.W.fnOf "_law_far" "_law_far" (defArgs s_l_far) (defBody s_l_far) (defScope s_l_far) .none kV_l_far dc_l_far pm_l_far an_l_far cd_l_far ct_l_far), sl_l_far⟩)
    (c_l_far : PySem.W.codeIn K cd_l_far "_law_far" = true)
    (k_l_far : PySem.W.keepIn K (.ref ad_l_far) = true)
    (a_law : PySem.W.nsIn K mainGlobals "law" = some (some (.ref ad_law)))
    (l_law : K.lookup ad_law = some ⟨oc_law, od_law, .func (PySem.W.fnOf "law" "law" (defArgs s_law) (defBody s_law) (defScope s_law) .none kV_law dc_law pm_law an_law cd_law ct_law), sl_law⟩)
    (c_law : PySem.W.codeIn K cd_law "law" = true)
    (k_law : PySem.W.keepIn K (.ref ad_law) = true)
    (q_MazeError : PySem.W.nsIn K mainGlobals "MazeError" = some (some (.ref ac_MazeError)))
    (x_MazeError : PySem.W.excIn K ac_MazeError [.type "ValueError", .type "Exception", .type "BaseException", .type "object"] "ValueError.__new__" = true)
    (kk_MazeError : PySem.W.keepIn K (.ref ac_MazeError) = true)
    (b_MazeError : PySem.W.subIn K (.ref ac_MazeError) (.type "BaseException") = some true)
    (t_MazeError : PySem.W.typeIn K (.ref ac_MazeError) = some (.type "type"))
    (i_MazeError : PySem.W.isClsIn K ac_MazeError = true)
    (q_NoRoom : PySem.W.nsIn K mainGlobals "NoRoom" = some (some (.ref ac_NoRoom)))
    (x_NoRoom : PySem.W.excIn K ac_NoRoom [.type "ValueError", .type "Exception", .type "BaseException", .type "object"] "ValueError.__new__" = true)
    (kk_NoRoom : PySem.W.keepIn K (.ref ac_NoRoom) = true)
    (b_NoRoom : PySem.W.subIn K (.ref ac_NoRoom) (.type "BaseException") = some true)
    (t_NoRoom : PySem.W.typeIn K (.ref ac_NoRoom) = some (.type "type"))
    (i_NoRoom : PySem.W.isClsIn K ac_NoRoom = true)
    (s_NoRoom_NoRoom : PySem.W.subIn K (.ref ac_NoRoom) (.ref ac_NoRoom) = some true)
    (z_abs : PySem.W.nsIn K mainGlobals "abs" = some none)
    (z_bool : PySem.W.nsIn K mainGlobals "bool" = some none)
    (z_int : PySem.W.nsIn K mainGlobals "int" = some none)
    (z_isinstance : PySem.W.nsIn K mainGlobals "isinstance" = some none)
    (z_len : PySem.W.nsIn K mainGlobals "len" = some none)
    (z_list : PySem.W.nsIn K mainGlobals "list" = some none)
    (z_min : PySem.W.nsIn K mainGlobals "min" = some none)
    (z_range : PySem.W.nsIn K mainGlobals "range" = some none)
    (z_set : PySem.W.nsIn K mainGlobals "set" = some none)
    (z_sorted : PySem.W.nsIn K mainGlobals "sorted" = some none)
    (z_tuple : PySem.W.nsIn K mainGlobals "tuple" = some none)
    : ∃ fd : FuncData, (∀ (s : Shared) (v : Value), BindsTo s fd ⟨[v], []⟩ [("_law_script", v)]) ∧ ∀ base : Heap, K.In base → base.Ns mainGlobals mg → FnOk l.prog w K mg base CX0 7 fa fd ["_law_script"] (spLaw K) := by
  have e : fa = ad_law := by
    have z := hfa.symm.trans (PySem.W.mg_of X G a_law)
    injection z with z
    injection z
  have f_need_room := fun_mk (st := s_need_room) l_need_room c_need_room k_need_room
  have f_keys_in := fun_mk (st := s_keys_in) l_keys_in c_keys_in k_keys_in
  have f_keys_among := fun_mk (st := s_keys_among) l_keys_among c_keys_among k_keys_among
  have f_taken := fun_mk (st := s_taken) l_taken c_taken k_taken
  have f_opens := fun_mk (st := s_opens) l_opens c_opens k_opens
  have f_steps := fun_mk (st := s_steps) l_steps c_steps k_steps
  have f_far_end := fun_mk (st := s_far_end) l_far_end c_far_end k_far_end
  have f_come := fun_mk (st := s_come) l_come c_come k_come
  have f_ways_out := fun_mk (st := s_ways_out) l_ways_out c_ways_out k_ways_out
  have f_guide := fun_mk (st := s_guide) l_guide c_guide k_guide
  have f_least_walk := fun_mk (st := s_least_walk) l_least_walk c_least_walk k_least_walk
  have f_l_mix := fun_mk (st := s_l_mix) l_l_mix c_l_mix k_l_mix
  have f_l_whole := fun_mk (st := s_l_whole) l_l_whole c_l_whole k_l_whole
  have f_l_cell_at := fun_mk (st := s_l_cell_at) l_l_cell_at c_l_cell_at k_l_cell_at
  have f_l_size := fun_mk (st := s_l_size) l_l_size c_l_size k_l_size
  have f_l_lock := fun_mk (st := s_l_lock) l_l_lock c_l_lock k_l_lock
  have f_l_rank := fun_mk (st := s_l_rank) l_l_rank c_l_rank k_l_rank
  have f_l_ranks := fun_mk (st := s_l_ranks) l_l_ranks c_l_ranks k_l_ranks
  have f_l_many := fun_mk (st := s_l_many) l_l_many c_l_many k_l_many
  have f_l_mixed := fun_mk (st := s_l_mixed) l_l_mixed c_l_mixed k_l_mixed
  have f_l_built := fun_mk (st := s_l_built) l_l_built c_l_built k_l_built
  have f_l_doors := fun_mk (st := s_l_doors) l_l_doors c_l_doors k_l_doors
  have f_l_lying := fun_mk (st := s_l_lying) l_l_lying c_l_lying k_l_lying
  have f_l_taken := fun_mk (st := s_l_taken) l_l_taken c_l_taken k_l_taken
  have f_l_steps := fun_mk (st := s_l_steps) l_l_steps c_l_steps k_l_steps
  have f_l_hand := fun_mk (st := s_l_hand) l_l_hand c_l_hand k_l_hand
  have f_l_row := fun_mk (st := s_l_row) l_l_row c_l_row k_l_row
  have f_l_due := fun_mk (st := s_l_due) l_l_due c_l_due k_l_due
  have f_l_rooms := fun_mk (st := s_l_rooms) l_l_rooms c_l_rooms k_l_rooms
  have f_l_shut := fun_mk (st := s_l_shut) l_l_shut c_l_shut k_l_shut
  have f_l_goal := fun_mk (st := s_l_goal) l_l_goal c_l_goal k_l_goal
  have f_l_far := fun_mk (st := s_l_far) l_l_far c_l_far k_l_far
  have f_law := fun_mk (st := s_law) l_law c_law k_law
  have T : Txt K mg { a_need_room := ad_need_room, d_need_room := PySem.W.fnOf "need_room" "need_room" (defArgs s_need_room) (defBody s_need_room) (defScope s_need_room) .none kV_need_room dc_need_room pm_need_room an_need_room cd_need_room ct_need_room, a_keys_in := ad_keys_in, d_keys_in := PySem.W.fnOf "keys_in" "keys_in" (defArgs s_keys_in) (defBody s_keys_in) (defScope s_keys_in) .none kV_keys_in dc_keys_in pm_keys_in an_keys_in cd_keys_in ct_keys_in, a_keys_among := ad_keys_among, d_keys_among := PySem.W.fnOf "keys_among" "keys_among" (defArgs s_keys_among) (defBody s_keys_among) (defScope s_keys_among) .none kV_keys_among dc_keys_among pm_keys_among an_keys_among cd_keys_among ct_keys_among, a_taken := ad_taken, d_taken := PySem.W.fnOf "taken" "taken" (defArgs s_taken) (defBody s_taken) (defScope s_taken) .none kV_taken dc_taken pm_taken an_taken cd_taken ct_taken, a_opens := ad_opens, d_opens := PySem.W.fnOf "opens" "opens" (defArgs s_opens) (defBody s_opens) (defScope s_opens) .none kV_opens dc_opens pm_opens an_opens cd_opens ct_opens, a_steps := ad_steps, d_steps := PySem.W.fnOf "steps" "steps" (defArgs s_steps) (defBody s_steps) (defScope s_steps) .none kV_steps dc_steps pm_steps an_steps cd_steps ct_steps, a_far_end := ad_far_end, d_far_end := PySem.W.fnOf "far_end" "far_end" (defArgs s_far_end) (defBody s_far_end) (defScope s_far_end) .none kV_far_end dc_far_end pm_far_end an_far_end cd_far_end ct_far_end, a_come := ad_come, d_come := PySem.W.fnOf "come" "come" (defArgs s_come) (defBody s_come) (defScope s_come) .none kV_come dc_come pm_come an_come cd_come ct_come, a_ways_out := ad_ways_out, d_ways_out := PySem.W.fnOf "ways_out" "ways_out" (defArgs s_ways_out) (defBody s_ways_out) (defScope s_ways_out) .none kV_ways_out dc_ways_out pm_ways_out an_ways_out cd_ways_out ct_ways_out, a_guide := ad_guide, d_guide := PySem.W.fnOf "guide" "guide" (defArgs s_guide) (defBody s_guide) (defScope s_guide) .none kV_guide dc_guide pm_guide an_guide cd_guide ct_guide, a_least_walk := ad_least_walk, d_least_walk := PySem.W.fnOf "least_walk" "least_walk" (defArgs s_least_walk) (defBody s_least_walk) (defScope s_least_walk) .none kV_least_walk dc_least_walk pm_least_walk an_least_walk cd_least_walk ct_least_walk, a_l_mix := ad_l_mix, d_l_mix := PySem.W.fnOf "_law_mix" "_law_mix" (defArgs s_l_mix) (defBody s_l_mix) (defScope s_l_mix) .none kV_l_mix dc_l_mix pm_l_mix an_l_mix cd_l_mix ct_l_mix, a_l_whole := ad_l_whole, d_l_whole := PySem.W.fnOf "_law_whole" "_law_whole" (defArgs s_l_whole) (defBody s_l_whole) (defScope s_l_whole) .none kV_l_whole dc_l_whole pm_l_whole an_l_whole cd_l_whole ct_l_whole, a_l_cell_at := ad_l_cell_at, d_l_cell_at := PySem.W.fnOf "_law_cell_at" "_law_cell_at" (defArgs s_l_cell_at) (defBody s_l_cell_at) (defScope s_l_cell_at) .none kV_l_cell_at dc_l_cell_at pm_l_cell_at an_l_cell_at cd_l_cell_at ct_l_cell_at, a_l_size := ad_l_size, d_l_size := PySem.W.fnOf "_law_size" "_law_size" (defArgs s_l_size) (defBody s_l_size) (defScope s_l_size) .none kV_l_size dc_l_size pm_l_size an_l_size cd_l_size ct_l_size, a_l_lock := ad_l_lock, d_l_lock := PySem.W.fnOf "_law_lock" "_law_lock" (defArgs s_l_lock) (defBody s_l_lock) (defScope s_l_lock) .none kV_l_lock dc_l_lock pm_l_lock an_l_lock cd_l_lock ct_l_lock, a_l_rank := ad_l_rank, d_l_rank := PySem.W.fnOf "_law_rank" "_law_rank" (defArgs s_l_rank) (defBody s_l_rank) (defScope s_l_rank) .none kV_l_rank dc_l_rank pm_l_rank an_l_rank cd_l_rank ct_l_rank, a_l_ranks := ad_l_ranks, d_l_ranks := PySem.W.fnOf "_law_ranks" "_law_ranks" (defArgs s_l_ranks) (defBody s_l_ranks) (defScope s_l_ranks) .none kV_l_ranks dc_l_ranks pm_l_ranks an_l_ranks cd_l_ranks ct_l_ranks, a_l_many := ad_l_many, d_l_many := PySem.W.fnOf "_law_many" "_law_many" (defArgs s_l_many) (defBody s_l_many) (defScope s_l_many) .none kV_l_many dc_l_many pm_l_many an_l_many cd_l_many ct_l_many, a_l_mixed := ad_l_mixed, d_l_mixed := PySem.W.fnOf "_law_mixed" "_law_mixed" (defArgs s_l_mixed) (defBody s_l_mixed) (defScope s_l_mixed) .none kV_l_mixed dc_l_mixed pm_l_mixed an_l_mixed cd_l_mixed ct_l_mixed, a_l_built := ad_l_built, d_l_built := PySem.W.fnOf "_law_built" "_law_built" (defArgs s_l_built) (defBody s_l_built) (defScope s_l_built) .none kV_l_built dc_l_built pm_l_built an_l_built cd_l_built ct_l_built, a_l_doors := ad_l_doors, d_l_doors := PySem.W.fnOf "_law_doors" "_law_doors" (defArgs s_l_doors) (defBody s_l_doors) (defScope s_l_doors) .none kV_l_doors dc_l_doors pm_l_doors an_l_doors cd_l_doors ct_l_doors, a_l_lying := ad_l_lying, d_l_lying := PySem.W.fnOf "_law_lying" "_law_lying" (defArgs s_l_lying) (defBody s_l_lying) (defScope s_l_lying) .none kV_l_lying dc_l_lying pm_l_lying an_l_lying cd_l_lying ct_l_lying, a_l_taken := ad_l_taken, d_l_taken := PySem.W.fnOf "_law_taken" "_law_taken" (defArgs s_l_taken) (defBody s_l_taken) (defScope s_l_taken) .none kV_l_taken dc_l_taken pm_l_taken an_l_taken cd_l_taken ct_l_taken, a_l_steps := ad_l_steps, d_l_steps := PySem.W.fnOf "_law_steps" "_law_steps" (defArgs s_l_steps) (defBody s_l_steps) (defScope s_l_steps) .none kV_l_steps dc_l_steps pm_l_steps an_l_steps cd_l_steps ct_l_steps, a_l_hand := ad_l_hand, d_l_hand := PySem.W.fnOf "_law_hand" "_law_hand" (defArgs s_l_hand) (defBody s_l_hand) (defScope s_l_hand) .none kV_l_hand dc_l_hand pm_l_hand an_l_hand cd_l_hand ct_l_hand, a_l_row := ad_l_row, d_l_row := PySem.W.fnOf "_law_row" "_law_row" (defArgs s_l_row) (defBody s_l_row) (defScope s_l_row) .none kV_l_row dc_l_row pm_l_row an_l_row cd_l_row ct_l_row, a_l_due := ad_l_due, d_l_due := PySem.W.fnOf "_law_due" "_law_due" (defArgs s_l_due) (defBody s_l_due) (defScope s_l_due) .none kV_l_due dc_l_due pm_l_due an_l_due cd_l_due ct_l_due, a_l_rooms := ad_l_rooms, d_l_rooms := PySem.W.fnOf "_law_rooms" "_law_rooms" (defArgs s_l_rooms) (defBody s_l_rooms) (defScope s_l_rooms) .none kV_l_rooms dc_l_rooms pm_l_rooms an_l_rooms cd_l_rooms ct_l_rooms, a_l_shut := ad_l_shut, d_l_shut := PySem.W.fnOf "_law_shut" "_law_shut" (defArgs s_l_shut) (defBody s_l_shut) (defScope s_l_shut) .none kV_l_shut dc_l_shut pm_l_shut an_l_shut cd_l_shut ct_l_shut, a_l_goal := ad_l_goal, d_l_goal := PySem.W.fnOf "_law_goal" "_law_goal" (defArgs s_l_goal) (defBody s_l_goal) (defScope s_l_goal) .none kV_l_goal dc_l_goal pm_l_goal an_l_goal cd_l_goal ct_l_goal, a_l_far := ad_l_far, d_l_far := PySem.W.fnOf "_law_far" "_law_far" (defArgs s_l_far) (defBody s_l_far) (defScope s_l_far) .none kV_l_far dc_l_far pm_l_far an_l_far cd_l_far ct_l_far, a_law := ad_law, d_law := PySem.W.fnOf "law" "law" (defArgs s_law) (defBody s_law) (defScope s_law) .none kV_law dc_law pm_law an_law cd_law ct_law, c_MazeError := ac_MazeError, c_NoRoom := ac_NoRoom } :=
    { g_need_room := PySem.W.mg_of X G a_need_room, f_need_room := f_need_room, g_keys_in := PySem.W.mg_of X G a_keys_in, f_keys_in := f_keys_in, g_keys_among := PySem.W.mg_of X G a_keys_among, f_keys_among := f_keys_among, g_taken := PySem.W.mg_of X G a_taken, f_taken := f_taken, g_opens := PySem.W.mg_of X G a_opens, f_opens := f_opens, g_steps := PySem.W.mg_of X G a_steps, f_steps := f_steps, g_far_end := PySem.W.mg_of X G a_far_end, f_far_end := f_far_end, g_come := PySem.W.mg_of X G a_come, f_come := f_come, g_ways_out := PySem.W.mg_of X G a_ways_out, f_ways_out := f_ways_out, g_guide := PySem.W.mg_of X G a_guide, f_guide := f_guide, g_least_walk := PySem.W.mg_of X G a_least_walk, f_least_walk := f_least_walk, g_l_mix := PySem.W.mg_of X G a_l_mix, f_l_mix := f_l_mix, g_l_whole := PySem.W.mg_of X G a_l_whole, f_l_whole := f_l_whole, g_l_cell_at := PySem.W.mg_of X G a_l_cell_at, f_l_cell_at := f_l_cell_at, g_l_size := PySem.W.mg_of X G a_l_size, f_l_size := f_l_size, g_l_lock := PySem.W.mg_of X G a_l_lock, f_l_lock := f_l_lock, g_l_rank := PySem.W.mg_of X G a_l_rank, f_l_rank := f_l_rank, g_l_ranks := PySem.W.mg_of X G a_l_ranks, f_l_ranks := f_l_ranks, g_l_many := PySem.W.mg_of X G a_l_many, f_l_many := f_l_many, g_l_mixed := PySem.W.mg_of X G a_l_mixed, f_l_mixed := f_l_mixed, g_l_built := PySem.W.mg_of X G a_l_built, f_l_built := f_l_built, g_l_doors := PySem.W.mg_of X G a_l_doors, f_l_doors := f_l_doors, g_l_lying := PySem.W.mg_of X G a_l_lying, f_l_lying := f_l_lying, g_l_taken := PySem.W.mg_of X G a_l_taken, f_l_taken := f_l_taken, g_l_steps := PySem.W.mg_of X G a_l_steps, f_l_steps := f_l_steps, g_l_hand := PySem.W.mg_of X G a_l_hand, f_l_hand := f_l_hand, g_l_row := PySem.W.mg_of X G a_l_row, f_l_row := f_l_row, g_l_due := PySem.W.mg_of X G a_l_due, f_l_due := f_l_due, g_l_rooms := PySem.W.mg_of X G a_l_rooms, f_l_rooms := f_l_rooms, g_l_shut := PySem.W.mg_of X G a_l_shut, f_l_shut := f_l_shut, g_l_goal := PySem.W.mg_of X G a_l_goal, f_l_goal := f_l_goal, g_l_far := PySem.W.mg_of X G a_l_far, f_l_far := f_l_far, g_law := PySem.W.mg_of X G a_law, f_law := f_law, g_MazeError := PySem.W.mg_of X G q_MazeError, x_MazeError := x_MazeError, k_MazeError := kk_MazeError, b_MazeError := b_MazeError, t_MazeError := t_MazeError, i_MazeError := i_MazeError, g_NoRoom := PySem.W.mg_of X G q_NoRoom, x_NoRoom := x_NoRoom, k_NoRoom := kk_NoRoom, b_NoRoom := b_NoRoom, t_NoRoom := t_NoRoom, i_NoRoom := i_NoRoom, s_NoRoom_NoRoom := s_NoRoom_NoRoom, u_abs := PySem.W.mg_none_of X G z_abs, u_bool := PySem.W.mg_none_of X G z_bool, u_int := PySem.W.mg_none_of X G z_int, u_isinstance := PySem.W.mg_none_of X G z_isinstance, u_len := PySem.W.mg_none_of X G z_len, u_list := PySem.W.mg_none_of X G z_list, u_min := PySem.W.mg_none_of X G z_min, u_range := PySem.W.mg_none_of X G z_range, u_set := PySem.W.mg_none_of X G z_set, u_sorted := PySem.W.mg_none_of X G z_sorted, u_tuple := PySem.W.mg_none_of X G z_tuple }
  rw [e]
  exact ⟨_, fun s v => .of_eq rfl, fun base _ _ => ok_law T⟩
end MG
open PySem PySem.W PyProof.Rows
set_option maxRecDepth 100000 in
set_option maxHeartbeats 0 in
theorem PySem.Challenge.cw_mazeguide_k10_the_least_walk_holds : PySem.Challenge.rw_mazeguide_k10_the_least_walk.Holds := by
  w_on; o_law; k_head; (case hw => w_witness2)
  k_fill
  refine L2.walk_of (l := PySem.Challenge.rw_mazeguide_k10_the_least_walk) (n := 63) (k := 7) (x := "_law_script") (CX := fun _ => L2.CX0) (sp := fun w => MG.spLaw _) rfl (by decide) rfl ⟨rfl, by decide, by decide⟩ (fun w h Y => PySem.W.kIn_of Y) ?F (fun _ _ a ns hl _ hS => ⟨a, ns, rfl, hS, hl, fun _ => rfl⟩) (fun _ _ _ _ _ h => h)
  case F =>
    intro w mg fa h KX G hmg
    refine' MG.all_mk KX G hmg ?a_need_room ?l_need_room ?c_need_room ?k_need_room ?a_keys_in ?l_keys_in ?c_keys_in ?k_keys_in ?a_keys_among ?l_keys_among ?c_keys_among ?k_keys_among ?a_taken ?l_taken ?c_taken ?k_taken ?a_opens ?l_opens ?c_opens ?k_opens ?a_steps ?l_steps ?c_steps ?k_steps ?a_far_end ?l_far_end ?c_far_end ?k_far_end ?a_come ?l_come ?c_come ?k_come ?a_ways_out ?l_ways_out ?c_ways_out ?k_ways_out ?a_guide ?l_guide ?c_guide ?k_guide ?a_least_walk ?l_least_walk ?c_least_walk ?k_least_walk ?a_l_mix ?l_l_mix ?c_l_mix ?k_l_mix ?a_l_whole ?l_l_whole ?c_l_whole ?k_l_whole ?a_l_cell_at ?l_l_cell_at ?c_l_cell_at ?k_l_cell_at ?a_l_size ?l_l_size ?c_l_size ?k_l_size ?a_l_lock ?l_l_lock ?c_l_lock ?k_l_lock ?a_l_rank ?l_l_rank ?c_l_rank ?k_l_rank ?a_l_ranks ?l_l_ranks ?c_l_ranks ?k_l_ranks ?a_l_many ?l_l_many ?c_l_many ?k_l_many ?a_l_mixed ?l_l_mixed ?c_l_mixed ?k_l_mixed ?a_l_built ?l_l_built ?c_l_built ?k_l_built ?a_l_doors ?l_l_doors ?c_l_doors ?k_l_doors ?a_l_lying ?l_l_lying ?c_l_lying ?k_l_lying ?a_l_taken ?l_l_taken ?c_l_taken ?k_l_taken ?a_l_steps ?l_l_steps ?c_l_steps ?k_l_steps ?a_l_hand ?l_l_hand ?c_l_hand ?k_l_hand ?a_l_row ?l_l_row ?c_l_row ?k_l_row ?a_l_due ?l_l_due ?c_l_due ?k_l_due ?a_l_rooms ?l_l_rooms ?c_l_rooms ?k_l_rooms ?a_l_shut ?l_l_shut ?c_l_shut ?k_l_shut ?a_l_goal ?l_l_goal ?c_l_goal ?k_l_goal ?a_l_far ?l_l_far ?c_l_far ?k_l_far ?a_law ?l_law ?c_law ?k_law ?q_MazeError ?x_MazeError ?kk_MazeError ?b_MazeError ?t_MazeError ?i_MazeError ?q_NoRoom ?x_NoRoom ?kk_NoRoom ?b_NoRoom ?t_NoRoom ?i_NoRoom ?s_NoRoom_NoRoom ?z_abs ?z_bool ?z_int ?z_isinstance ?z_len ?z_list ?z_min ?z_range ?z_set ?z_sorted ?z_tuple
    (case a_need_room => k_is)
    (case l_need_room => k_is)
    (case c_need_room => k_is)
    (case k_need_room => k_is)
    (case a_keys_in => k_is)
    (case l_keys_in => k_is)
    (case c_keys_in => k_is)
    (case k_keys_in => k_is)
    (case a_keys_among => k_is)
    (case l_keys_among => k_is)
    (case c_keys_among => k_is)
    (case k_keys_among => k_is)
    (case a_taken => k_is)
    (case l_taken => k_is)
    (case c_taken => k_is)
    (case k_taken => k_is)
    (case a_opens => k_is)
    (case l_opens => k_is)
    (case c_opens => k_is)
    (case k_opens => k_is)
    (case a_steps => k_is)
    (case l_steps => k_is)
    (case c_steps => k_is)
    (case k_steps => k_is)
    (case a_far_end => k_is)
    (case l_far_end => k_is)
    (case c_far_end => k_is)
    (case k_far_end => k_is)
    (case a_come => k_is)
    (case l_come => k_is)
    (case c_come => k_is)
    (case k_come => k_is)
    (case a_ways_out => k_is)
    (case l_ways_out => k_is)
    (case c_ways_out => k_is)
    (case k_ways_out => k_is)
    (case a_guide => k_is)
    (case l_guide => k_is)
    (case c_guide => k_is)
    (case k_guide => k_is)
    (case a_least_walk => k_is)
    (case l_least_walk => k_is)
    (case c_least_walk => k_is)
    (case k_least_walk => k_is)
    (case a_l_mix => k_is)
    (case l_l_mix => k_is)
    (case c_l_mix => k_is)
    (case k_l_mix => k_is)
    (case a_l_whole => k_is)
    (case l_l_whole => k_is)
    (case c_l_whole => k_is)
    (case k_l_whole => k_is)
    (case a_l_cell_at => k_is)
    (case l_l_cell_at => k_is)
    (case c_l_cell_at => k_is)
    (case k_l_cell_at => k_is)
    (case a_l_size => k_is)
    (case l_l_size => k_is)
    (case c_l_size => k_is)
    (case k_l_size => k_is)
    (case a_l_lock => k_is)
    (case l_l_lock => k_is)
    (case c_l_lock => k_is)
    (case k_l_lock => k_is)
    (case a_l_rank => k_is)
    (case l_l_rank => k_is)
    (case c_l_rank => k_is)
    (case k_l_rank => k_is)
    (case a_l_ranks => k_is)
    (case l_l_ranks => k_is)
    (case c_l_ranks => k_is)
    (case k_l_ranks => k_is)
    (case a_l_many => k_is)
    (case l_l_many => k_is)
    (case c_l_many => k_is)
    (case k_l_many => k_is)
    (case a_l_mixed => k_is)
    (case l_l_mixed => k_is)
    (case c_l_mixed => k_is)
    (case k_l_mixed => k_is)
    (case a_l_built => k_is)
    (case l_l_built => k_is)
    (case c_l_built => k_is)
    (case k_l_built => k_is)
    (case a_l_doors => k_is)
    (case l_l_doors => k_is)
    (case c_l_doors => k_is)
    (case k_l_doors => k_is)
    (case a_l_lying => k_is)
    (case l_l_lying => k_is)
    (case c_l_lying => k_is)
    (case k_l_lying => k_is)
    (case a_l_taken => k_is)
    (case l_l_taken => k_is)
    (case c_l_taken => k_is)
    (case k_l_taken => k_is)
    (case a_l_steps => k_is)
    (case l_l_steps => k_is)
    (case c_l_steps => k_is)
    (case k_l_steps => k_is)
    (case a_l_hand => k_is)
    (case l_l_hand => k_is)
    (case c_l_hand => k_is)
    (case k_l_hand => k_is)
    (case a_l_row => k_is)
    (case l_l_row => k_is)
    (case c_l_row => k_is)
    (case k_l_row => k_is)
    (case a_l_due => k_is)
    (case l_l_due => k_is)
    (case c_l_due => k_is)
    (case k_l_due => k_is)
    (case a_l_rooms => k_is)
    (case l_l_rooms => k_is)
    (case c_l_rooms => k_is)
    (case k_l_rooms => k_is)
    (case a_l_shut => k_is)
    (case l_l_shut => k_is)
    (case c_l_shut => k_is)
    (case k_l_shut => k_is)
    (case a_l_goal => k_is)
    (case l_l_goal => k_is)
    (case c_l_goal => k_is)
    (case k_l_goal => k_is)
    (case a_l_far => k_is)
    (case l_l_far => k_is)
    (case c_l_far => k_is)
    (case k_l_far => k_is)
    (case a_law => k_is)
    (case l_law => k_is)
    (case c_law => k_is)
    (case k_law => k_is)
    (case q_MazeError => k_is)
    (case x_MazeError => k_exc)
    (case kk_MazeError => k_is)
    (case b_MazeError => k_is)
    (case t_MazeError => k_is)
    (case i_MazeError => k_is)
    (case q_NoRoom => k_is)
    (case x_NoRoom => k_exc)
    (case kk_NoRoom => k_is)
    (case b_NoRoom => k_is)
    (case t_NoRoom => k_is)
    (case i_NoRoom => k_is)
    (case s_NoRoom_NoRoom => first | rfl | k_is)
    (case z_abs => k_is)
    (case z_bool => k_is)
    (case z_int => k_is)
    (case z_isinstance => k_is)
    (case z_len => k_is)
    (case z_list => k_is)
    (case z_min => k_is)
    (case z_range => k_is)
    (case z_set => k_is)
    (case z_sorted => k_is)
    (case z_tuple => k_is)
