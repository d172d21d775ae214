import PyProof.Rows.All
import Wide.All
import OpenK.AllK
import Wide.FinOn
import HandS.ForMost
import HandS.ForExc
import HandS.Codes
import HandS.Evl
import HandS.Lambda
import HandS.EndTab
import HandS.HeadHook4
import HandS.HeadWalk
import HandS.TupAny
import HandS.IsInst
import HandS.StrMore
import HandS.Defaults
import HandS.Wide
import HandS.Head0
import HandS.Head1
import HandS.Head2
import HandS.HeadEnd
import HandS.RaiseMore
import HandS.ExcInit
import HandS.HeadHook1
import PyProof.Rows.ReprOcc
import PyProof.P3Eq
import PyProof.StrLawsRepr
import HandS.SetFor
import PyProof.StrLawsIn
import HandS.ExcField
import HandS.ExcIs
import HandS.HotCalls
import KE.KExcIs
import HandS.Dict
import PyProof.Rows.StrStep
import HandS.TupMul
import PyProof.Rows.StrCountLaw
import PyProof.Rows.StrPins
import HandS.Style
import KE.KExcInit
import KE.KExcMake
import HandS.MakeKwOnly
import HandS.MakeKw
import HandS.Property
import HandS.OwnEq
import HandS.ClsMeth
import HandS.Flow
import HandS.Star
import KE.KRevSl
import HandS.SortInts
import PyProof.ListRange
import HandS.WideBits
import HandS.Small
import HandS.Conv
import PyProof.Rows.SeqMore3
import PySem.Challenge.RW_filledrows_k24_whole_programs_in_turn
set_option Elab.async false
set_option linter.all false
set_option maxRecDepth 100000
set_option maxHeartbeats 4000000
/-! a small logic over the layer: data, states, expressions, statements, defs -/
namespace FR
open PySem PySem.Spec PyProof.Rows L2

/-! ### data in the heap -/
/-- an own exception, as data: its class by name, its fields (no dict of ours has such a key) -/
def excZ (c : Str) (ks : List Str) (ds : List PyData) : List (PyData × PyData) := (.bool false, .str c) :: (ks.map PyData.str).zip ds
/-- an own object, as data -/
def objZ (c : Str) (ks : List Str) (ds : List PyData) : List (PyData × PyData) := (.none, .str c) :: (ks.map PyData.str).zip ds
abbrev objD (c : Str) (ks : List Str) (ds : List PyData) : PyData := .dict (objZ c ks ds)
abbrev excD (c : Str) (ks : List Str) (ds : List PyData) : PyData := .dict (excZ c ks ds)
mutual
inductive Da (K : PySem.W.Frag) (H : Hp) : V → PyData → Prop
  | non : Da K H .non .none
  | bl (b : Bool) : Da K H (.bl b) (.bool b)
  | int (i : Int) : Da K H (.int i) (.int i)
  | str (x : Str) : Da K H (.str x) (.str x)
  | lst {a : Addr} {xs : List V} {ds : List PyData} : H a = some (.lst xs) → DaAll K H xs ds → Da K H (.ref a) (.list ds)
  | tup {a : Addr} {xs : List V} {ds : List PyData} : SqT K H a xs → DaAll K H xs ds → Da K H (.ref a) (.tuple ds)
  | dct {a : Addr} {kvs : List (Str × Int)} {d : List (PyData × PyData)} : d = kvs.map (fun p => (PyData.str p.1, PyData.int p.2)) → H a = some (.dK (kvs.map fun p => (.inr p.1, .int p.2))) → Da K H (.ref a) (.dict d)
  | exc {a dx : Addr} {c f : Str} {v : V} {x : PyData} {z : List (PyData × PyData)} : z = excZ c [f] [x] → H a = some (exo a (He.ga K c) (some dx)) → H dx = some (exd dx [(f, v)]) → Da K H v x → Da K H (.ref a) (.dict z)
  | exn {a : Addr} {c : Str} {z : List (PyData × PyData)} : z = excZ c [] [] → H a = some (exo a (He.ga K c) none) → Da K H (.ref a) (.dict z)
  | ins {a dx : Addr} {c : Str} {ks : List Str} {vs : List V} {ds : List PyData} {z : List (PyData × PyData)} : z = objZ c ks ds → ks.length = ds.length → H a = some (.ins (He.ga K c) dx (ks.zip vs)) → DaAll K H vs ds → Da K H (.ref a) (.dict z)
inductive DaAll (K : PySem.W.Frag) (H : Hp) : List V → List PyData → Prop
  | nil : DaAll K H [] []
  | cons {v : V} {vs : List V} {d : PyData} {ds : List PyData} : Da K H v d → DaAll K H vs ds → DaAll K H (v :: vs) (d :: ds)
end

section
variable {K : PySem.W.Frag} {H H' : Hp}
theorem sqt_mono (e : Same H H') {a : Addr} {xs : List V} (h : SqT K H a xs) : SqT K H' a xs := by
  rcases h with (h | ⟨o, h⟩) | h
  · exact .inl (.inl (e _ _ h))
  · exact .inl (.inr ⟨o, e _ _ h⟩)
  · exact .inr h
theorem Da.mono (e : Same H H') (d : PyData) (v : V) (h : Da K H v d) : Da K H' v d :=
  Da.rec (motive_1 := fun v d _ => Da K H' v d) (motive_2 := fun vs ds _ => DaAll K H' vs ds) .non .bl .int .str (fun h1 _ h2 => .lst (e _ _ h1) h2) (fun h1 _ h2 => .tup (sqt_mono e h1) h2) (fun h1 h2 => .dct h1 (e _ _ h2)) (fun h0 h1 h2 _ h3 => .exc h0 (e _ _ h1) (e _ _ h2) h3) (fun h0 h1 => .exn h0 (e _ _ h1)) (fun h0 hl h1 _ h2 => .ins h0 hl (e _ _ h1) h2) .nil (fun _ _ h1 h2 => .cons h1 h2) h
theorem DaAll.mono (e : Same H H') : ∀ (ds : List PyData) (vs : List V), DaAll K H vs ds → DaAll K H' vs ds
  | [], _, h => by cases h; exact .nil
  | d :: ds, _, h => by
    cases h with
    | cons h1 h2 => exact .cons (Da.mono e d _ h1) (DaAll.mono e ds _ h2)
mutual
theorem Da.dp : ∀ (d : PyData) (v : V), d.hasDict = false → Da K H v d → Dp K H v d
  | .none, _, _, h => by cases h; exact .non
  | .bool b, _, _, h => by cases h; exact .bl b
  | .int i, _, _, h => by cases h; exact .int i
  | .str x, _, _, h => by cases h; exact .str x
  | .list ds, _, n, h => by
    simp only [PyData.hasDict] at n
    cases h with
    | lst h1 h2 => exact .lst (.inl (.inl h1)) (DaAll.dp ds _ n h2)
  | .tuple ds, _, n, h => by
    simp only [PyData.hasDict] at n
    cases h with
    | tup h1 h2 => exact .tup h1 (DaAll.dp ds _ n h2)
  | .dict _, _, n, _ => by simp only [PyData.hasDict] at n; cases n
theorem DaAll.dp : ∀ (ds : List PyData) (vs : List V), PyData.hasDictAll ds = false → DaAll K H vs ds → DpAll K H vs ds
  | [], _, _, h => by cases h; exact .nil
  | d :: ds, _, n, h => by
    simp only [PyData.hasDictAll, Bool.or_eq_false_iff] at n
    cases h with
    | cons h1 h2 => exact .cons (Da.dp d _ n.1 h1) (DaAll.dp ds _ n.2 h2)
end
theorem DaAll.len : ∀ {vs : List V} {ds : List PyData}, DaAll K H vs ds → vs.length = ds.length
  | _, _, .nil => rfl
  | _, _, .cons _ t => by rw [List.length_cons, List.length_cons, DaAll.len t]
theorem DaAll.get : ∀ {vs : List V} {ds : List PyData} {i : Nat} {d : PyData}, DaAll K H vs ds → ds[i]? = some d → ∃ v, vs[i]? = some v ∧ Da K H v d
  | _, _, _, _, .nil, e => by simp at e
  | _, _, 0, _, .cons h _, e => by
    simp at e
    subst e
    exact ⟨_, rfl, h⟩
  | _, _, i + 1, d, .cons _ t, e => by
    obtain ⟨v, e1, h1⟩ := DaAll.get (i := i) (d := d) t (by simpa using e)
    exact ⟨v, by simpa using e1, h1⟩
theorem DaAll.get' : ∀ {vs : List V} {ds : List PyData} {i : Nat} {v : V}, DaAll K H vs ds → vs[i]? = some v → ∃ d, ds[i]? = some d ∧ Da K H v d
  | _, _, _, _, .nil, e => by simp at e
  | _, _, 0, _, .cons h _, e => by
    simp at e
    subst e
    exact ⟨_, rfl, h⟩
  | _, _, i + 1, v, .cons _ t, e => by
    obtain ⟨d, e1, h1⟩ := DaAll.get' (i := i) (v := v) t (by simpa using e)
    exact ⟨d, by simpa using e1, h1⟩
theorem DaAll.append : ∀ {vs ws : List V} {ds es : List PyData}, DaAll K H vs ds → DaAll K H ws es → DaAll K H (vs ++ ws) (ds ++ es)
  | _, _, _, _, .nil, s => s
  | _, _, _, _, .cons h t, s => .cons h (DaAll.append t s)
theorem DaAll.take : ∀ {vs : List V} {ds : List PyData} (n : Nat), DaAll K H vs ds → DaAll K H (vs.take n) (ds.take n)
  | _, _, 0, _ => .nil
  | _, _, _ + 1, .nil => .nil
  | _, _, n + 1, .cons h t => .cons h (DaAll.take n t)
theorem DaAll.drop : ∀ {vs : List V} {ds : List PyData} (n : Nat), DaAll K H vs ds → DaAll K H (vs.drop n) (ds.drop n)
  | _, _, 0, h => h
  | _, _, _ + 1, .nil => .nil
  | _, _, n + 1, .cons _ t => DaAll.drop n t
theorem DaAll.set {v : V} {d : PyData} (h : Da K H v d) : ∀ {vs : List V} {ds : List PyData} (i : Nat), DaAll K H vs ds → DaAll K H (vs.set i v) (ds.set i d)
  | _, _, _, .nil => .nil
  | _, _, 0, .cons _ t => .cons h t
  | _, _, i + 1, .cons h2 t => .cons h2 (DaAll.set h i t)
theorem DaAll.rep {v : V} {d : PyData} (h : Da K H v d) : ∀ n : Nat, DaAll K H (List.replicate n v) (List.replicate n d)
  | 0 => .nil
  | n + 1 => .cons h (DaAll.rep h n)
theorem DaAll.ints : ∀ {ns : List Int} {vs : List V}, DaAll K H vs (ns.map PyData.int) → vs = ns.map V.int
  | [], _, h => by cases h; rfl
  | n :: ns, _, h => by
    cases h with
    | cons h1 h2 =>
      cases h1
      rw [DaAll.ints h2]
      rfl
theorem DaAll.bools : ∀ {ns : List Bool} {vs : List V}, DaAll K H vs (ns.map PyData.bool) → vs = ns.map V.bl
  | [], _, h => by cases h; rfl
  | n :: ns, _, h => by
    cases h with
    | cons h1 h2 =>
      cases h1
      rw [DaAll.bools h2]
      rfl
theorem DaAll.strs : ∀ {ns : List Str} {vs : List V}, DaAll K H vs (ns.map PyData.str) → vs = ns.map V.str
  | [], _, h => by cases h; rfl
  | n :: ns, _, h => by
    cases h with
    | cons h1 h2 =>
      cases h1
      rw [DaAll.strs h2]
      rfl
theorem daAll_ints : ∀ ns : List Int, DaAll K H (ns.map V.int) (ns.map PyData.int)
  | [] => .nil
  | n :: ns => .cons (.int n) (daAll_ints ns)
end

/-! ### states -/
def Tb (o : HO) : Prop := ∃ ps, o = .tbl ps
theorem not_tb_lst {xs : List V} : ¬ Tb (.lst xs) := fun ⟨_, e⟩ => nomatch e
theorem not_tb_tup {xs : List V} : ¬ Tb (.tup xs) := fun ⟨_, e⟩ => nomatch e
/-- what may turn: addresses, and what is true of them -/
structure Vol where
  W : Addr → Prop
  I : Hp → Prop
  stable : ∀ H H', (∀ b o, H b = some o → (W b ∨ Tb o ∨ ∃ φ, o = .ext φ) → H' b = some o) → I H → I H'
  there : ∀ H b, W b → I H → H b ≠ none
theorem Vol.same (Y : Vol) {H H' : Hp} (e : Same H H') (h : Y.I H) : Y.I H' := Y.stable _ _ (fun b o q _ => e b o q) h
def vol0 : Vol := ⟨fun _ => False, fun _ => True, fun _ _ _ _ => trivial, fun _ _ h _ => h.elim⟩
structure Pre (Y : Vol) (Hi H : Hp) : Prop where
  sub : Same Hi H
  inv : Y.I H
  out : ∀ b o, Hi b = some o → ¬ Y.W b ∧ ¬ Tb o
structure Fr (Y : Vol) (Hi H Hi' H' : Hp) : Prop where
  hi : Same Hi Hi'
  sub : Same Hi' H'
  inv : Y.I H'
  out : ∀ b o, Hi' b = some o → ¬ Y.W b ∧ ¬ Tb o
  keep : ∀ b o, H b = some o → ¬ Y.W b → ¬ Tb o → H' b = some o
  new : ∀ b o, Hi' b = some o → Hi b = some o ∨ ∀ u, H b = some u → Tb u
section
variable {Y : Vol} {Hi H Hi' H' Hi2 H2 : Hp}
theorem Fr.pre (f : Fr Y Hi H Hi' H') : Pre Y Hi' H' := ⟨f.sub, f.inv, f.out⟩
theorem Fr.refl (p : Pre Y Hi H) : Fr Y Hi H Hi H := ⟨Same.refl _, p.sub, p.inv, p.out, fun _ _ h _ _ => h, fun _ _ h => .inl h⟩
theorem Fr.trans (f : Fr Y Hi H Hi' H') (g : Fr Y Hi' H' Hi2 H2) : Fr Y Hi H Hi2 H2 where
  hi := f.hi.trans g.hi
  sub := g.sub
  inv := g.inv
  out := g.out
  keep := fun b o h hw ht => g.keep b o (f.keep b o h hw ht) hw ht
  new := fun b o h => by
    rcases g.new b o h with h1 | h1
    · exact f.new b o h1
    · refine .inr fun u hu => ?_
      by_cases ht : Tb u
      · exact ht
      · exact h1 u (f.keep b u hu (g.out b o h).1 ht)
theorem Fr.grow (p : Pre Y Hi H) (e : Same H H') : Fr Y Hi H Hi H' :=
  ⟨Same.refl _, p.sub.trans e, Y.same e p.inv, p.out, fun b o h _ _ => e b o h, fun _ _ h => .inl h⟩
theorem same_upd {q : Addr} {o : HO} (h : H q = none) : Same H (upd H q o) := fun b x e => by
  rw [upd_ne (ne_of_none e h)]
  exact e
theorem Fr.alloc (p : Pre Y Hi H) {q : Addr} {o : HO} (hq : H q = none) (ht : ¬ Tb o) : Fr Y Hi H (upd Hi q o) (upd H q o) := by
  have hiq : Hi q = none := p.sub.free hq
  refine ⟨same_upd hiq, fun b x e => ?_, Y.same (same_upd hq) p.inv, fun b x e => ?_, fun b x e _ _ => same_upd hq b x e, fun b x e => ?_⟩
  · by_cases hb : b = q
    · rw [hb, upd_same] at e ⊢
      exact e
    · rw [upd_ne hb] at e ⊢
      exact p.sub b x e
  · by_cases hb : b = q
    · rw [hb, upd_same] at e
      cases e
      exact ⟨fun w => Y.there H b w p.inv (hb ▸ hq), ht⟩
    · rw [upd_ne hb] at e
      exact p.out b x e
  · by_cases hb : b = q
    · refine .inr fun u hu => ?_
      rw [hb, hq] at hu
      cases hu
    · rw [upd_ne hb] at e
      exact .inl e
end

/-- what is known of a slot: nothing; it holds data; it holds this value; it holds a list of its own -/
inductive Ent where
  | unk | dat (d : PyData) | raw (v : V) | own (ds : List PyData)
section
variable (Y : Vol) (K : PySem.W.Frag)
def SlotOk (H0 Hi H : Hp) (x : Option V) : Ent → Prop
  | .unk => True
  | .dat d => ∃ v, x = some v ∧ Da K Hi v d
  | .raw v => x = some v
  | .own ds => ∃ a vs, x = some (.ref a) ∧ (∀ u, H0 a = some u → Tb u) ∧ Hi a = none ∧ ¬ Y.W a ∧ H a = some (.lst vs) ∧ DaAll K Hi vs ds
structure StIs (H0i H0 Hi H : Hp) (σ : L2.St) (es : List Ent) : Prop where
  fr : Fr Y H0i H0 Hi H
  len : σ.length = es.length
  env : ∀ (i : Nat) (e : Ent), es[i]? = some e → ∃ x, σ[i]? = some x ∧ SlotOk Y K H0 Hi H x e
  dis : ∀ (i j : Nat) (a : Addr) (ds ds' : List PyData), i ≠ j → es[i]? = some (Ent.own ds) → es[j]? = some (Ent.own ds') → σ[i]? = some (some (.ref a)) → σ[j]? ≠ some (some (.ref a))
/-- data that stand, or a list of one's own, of data that stand -/
def DaT (Hi H : Hp) (v : V) (d : PyData) : Prop := Da K Hi v d ∨ ∃ a vs ds, v = .ref a ∧ d = .list ds ∧ H a = some (.lst vs) ∧ ¬ Y.W a ∧ Hi a = none ∧ DaAll K Hi vs ds
end
section
variable {Y : Vol} {K : PySem.W.Frag} {H0i H0 Hi H Hi' H' : Hp} {σ : L2.St} {es : List Ent} {v : V} {d : PyData}
theorem SlotOk.step {x : Option V} {e : Ent} (h : SlotOk Y K H0 Hi H x e) (f : Fr Y Hi H Hi' H') : SlotOk Y K H0 Hi' H' x e := by
  cases e with
  | unk => trivial
  | dat d =>
    obtain ⟨v, h1, h2⟩ := h
    exact ⟨v, h1, Da.mono f.hi _ _ h2⟩
  | raw v => exact h
  | own ds =>
    obtain ⟨a, vs, h1, h2, h3, h4, h5, h6⟩ := h
    refine ⟨a, vs, h1, h2, ?_, h4, f.keep _ _ h5 h4 not_tb_lst, DaAll.mono f.hi _ _ h6⟩
    cases q : Hi' a with
    | none => rfl
    | some o =>
      rcases f.new a o q with z | z
      · rw [h3] at z
        cases z
      · exact absurd (z _ h5) not_tb_lst
theorem StIs.step (s : StIs Y K H0i H0 Hi H σ es) (f : Fr Y Hi H Hi' H') : StIs Y K H0i H0 Hi' H' σ es :=
  ⟨s.fr.trans f, s.len, fun i e h => by
    obtain ⟨x, h1, h2⟩ := s.env i e h
    exact ⟨x, h1, h2.step f⟩, s.dis⟩
theorem StIs.pre (s : StIs Y K H0i H0 Hi H σ es) : Pre Y Hi H := s.fr.pre
theorem DaT.step (h : DaT Y K Hi H v d) (f : Fr Y Hi H Hi' H') : DaT Y K Hi' H' v d := by
  rcases h with h | ⟨a, vs, ds, h1, h2, h3, h4, h5, h6⟩
  · exact .inl (Da.mono f.hi _ _ h)
  · refine .inr ⟨a, vs, ds, h1, h2, f.keep _ _ h3 h4 not_tb_lst, h4, ?_, DaAll.mono f.hi _ _ h6⟩
    cases q : Hi' a with
    | none => rfl
    | some o =>
      rcases f.new a o q with z | z
      · rw [h5] at z
        cases z
      · exact absurd (z _ h3) not_tb_lst
theorem DaT.list {ds : List PyData} (h : DaT Y K Hi H v (.list ds)) (p : Same Hi H) : ∃ a vs, v = .ref a ∧ H a = some (.lst vs) ∧ DaAll K Hi vs ds := by
  rcases h with h | ⟨a, vs, ds', h1, h2, h3, h4, h5, h6⟩
  · cases h with
    | lst h1 h2 => exact ⟨_, _, rfl, p _ _ h1, h2⟩
  · cases h2
    exact ⟨a, vs, h1, h3, h6⟩
theorem DaT.tup {ds : List PyData} (h : DaT Y K Hi H v (.tuple ds)) (p : Same Hi H) : ∃ a vs, v = .ref a ∧ SqT K H a vs ∧ SqT K Hi a vs ∧ DaAll K Hi vs ds := by
  rcases h with h | ⟨a, vs, ds', h1, h2, h3, h4, h5, h6⟩
  · cases h with
    | tup h1 h2 => exact ⟨_, _, rfl, sqt_mono p h1, h1, h2⟩
  · cases h2
theorem DaT.int {i : Int} (h : DaT Y K Hi H v (.int i)) : v = .int i := by
  rcases h with h | ⟨a, vs, ds', h1, h2, _⟩
  · cases h; rfl
  · cases h2
theorem DaT.bool {i : Bool} (h : DaT Y K Hi H v (.bool i)) : v = .bl i := by
  rcases h with h | ⟨a, vs, ds', h1, h2, _⟩
  · cases h; rfl
  · cases h2
theorem DaT.str {i : Str} (h : DaT Y K Hi H v (.str i)) : v = .str i := by
  rcases h with h | ⟨a, vs, ds', h1, h2, _⟩
  · cases h; rfl
  · cases h2
theorem DaT.none (h : DaT Y K Hi H v .none) : v = .non := by
  rcases h with h | ⟨a, vs, ds', h1, h2, _⟩
  · cases h; rfl
  · cases h2
theorem DaT.full (h : DaT Y K Hi H v d) (p : Same Hi H) : Da K H v d := by
  rcases h with h | ⟨a, vs, ds', h1, h2, h3, _, _, h6⟩
  · exact Da.mono p _ _ h
  · rw [h1, h2]
    exact .lst h3 (DaAll.mono p _ _ h6)
end
end FR
set_option maxRecDepth 100000
set_option maxHeartbeats 4000000
namespace FR
open PySem PySem.Spec PyProof.Rows L2

/-! ### what an expression gives -/
section
variable (Y : Vol) (K : PySem.W.Frag)
/-- data that stand -/
def EvD (es : List Ent) (te : TE) (P : PyData → Prop) : Prop := ∀ H0i H0 Hi H σ, StIs Y K H0i H0 Hi H σ es → ∀ Q : VK, (∀ v d Hi' H', Fr Y Hi H Hi' H' → Da K Hi' v d → P d → Q v H') → te σ H Q
/-- data, or a list of one's own -/
def EvT (es : List Ent) (te : TE) (P : PyData → Prop) : Prop := ∀ H0i H0 Hi H σ, StIs Y K H0i H0 Hi H σ es → ∀ Q : VK, (∀ v d Hi' H', Fr Y Hi H Hi' H' → DaT Y K Hi' H' v d → P d → Q v H') → te σ H Q
def TsB (es : List Ent) (t : TT) (P : Bool → Prop) : Prop := ∀ H0i H0 Hi H σ, StIs Y K H0i H0 Hi H σ es → ∀ Q : Bool → Hp → Prop, (∀ b Hi' H', Fr Y Hi H Hi' H' → P b → Q b H') → t σ H Q
def ArD (es : List Ent) (ta : TA) (P : List PyData → Prop) : Prop := ∀ H0i H0 Hi H σ, StIs Y K H0i H0 Hi H σ es → ∀ Q : List V → Hp → Prop, (∀ vs ds Hi' H', Fr Y Hi H Hi' H' → DaAll K Hi' vs ds → P ds → Q vs H') → ta σ H Q
def PaD (es : List Ent) (to : TO) (P : Option Int → Prop) : Prop := ∀ H0i H0 Hi H σ, StIs Y K H0i H0 Hi H σ es → ∀ Q : Option Int → Hp → Prop, (∀ o Hi' H', Fr Y Hi H Hi' H' → P o → Q o H') → to σ H Q
/-- operations on data -/
def OpS (r : R2) (a b : PyData) (P : PyData → Prop) : Prop := ∀ Hi H v w, Pre Y Hi H → DaT Y K Hi H v a → DaT Y K Hi H w b → ∀ Q : VK, (∀ u d Hi' H', Fr Y Hi H Hi' H' → Da K Hi' u d → P d → Q u H') → r v w H Q
def UnS (r : V → Hp → VK → Prop) (a : PyData) (P : PyData → Prop) : Prop := ∀ Hi H v, Pre Y Hi H → DaT Y K Hi H v a → ∀ Q : VK, (∀ u d Hi' H', Fr Y Hi H Hi' H' → Da K Hi' u d → P d → Q u H') → r v H Q
def CbS (r : List V → Hp → VK → Prop) (ds : List PyData) (P : PyData → Prop) : Prop := ∀ Hi H vs, Pre Y Hi H → Paired (DaT Y K Hi H) vs ds → ∀ Q : VK, (∀ u d Hi' H', Fr Y Hi H Hi' H' → Da K Hi' u d → P d → Q u H') → r vs H Q
def MtS (T : String) (r : V → List V → Hp → VK → Prop) (a : PyData) (ds : List PyData) (P : PyData → Prop) : Prop := ∀ Hi H v vs, Pre Y Hi H → DaT Y K Hi H v a → Paired (DaT Y K Hi H) vs ds → ∀ Q : VK, (∀ u d Hi' H', Fr Y Hi H Hi' H' → Da K Hi' u d → P d → Q u H') → r v vs H Q
def SlS (r : V → Option Int → Option Int → Hp → VK → Prop) (a : PyData) (lo hi : Option Int) (P : PyData → Prop) : Prop := ∀ Hi H v, Pre Y Hi H → DaT Y K Hi H v a → ∀ Q : VK, (∀ u d Hi' H', Fr Y Hi H Hi' H' → Da K Hi' u d → P d → Q u H') → r v lo hi H Q
end
section
variable {Y : Vol} {K : PySem.W.Frag} {es : List Ent} {ta tb te : TE} {t u : TT} {P P' Pa : PyData → Prop} {a b : PyData} {r : R2}
theorem EvD.tt (h : EvD Y K es te P) : EvT Y K es te P := fun H0i H0 Hi H σ s Q q => h H0i H0 Hi H σ s Q fun v d Hi' H' f hd hp => q v d Hi' H' f (.inl hd) hp
theorem EvD.mono (h : EvD Y K es te P) (i : ∀ d, P d → P' d) : EvD Y K es te P' := fun H0i H0 Hi H σ s Q q => h H0i H0 Hi H σ s Q fun v d Hi' H' f hd hp => q v d Hi' H' f hd (i d hp)
theorem EvT.mono (h : EvT Y K es te P) (i : ∀ d, P d → P' d) : EvT Y K es te P' := fun H0i H0 Hi H σ s Q q => h H0i H0 Hi H σ s Q fun v d Hi' H' f hd hp => q v d Hi' H' f hd (i d hp)
theorem TsB.mono {P P' : Bool → Prop} (h : TsB Y K es t P) (i : ∀ d, P d → P' d) : TsB Y K es t P' := fun H0i H0 Hi H σ s Q q => h H0i H0 Hi H σ s Q fun v Hi' H' f hp => q v Hi' H' f (i v hp)
theorem EvD.to {d e : PyData} (h : EvD Y K es te (· = d)) (i : d = e) : EvD Y K es te (· = e) := i ▸ h
theorem ev_var {i : Nat} {d : PyData} (h : es[i]? = some (.dat d) := by rfl) : EvD Y K es (tVar i) (· = d) := fun H0i H0 Hi H σ s Q q => by
  obtain ⟨x, e1, v, rfl, hd⟩ := s.env i _ h
  exact ⟨v, e1, q v d _ _ (Fr.refl s.pre) hd rfl⟩
theorem et_own {i : Nat} {ds : List PyData} (h : es[i]? = some (.own ds) := by rfl) : EvT Y K es (tVar i) (· = .list ds) := fun H0i H0 Hi H σ s Q q => by
  obtain ⟨x, e1, a, vs, rfl, h1, h2, h3, h4, h5⟩ := s.env i _ h
  exact ⟨.ref a, e1, q _ _ _ _ (Fr.refl s.pre) (.inr ⟨a, vs, ds, rfl, rfl, h4, h3, h2, h5⟩) rfl⟩
theorem ev_c {v : V} {d : PyData} (h : Da K (fun _ => none) v d) : EvD Y K es (tC v) (· = d) := fun H0i H0 Hi H σ s Q q =>
  q v d _ _ (Fr.refl s.pre) (Da.mono (fun _ _ e => by cases e) _ _ h) rfl
theorem ev_int {i : Int} : EvD Y K es (tC (.int i)) (· = .int i) := ev_c (.int i)
theorem ev_bl {i : Bool} : EvD Y K es (tC (.bl i)) (· = .bool i) := ev_c (.bl i)
theorem ev_str {i : Str} : EvD Y K es (tC (.str i)) (· = .str i) := ev_c (.str i)
theorem ev_non : EvD Y K es (tC .non) (· = .none) := ev_c .non
theorem ev_op {Pb : PyData → PyData → Prop} (ha : EvT Y K es ta Pa) (hb : ∀ a, Pa a → EvT Y K es tb (Pb a)) (hr : ∀ a b, Pa a → Pb a b → OpS Y K r a b P) : EvD Y K es (tOp r ta tb) P := fun H0i H0 Hi H σ s Q q =>
  ha H0i H0 Hi H σ s _ fun v a Hi1 H1 f1 va pa => hb a pa H0i H0 Hi1 H1 σ (s.step f1) _ fun w b Hi2 H2 f2 wb pb =>
    hr a b pa pb Hi2 H2 v w f2.pre (va.step f2) wb Q fun u d Hi3 H3 f3 ud pd => q u d Hi3 H3 ((f1.trans f2).trans f3) ud pd
theorem ev_opd (ha : EvT Y K es ta (· = a)) (hb : EvT Y K es tb (· = b)) (hr : OpS Y K r a b P) : EvD Y K es (tOp r ta tb) P :=
  ev_op ha (fun _ _ => hb) fun _ _ e1 e2 => e1 ▸ e2 ▸ hr
theorem ev_un {r : V → Hp → VK → Prop} (ha : EvT Y K es ta Pa) (hr : ∀ a, Pa a → UnS Y K r a P) : EvD Y K es (tUn r ta) P := fun H0i H0 Hi H σ s Q q =>
  ha H0i H0 Hi H σ s _ fun v a Hi1 H1 f1 va pa => hr a pa Hi1 H1 v f1.pre va Q fun u d Hi3 H3 f3 ud pd => q u d Hi3 H3 (f1.trans f3) ud pd
/-! arguments -/
theorem ar_nil : ArD Y K es tNil (· = []) := fun H0i H0 Hi H σ s Q q => q [] [] Hi H (Fr.refl s.pre) .nil rfl
theorem ar_cons {tr : TA} {Pr : PyData → List PyData → Prop} (ha : EvD Y K es ta Pa) (hr : ∀ a, Pa a → ArD Y K es tr (Pr a)) : ArD Y K es (tCons ta tr) (fun ds => ∃ d r, ds = d :: r ∧ Pa d ∧ Pr d r) := fun H0i H0 Hi H σ s Q q =>
  ha H0i H0 Hi H σ s _ fun v a Hi1 H1 f1 va pa => hr a pa H0i H0 Hi1 H1 σ (s.step f1) _ fun vs ds Hi2 H2 f2 hds pr => q _ _ Hi2 H2 (f1.trans f2) (.cons (Da.mono f2.hi _ _ va) hds) ⟨_, _, rfl, pa, pr⟩
theorem ar_consd {tr : TA} {ds : List PyData} (ha : EvD Y K es ta (· = a)) (hr : ArD Y K es tr (· = ds)) : ArD Y K es (tCons ta tr) (· = a :: ds) := fun H0i H0 Hi H σ s Q q =>
  ar_cons ha (fun _ _ => hr) H0i H0 Hi H σ s Q fun vs ds' Hi' H' f hd ⟨d, r, e1, e2, e3⟩ => q vs ds' Hi' H' f hd (by rw [e1, e2, e3])
theorem ArD.mono {tr : TA} {P P' : List PyData → Prop} (h : ArD Y K es tr P) (i : ∀ d, P d → P' d) : ArD Y K es tr P' := fun H0i H0 Hi H σ s Q q => h H0i H0 Hi H σ s Q fun v d Hi' H' f hd hp => q v d Hi' H' f hd (i d hp)
theorem ev_tup {tr : TA} {Pr : List PyData → Prop} (h : ArD Y K es tr Pr) (hl : ∀ ds, Pr ds → ds.length ≤ 100000) : EvD Y K es (tTup tr) (fun d => ∃ ds, d = .tuple ds ∧ Pr ds) := fun H0i H0 Hi H σ s Q q =>
  h H0i H0 Hi H σ s _ fun vs ds Hi1 H1 f1 hd pd => ⟨by rw [hd.len]; exact Nat.le_trans (hl ds pd) (by decide), fun p hp =>
    q (.ref p) (.tuple ds) _ _ (f1.trans (Fr.alloc f1.pre hp not_tb_tup)) (.tup (.inl (.inl upd_same)) (DaAll.mono (same_upd (f1.sub.free hp)) _ _ hd)) ⟨ds, rfl, pd⟩⟩
theorem ev_tupd {tr : TA} {ds : List PyData} (h : ArD Y K es tr (· = ds)) (hl : ds.length ≤ 100000 := by simp) : EvD Y K es (tTup tr) (· = .tuple ds) :=
  (ev_tup h fun _ e => e ▸ hl).mono fun d ⟨_, e1, e2⟩ => by rw [e1, e2]
theorem ev_lst {tr : TA} {Pr : List PyData → Prop} (h : ArD Y K es tr Pr) (hl : ∀ ds, Pr ds → ds.length ≤ 100000) : EvD Y K es (tLst tr) (fun d => ∃ ds, d = .list ds ∧ Pr ds) := fun H0i H0 Hi H σ s Q q =>
  h H0i H0 Hi H σ s _ fun vs ds Hi1 H1 f1 hd pd => ⟨by rw [hd.len]; exact Nat.le_trans (hl ds pd) (by decide), fun p hp =>
    q (.ref p) (.list ds) _ _ (f1.trans (Fr.alloc f1.pre hp not_tb_lst)) (.lst upd_same (DaAll.mono (same_upd (f1.sub.free hp)) _ _ hd)) ⟨ds, rfl, pd⟩⟩
theorem ev_lstd {tr : TA} {ds : List PyData} (h : ArD Y K es tr (· = ds)) (hl : ds.length ≤ 100000 := by simp) : EvD Y K es (tLst tr) (· = .list ds) :=
  (ev_lst h fun _ e => e ▸ hl).mono fun d ⟨_, e1, e2⟩ => by rw [e1, e2]
/-! tests, conditionals -/
theorem tb_test {Pt : Bool → Prop} (h : EvD Y K es te (fun d => ∃ b, d = .bool b ∧ Pt b)) : TsB Y K es (tTest te) Pt := fun H0i H0 Hi H σ s Q q =>
  h H0i H0 Hi H σ s _ fun v d Hi1 H1 f1 hd ⟨b, e, pb⟩ => by
    subst e
    cases hd
    exact ⟨b, rfl, q b Hi1 H1 f1 pb⟩
theorem tb_testd {b : Bool} (h : EvD Y K es te (· = .bool b)) : TsB Y K es (tTest te) (· = b) := tb_test (h.mono fun d e => ⟨b, e, rfl⟩)
theorem tb_B {Pt : Bool → Prop} (h : EvD Y K es te (fun d => ∃ b, d = .bool b ∧ Pt b)) : TsB Y K es (tB te) Pt := fun H0i H0 Hi H σ s Q q =>
  h H0i H0 Hi H σ s _ fun v d Hi1 H1 f1 hd ⟨b, e, pb⟩ => by
    subst e
    cases hd
    exact ⟨b, rfl, q b Hi1 H1 f1 pb⟩
theorem tb_Bd {b : Bool} (h : EvD Y K es te (· = .bool b)) : TsB Y K es (tB te) (· = b) := tb_B (h.mono fun d e => ⟨b, e, rfl⟩)
theorem tb_not {Pt : Bool → Prop} (h : TsB Y K es t Pt) : TsB Y K es (tNot t) (fun b => Pt (!b)) := fun H0i H0 Hi H σ s Q q =>
  h H0i H0 Hi H σ s _ fun b Hi1 H1 f1 pb => q (!b) Hi1 H1 f1 (by show Pt (!(!b)); rw [Bool.not_not]; exact pb)
theorem tb_notd {b : Bool} (h : TsB Y K es t (· = b)) : TsB Y K es (tNot t) (· = !b) := (tb_not h).mono fun c e => by rw [← e, Bool.not_not]
theorem tb_and {P1 P2 : Bool → Prop} (h1 : TsB Y K es t P1) (hf : P1 false → P2 false) (h2 : P1 true → TsB Y K es u P2) : TsB Y K es (tAnd t u) P2 := fun H0i H0 Hi H σ s Q q =>
  h1 H0i H0 Hi H σ s _ fun b Hi1 H1 f1 pb => by
    cases b with
    | true =>
      show u σ H1 Q
      exact h2 pb H0i H0 Hi1 H1 σ (s.step f1) Q fun b2 Hi2 H2 f2 p2 => q b2 Hi2 H2 (f1.trans f2) p2
    | false =>
      show Q false H1
      exact q false Hi1 H1 f1 (hf pb)
theorem tb_andd {b c : Bool} (h1 : TsB Y K es t (· = b)) (h2 : b = true → TsB Y K es u (· = c)) : TsB Y K es (tAnd t u) (· = (b && c)) :=
  tb_and h1 (fun e => by rw [← e]; rfl) fun e => (h2 e.symm).mono fun d ed => by rw [← e, ed]; rfl
theorem tb_or {P1 P2 : Bool → Prop} (h1 : TsB Y K es t P1) (hf : P1 true → P2 true) (h2 : P1 false → TsB Y K es u P2) : TsB Y K es (tOr t u) P2 := fun H0i H0 Hi H σ s Q q =>
  h1 H0i H0 Hi H σ s _ fun b Hi1 H1 f1 pb => by
    cases b with
    | false =>
      show u σ H1 Q
      exact h2 pb H0i H0 Hi1 H1 σ (s.step f1) Q fun b2 Hi2 H2 f2 p2 => q b2 Hi2 H2 (f1.trans f2) p2
    | true =>
      show Q true H1
      exact q true Hi1 H1 f1 (hf pb)
theorem tb_ord {b c : Bool} (h1 : TsB Y K es t (· = b)) (h2 : b = false → TsB Y K es u (· = c)) : TsB Y K es (tOr t u) (· = (b || c)) :=
  tb_or h1 (fun e => by rw [← e]; rfl) fun e => (h2 e.symm).mono fun d ed => by rw [← e, ed]; rfl
theorem ev_andV {b c : Bool} (h1 : EvD Y K es ta (· = .bool b)) (h2 : b = true → EvD Y K es tb (· = .bool c)) : EvD Y K es (tAndV ta tb) (· = .bool (b && c)) := fun H0i H0 Hi H σ s Q q =>
  h1 H0i H0 Hi H σ s _ fun v d Hi1 H1 f1 hd e => by
    subst e
    cases hd
    refine ⟨b, rfl, ?_⟩
    cases b with
    | true =>
      show tb σ H1 Q
      exact h2 rfl H0i H0 Hi1 H1 σ (s.step f1) Q fun v d Hi2 H2 f2 p2 e2 => q v d Hi2 H2 (f1.trans f2) p2 e2
    | false =>
      show Q (.bl false) H1
      exact q _ _ Hi1 H1 f1 (.bl false) rfl
theorem ev_orV {b c : Bool} (h1 : EvD Y K es ta (· = .bool b)) (h2 : b = false → EvD Y K es tb (· = .bool c)) : EvD Y K es (tOrV ta tb) (· = .bool (b || c)) := fun H0i H0 Hi H σ s Q q =>
  h1 H0i H0 Hi H σ s _ fun v d Hi1 H1 f1 hd e => by
    subst e
    cases hd
    refine ⟨b, rfl, ?_⟩
    cases b with
    | false =>
      show tb σ H1 Q
      exact h2 rfl H0i H0 Hi1 H1 σ (s.step f1) Q fun v d Hi2 H2 f2 p2 e2 => q v d Hi2 H2 (f1.trans f2) p2 e2
    | true =>
      show Q (.bl true) H1
      exact q _ _ Hi1 H1 f1 (.bl true) rfl
theorem ev_notV {b : Bool} (h1 : EvD Y K es ta (· = .bool b)) : EvD Y K es (tNotV ta) (· = .bool (!b)) := fun H0i H0 Hi H σ s Q q =>
  h1 H0i H0 Hi H σ s _ fun v d Hi1 H1 f1 hd e => by
    subst e
    cases hd
    exact ⟨b, rfl, q _ _ Hi1 H1 f1 (.bl _) rfl⟩
theorem ev_if {Pt : Bool → Prop} (h : TsB Y K es t Pt) (h1 : Pt true → EvD Y K es ta P) (h2 : Pt false → EvD Y K es tb P) : EvD Y K es (tIf t ta tb) P := fun H0i H0 Hi H σ s Q q =>
  h H0i H0 Hi H σ s _ fun b Hi1 H1 f1 pb => by
    cases b with
    | true =>
      show ta σ H1 Q
      exact h1 pb H0i H0 Hi1 H1 σ (s.step f1) Q fun v d Hi2 H2 f2 p2 e2 => q v d Hi2 H2 (f1.trans f2) p2 e2
    | false =>
      show tb σ H1 Q
      exact h2 pb H0i H0 Hi1 H1 σ (s.step f1) Q fun v d Hi2 H2 f2 p2 e2 => q v d Hi2 H2 (f1.trans f2) p2 e2
theorem ev_ifd {b : Bool} {x y : PyData} (h : TsB Y K es t (· = b)) (h1 : b = true → EvD Y K es ta (· = x)) (h2 : b = false → EvD Y K es tb (· = y)) : EvD Y K es (tIf t ta tb) (· = if b = true then x else y) :=
  ev_if h (fun e => (h1 e.symm).mono fun d z => by rw [← e, z]; rfl) (fun e => (h2 e.symm).mono fun d z => by rw [← e, z]; rfl)
/-! slices -/
theorem pa_none : PaD Y K es tNoPart (· = none) := fun H0i H0 Hi H σ s Q q => q none Hi H (Fr.refl s.pre) rfl
theorem pa_some {i : Int} (h : EvD Y K es te (· = .int i)) : PaD Y K es (tPart te) (· = some i) := fun H0i H0 Hi H σ s Q q =>
  h H0i H0 Hi H σ s _ fun v d Hi1 H1 f1 hd e => by
    subst e
    cases hd
    exact ⟨i, rfl, q _ Hi1 H1 f1 rfl⟩
theorem ev_sl {rs : V → Option Int → Option Int → Hp → VK → Prop} {tl th : TO} {lo hi : Option Int} (h : EvT Y K es te (· = a)) (hl : PaD Y K es tl (· = lo)) (hh : PaD Y K es th (· = hi)) (hr : SlS Y K rs a lo hi P) : EvD Y K es (tSl rs te tl th) P := fun H0i H0 Hi H σ s Q q =>
  h H0i H0 Hi H σ s _ fun v d Hi1 H1 f1 hd e => hl H0i H0 Hi1 H1 σ (s.step f1) _ fun o Hi2 H2 f2 e2 => hh H0i H0 Hi2 H2 σ (s.step (f1.trans f2)) _ fun o2 Hi3 H3 f3 e3 => by
    subst e e2 e3
    exact hr Hi3 H3 v f3.pre (hd.step (f2.trans f3)) Q fun u d Hi4 H4 f4 ud pd => q u d Hi4 H4 (((f1.trans f2).trans f3).trans f4) ud pd
/-! built-in calls, methods -/
theorem ev_cb1 {rc : List V → Hp → VK → Prop} (ha : EvT Y K es ta Pa) (hr : ∀ a, Pa a → CbS Y K rc [a] P) : EvD Y K es (tCB rc (tCons ta tNil)) P := fun H0i H0 Hi H σ s Q q =>
  ha H0i H0 Hi H σ s _ fun v a Hi1 H1 f1 va pa => hr a pa Hi1 H1 [v] f1.pre (.cons va .nil) Q fun u d Hi3 H3 f3 ud pd => q u d Hi3 H3 (f1.trans f3) ud pd
theorem ev_cb1d {rc : List V → Hp → VK → Prop} (ha : EvT Y K es ta (· = a)) (hr : CbS Y K rc [a] P) : EvD Y K es (tCB rc (tCons ta tNil)) P := ev_cb1 ha fun _ e => e ▸ hr
theorem ev_cb2 {rc : List V → Hp → VK → Prop} {Pb : PyData → PyData → Prop} (ha : EvT Y K es ta Pa) (hb : ∀ a, Pa a → EvT Y K es tb (Pb a)) (hr : ∀ a b, Pa a → Pb a b → CbS Y K rc [a, b] P) : EvD Y K es (tCB rc (tCons ta (tCons tb tNil))) P := fun H0i H0 Hi H σ s Q q =>
  ha H0i H0 Hi H σ s _ fun v a Hi1 H1 f1 va pa => hb a pa H0i H0 Hi1 H1 σ (s.step f1) _ fun w b Hi2 H2 f2 wb pb =>
    hr a b pa pb Hi2 H2 [v, w] f2.pre (.cons (va.step f2) (.cons wb .nil)) Q fun u d Hi3 H3 f3 ud pd => q u d Hi3 H3 ((f1.trans f2).trans f3) ud pd
theorem ev_cb2d {rc : List V → Hp → VK → Prop} (ha : EvT Y K es ta (· = a)) (hb : EvT Y K es tb (· = b)) (hr : CbS Y K rc [a, b] P) : EvD Y K es (tCB rc (tCons ta (tCons tb tNil))) P :=
  ev_cb2 ha (fun _ _ => hb) fun _ _ e1 e2 => e1 ▸ e2 ▸ hr
def tyD (T : String) : PyData → Prop
  | .str _ => T = "str"
  | .list _ => T = "list"
  | _ => False
theorem tyV_of {T : String} {Hi H : Hp} {v : V} {d : PyData} (h : DaT Y K Hi H v d) (p : Same Hi H) (ht : tyD T d) : tyV K T v H := by
  cases d with
  | str x =>
    rw [h.str]
    exact ht
  | list ds =>
    obtain ⟨a, vs, rfl, h1, _⟩ := h.list p
    exact .inl ⟨ht, vs, .inl (.inl h1)⟩
  | _ => exact ht.elim
theorem ev_m1 {T : String} {rm : V → List V → Hp → VK → Prop} (ht : tyD T a) (ha : EvT Y K es ta (· = a)) (hb : EvT Y K es tb (· = b)) (hr : MtS Y K T rm a [b] P) : EvD Y K es (tBM K T rm ta (tCons tb tNil)) P := fun H0i H0 Hi H σ s Q q =>
  ha H0i H0 Hi H σ s _ fun v a' Hi1 H1 f1 va pa => by
    subst pa
    exact ⟨tyV_of va f1.sub ht, hb H0i H0 Hi1 H1 σ (s.step f1) _ fun w b' Hi2 H2 f2 wb pb => by
      subst pb
      exact hr Hi2 H2 v [w] f2.pre (va.step f2) (.cons wb .nil) Q fun u d Hi3 H3 f3 ud pd => q u d Hi3 H3 ((f1.trans f2).trans f3) ud pd⟩
theorem ev_m0 {T : String} {rm : V → List V → Hp → VK → Prop} (ht : tyD T a) (ha : EvT Y K es ta (· = a)) (hr : MtS Y K T rm a [] P) : EvD Y K es (tBM0 K T rm ta) P := fun H0i H0 Hi H σ s Q q =>
  ha H0i H0 Hi H σ s _ fun v a' Hi1 H1 f1 va pa => by
    subst pa
    exact ⟨tyV_of va f1.sub ht, hr Hi1 H1 v [] f1.pre va .nil Q fun u d Hi3 H3 f3 ud pd => q u d Hi3 H3 (f1.trans f3) ud pd⟩
end
end FR
set_option maxRecDepth 100000
set_option maxHeartbeats 4000000
namespace FR
open PySem PySem.Spec PyProof.Rows L2

/-! ### operators for several kinds at once -/
section
variable {X : Cx}
theorem OpR.or {f : Value → Value → Sem Value} {r r' : R2} (h : OpR X f r) (h' : OpR X f r') : OpR X f (fun x y H Q => r x y H Q ∨ r' x y H Q) := by
  intro pins s σ H x y v u Q I rx ry q
  rcases q with q | q
  · exact h pins s σ H x y v u Q I rx ry q
  · exact h' pins s σ H x y v u Q I rx ry q
theorem PI.or {tg it : Expr} {w w' : TI} (h : PI X tg it w) (h' : PI X tg it w') : PI X tg it (fun σ H R => w σ H R ∨ w' σ H R) := by
  refine ⟨fun pins s σ H R I q => ?_⟩
  rcases q with q | q
  · exact h.run pins s σ H R I q
  · exact h'.run pins s σ H R I q
theorem MtR.or {id : String} {r r' : V → List V → Hp → VK → Prop} (h : MtR X id r) (h' : MtR X id r') : MtR X id (fun x xs H Q => r x xs H Q ∨ r' x xs H Q) := by
  intro pins s σ H x xs v us Q I rx rs q
  rcases q with q | q
  · exact h pins s σ H x xs v us Q I rx rs q
  · exact h' pins s σ H x xs v us Q I rx rs q
/-! text * int -/
def repS (z : Str) (n : Int) : Str := ⟨(List.replicate n.toNat z.cps.toList).flatten.toArray⟩
def rMulS : R2 := fun x y H Q => ∃ z n, x = .str z ∧ y = .int n ∧ z.length ≤ 1000 ∧ -1000000 ≤ n ∧ n ≤ 10000 ∧ Q (.str (repS z n)) H
theorem foldl_cps (x : Array Nat) : ∀ (m : Nat) (acc : Array Nat), (List.replicate m x).foldl (· ++ ·) acc = acc ++ (List.replicate m x.toList).flatten.toArray
  | 0, acc => by simp
  | m + 1, acc => by
    rw [List.replicate_succ, List.foldl_cons, foldl_cps x m, List.replicate_succ, List.flatten_cons]
    apply Array.toList_inj.mp
    simp
theorem op_mulS : OpR X (binaryOp .Mult) rMulS := by
  intro pins s σ H x y v u Q I rx ry h
  obtain ⟨z, n, rfl, rfl, hz, h1, h2, q⟩ := h
  obtain ⟨t, rfl⟩ := rx
  obtain ⟨t2, rfl⟩ := ry
  have e1 : ¬ n < -(2 ^ 63 : Int) := by omega
  have e2 : ¬ n ≥ (2 ^ 63 : Int) := by omega
  refine PySem.P.mul_str (by rw [decide_eq_false e1, decide_eq_false e2]; rfl) (fun h3 _ h5 => ?_) (fun h3 _ => ?_) ?_
  · have e3 : (1000 : Int) ≤ (2 ^ 63 - 1) / n := by
      rw [Int.le_ediv_iff_mul_le (by omega)]
      have : (1000 : Int) * n ≤ 1000 * 10000 := Int.mul_le_mul_of_nonneg_left h2 (by decide)
      omega
    omega
  · have e3 : z.length * n.toNat ≤ 1000 * 10000 := Nat.mul_le_mul hz (by omega)
    show decide (z.length * n.toNat > sizeLine) = false
    apply decide_eq_false
    have : (10000000 : Nat) ≤ sizeLine := by decide
    omega
  · have fin : ∀ s' : Shared, Inv X pins σ H s' → EP X pins σ Q (.str (repS z n) s.toks) s' := fun s' I' => ⟨.str (repS z n), H, I', ⟨_, rfl⟩, q⟩
    by_cases hn : n < 1
    · rw [if_pos hn]
      have e : repS z n = Str.empty := by
        unfold repS
        have : n.toNat = 0 := by omega
        rw [this]
        rfl
      rw [e] at fin q
      exact ⟨by decide, fin _ (I.tok _)⟩
    · rw [if_neg hn]
      have key : repS z n = ⟨(List.replicate n.toNat z.cps).foldl (· ++ ·) #[]⟩ := by
        unfold repS
        rw [foldl_cps]
        simp
      by_cases hn1 : (n == 1 || z.length == 0) = true
      · rw [if_pos hn1]
        have e : repS z n = z := by
          rcases Bool.or_eq_true_iff.mp hn1 with e | e
          · have e := eq_of_beq e
            subst e
            unfold repS
            show (⟨(List.replicate 1 z.cps.toList).flatten.toArray⟩ : Str) = z
            simp [List.replicate_succ]
          · have e : z.length = 0 := eq_of_beq e
            have e2 : z.cps.toList = [] := by
              have : z.cps.toList.length = 0 := by simpa [Str.length] using e
              exact List.eq_nil_of_length_eq_zero this
            unfold repS
            rw [e2]
            have : (List.replicate n.toNat ([] : List Nat)).flatten = [] := by simp
            rw [this]
            obtain ⟨c⟩ := z
            show (⟨#[]⟩ : Str) = ⟨c⟩
            have e3 : c = #[] := Array.toList_inj.mp (by simpa using e2)
            rw [e3]
        rw [e] at q
        exact ⟨.str z, H, I, ⟨t, rfl⟩, q⟩
      · rw [if_neg hn1, ← key]
        refine ⟨?_, fin _ (I.tok _)⟩
        show (repS z n).length ≤ sizeLine
        have e3 : z.length * n.toNat ≤ 1000 * 10000 := Nat.mul_le_mul hz (by omega)
        have e4 : (repS z n).length = n.toNat * z.length := by
          unfold repS
          simp [Str.length]
        rw [e4, Nat.mul_comm]
        have : (10000000 : Nat) ≤ sizeLine := by decide
        omega
end
end FR
set_option maxRecDepth 100000
set_option maxHeartbeats 4000000
namespace FR
open PySem PySem.Spec PyProof.Rows L2

abbrev rAddI : R2 := rI0 fun i j => .int (i + j)
abbrev rSubI : R2 := rI0 fun i j => .int (i - j)
abbrev rMulI : R2 := rI CMul fun i j => .int (i * j)
abbrev rAddS : R2 := fun x y H Q => ∃ i j, x = .str i ∧ y = .str j ∧ i.length + j.length ≤ sizeLine ∧ Q (.str (i ++ j)) H
def rAddU (K : PySem.W.Frag) : R2 := fun x y H Q => ((rAddI x y H Q ∨ rAddS x y H Q) ∨ rCat x y H Q) ∨ rCatA K x y H Q
def rMulU : R2 := fun x y H Q => (rMulI x y H Q ∨ rMulS x y H Q) ∨ rRep x y H Q
def rEqU (K : PySem.W.Frag) : R2 := fun x y H Q => rEq x y H Q ∨ rEqD K x y H Q
def rNeU (K : PySem.W.Frag) : R2 := fun x y H Q => rNe x y H Q ∨ rNeD K x y H Q
abbrev rInSub : R2 := fun x y H Q => ∃ i j, x = .str i ∧ y = .str j ∧ Q (.bl (!(Builtin.Str.occurrences j i 0 j.length 1).isEmpty)) H
abbrev rNotInSub : R2 := fun x y H Q => ∃ i j, x = .str i ∧ y = .str j ∧ Q (.bl (!(!(Builtin.Str.occurrences j i 0 j.length 1).isEmpty))) H
abbrev rInSg : R2 := fun x y H Q => ∃ (c : Nat) (z : Str), x = .str ⟨#[c]⟩ ∧ y = .str z ∧ Q (.bl (decide (c ∈ z.cps.toList))) H
abbrev rNotInSg : R2 := fun x y H Q => ∃ (c : Nat) (z : Str), x = .str ⟨#[c]⟩ ∧ y = .str z ∧ Q (.bl (!decide (c ∈ z.cps.toList))) H
def rInU (K : PySem.W.Frag) : R2 := fun x y H Q => (rIn K false x y H Q ∨ rInSub x y H Q) ∨ rInSg x y H Q
def rNotInU (K : PySem.W.Frag) : R2 := fun x y H Q => (rIn K true x y H Q ∨ rNotInSub x y H Q) ∨ rNotInSg x y H Q
def rSlU (K : PySem.W.Frag) : V → Option Int → Option Int → Hp → VK → Prop := fun x lo hi H Q => (rSlL K x lo hi H Q ∨ rSlA K x lo hi H Q) ∨ C8.rSlX x lo hi H Q
abbrev rLenL (K : PySem.W.Frag) : List V → Hp → VK → Prop := fun xs H Q => ∃ p ys, xs = [.ref p] ∧ (SqL K H p ys ∨ SqT K H p ys) ∧ Q (.int ys.length) H
abbrev rLenT : List V → Hp → VK → Prop := fun xs H Q => ∃ z, xs = [.str z] ∧ z.length ≤ sizeLine ∧ Q (.int z.length) H
def rLenU (K : PySem.W.Frag) : List V → Hp → VK → Prop := fun xs H Q => rLenL K xs H Q ∨ rLenT xs H Q
def iSeqU (K : PySem.W.Frag) (tl : TE) : TI := fun σ H R => (iList K tl σ H R ∨ iTup K tl σ H R) ∨ iStr tl σ H R
section
variable {X : Cx}
theorem op_addU : OpR X (binaryOp .Add) (rAddU X.K) := OpR.or (OpR.or (OpR.or op_add op_add_str) op_cat) op_catA
theorem op_mulU : OpR X (binaryOp .Mult) rMulU := OpR.or (OpR.or op_mul op_mulS) op_rep
theorem op_eqU (hu : X.A.units + 64 < cLine) : OpR X (compareOp .Eq) (rEqU X.K) := OpR.or op_eq (op_eqD hu)
theorem op_neU (hu : X.A.units + 64 < cLine) : OpR X (compareOp .NotEq) (rNeU X.K) := OpR.or op_ne (op_neD hu)
theorem op_inU : OpR X (compareOp .In) (rInU X.K) := OpR.or (OpR.or op_in_seq op_in_str) op_in_sign
theorem op_notInU : OpR X (compareOp .NotIn) (rNotInU X.K) := OpR.or (OpR.or op_notIn_seq op_notin_str) op_notIn_sign
theorem sl_U : SlR X (rSlU X.K) := SlR.or (SlR.or sl_list sl_tupA) C8.sl_txt
theorem call_lenU : CallR X (.builtin "len") (rLenU X.K) := CallR.or call_len_seq call_len_str
theorem pi_seqU {tg e : Expr} {te : TE} (he : PE X e te) : PI X tg e (iSeqU X.K te) := PI.or (PI.or (pi_list he) (pi_tup he)) (pi_str he)
/-! repr -/
/-- no dict in it, or one of texts and ints -/
def NoDc (d : PyData) : Prop := d.hasDict = false ∨ ∃ kvs : List (Str × Int), d = .dict (kvs.map fun p => (PyData.str p.1, PyData.int p.2))
theorem reads_dict {P : Program} {w : World} {h : Heap} : ∀ {kvs : List (Str × Int)} {es : List DictEntry} {vs : List (Key × Value)}, KV (kvs.map fun p => ((.inr p.1 : Key), V.int p.2)) vs → Pairs (mixKind P w) es vs → ReadsAll h (es.map (·.key)) ((kvs.map fun p => (PyData.str p.1, PyData.int p.2)).map (·.1)) [] ∧ ReadsAll h (es.map (·.val)) ((kvs.map fun p => (PyData.str p.1, PyData.int p.2)).map (·.2)) []
  | [], _, _, r, p => by
    cases r
    cases p
    exact ⟨.nil, .nil⟩
  | (x, i) :: kvs, _, _, r, p => by
    cases r with
    | @cons _ kv _ _ r1 rr =>
      obtain ⟨k, v⟩ := kv
      cases p with
      | @cons e _ es _ k1 v1 pp =>
        obtain ⟨h1, h2⟩ := reads_dict (h := h) rr pp
        obtain ⟨e1, t2, e2⟩ := r1
        have e1 : (.inr x : Key) = k := e1
        have e2 : v = Value.int i t2 := e2
        subst e1 e2
        have v1 : e.val = Value.int i t2 := v1
        have k1 : keyIs (.inr x) e.key = true := k1
        rcases keyIs_shape k1 with ⟨_, _, z, _⟩ | ⟨y, t, z, ek⟩
        · cases z
        · cases z
          constructor
          · show ReadsAll h (e.key :: es.map (·.key)) (.str x :: _) ([] ++ [])
            rw [ek]
            exact .cons (.str _ _) h1
          · show ReadsAll h (e.val :: es.map (·.val)) (.int i :: _) ([] ++ [])
            rw [v1]
            exact .cons (.int _ _) h2
def rRepr (K : PySem.W.Frag) : List V → Hp → VK → Prop := fun xs H Q => ∃ v d, xs = [v] ∧ Da K H v d ∧ d.showable = true ∧ NoDc d ∧ d.depth ≤ 60 ∧ d.shown.length ≤ sizeLine ∧ Q (.str d.shown) H
theorem call_repr (hu : X.A.units + 64 < cLine) (hg : X.A.guards = some []) : CallR X (.builtin "repr") (rRepr X.K) := by
  intro pins s σ H xs us Q I r h
  obtain ⟨v, d, rfl, hd, h1, h2, h3, h4, q⟩ := h
  obtain ⟨u, rfl, ru⟩ := vals1 r
  have heap : ∀ a, u = .ref a → wpAny (model X.prog X.w) X.A (call (.builtin "repr") [u]) (EP X pins σ Q) X.xe s := fun a e => by
    obtain ⟨as, r1, hsm⟩ : ∃ as, Reads s.heap u d as ∧ (d.hasDict = true → sysModules ∉ as) := by
      rcases h2 with h2 | ⟨kvs, rfl⟩
      · obtain ⟨as, r1⟩ := Dp.reads I d v u (Da.dp _ _ h2 hd) ru
        exact ⟨as, r1, PyData.noDict_hsm h2⟩
      · cases hd with
        | @dct b ks _ e1 hb =>
          rw [e1]
          have x : ObjOk X.prog X.w H s.heap b (.dK (ks.map fun p => ((.inr p.1 : Key), V.int p.2))) := I.hok b _ hb
          obtain ⟨_, hsys, vs, rk, o, es, ep, ho, hx, hdt, _, hps, _⟩ := x
          obtain ⟨r1, r2⟩ := reads_dict (h := s.heap) rk hps
          obtain rfl : u = Value.ref b := ru
          refine ⟨_, .dict ho hx.1 hdt r1 r2, fun _ hm => ?_⟩
          have hm : sysModules ∈ [b] := hm
          rw [List.mem_singleton] at hm
          rw [hm] at hsys
          simp at hsys
        | exc e0 _ _ _ =>
          cases kvs with
          | nil => cases e0
          | cons p r =>
            rw [List.map_cons] at e0
            injection e0 with e0 _
            injection e0 with e0 _
            cases e0
        | exn e0 _ =>
          cases kvs with
          | nil => cases e0
          | cons p r =>
            rw [List.map_cons] at e0
            injection e0 with e0 _
            injection e0 with e0 _
            cases e0
        | ins e0 _ _ _ =>
          cases kvs with
          | nil => cases e0
          | cons p r =>
            rw [List.map_cons] at e0
            injection e0 with e0 _
            injection e0 with e0 _
            cases e0
    subst e
    refine repr_of_reads' r1 h1 hsm hg (by omega) (fun _ _ e => e) (fun h' t tk hk => ?_) h4
    exact ⟨.str d.shown, H, I.kept hk, ⟨t, rfl⟩, q⟩
  cases d with
  | none =>
    cases hd
    cases ru
    exact PySem.P.repr_of_none ⟨.str _, H, I.tok _, ⟨_, rfl⟩, q⟩
  | bool b =>
    cases hd
    cases ru
    exact PySem.P.repr_of_bool ⟨.str _, H, I.tok _, ⟨_, rfl⟩, q⟩
  | int i =>
    cases hd
    obtain ⟨t, rfl⟩ := ru
    exact PySem.P.repr_of_int (of_decide_eq_true h1) ⟨.str _, H, I.tok _, ⟨_, rfl⟩, q⟩
  | str x =>
    cases hd
    obtain ⟨t, rfl⟩ := ru
    exact PySem.P.repr_of_str (hsz := h4) ⟨.str _, H, I.tok _, ⟨_, rfl⟩, q⟩
  | list ds =>
    cases hd with
    | lst _ _ => exact heap _ ru
  | tuple ds =>
    cases hd with
    | tup _ _ => exact heap _ ru
  | dict _ =>
    cases hd with
    | dct _ _ => exact heap _ ru
    | exc _ _ _ _ => exact heap _ ru
    | exn _ _ => exact heap _ ru
    | ins _ _ _ _ => exact heap _ ru
end

/-! ### what they do with data -/
section
variable {Y : Vol} {K : PySem.W.Frag} {P : PyData → Prop}
theorem os_of {r : R2} {a b d : PyData} (h : ∀ Hi H v w, Pre Y Hi H → DaT Y K Hi H v a → DaT Y K Hi H w b → ∀ Q : VK, (∀ u Hi' H', Fr Y Hi H Hi' H' → Da K Hi' u d → Q u H') → r v w H Q) : OpS Y K r a b (· = d) :=
  fun Hi H v w p ha hb Q q => h Hi H v w p ha hb Q fun u Hi' H' f hd => q u d Hi' H' f hd rfl
theorem os_ii {g : Int → Int → V} {i j : Int} {d : PyData} (h : Da K (fun _ => none) (g i j) d) : OpS Y K (rI0 g) (.int i) (.int j) (· = d) := os_of fun Hi H v w p ha hb Q q =>
  ⟨i, j, ha.int, hb.int, q _ Hi H (Fr.refl p) (Da.mono (fun _ _ e => by cases e) _ _ h)⟩
theorem os_iiC {C : Int → Int → Prop} {g : Int → Int → V} {i j : Int} {d : PyData} (hc : C i j) (h : Da K (fun _ => none) (g i j) d) : OpS Y K (rI C g) (.int i) (.int j) (· = d) := os_of fun Hi H v w p ha hb Q q =>
  ⟨i, j, ha.int, hb.int, hc, q _ Hi H (Fr.refl p) (Da.mono (fun _ _ e => by cases e) _ _ h)⟩
theorem os_addI {i j : Int} : OpS Y K (rAddU K) (.int i) (.int j) (· = .int (i + j)) := fun Hi H v w p ha hb Q q => .inl (.inl (.inl (os_ii (.int _) Hi H v w p ha hb Q q)))
theorem os_addS {x y : Str} (hl : x.length + y.length ≤ 1000000) : OpS Y K (rAddU K) (.str x) (.str y) (· = .str (x ++ y)) := fun Hi H v w p ha hb Q q =>
  .inl (.inl (.inr ⟨x, y, ha.str, hb.str, Nat.le_trans hl (by decide), q _ _ Hi H (Fr.refl p) (.str _) rfl⟩))
theorem os_addL {xs ys : List PyData} (hl : xs.length + ys.length ≤ 1000000) : OpS Y K (rAddU K) (.list xs) (.list ys) (· = .list (xs ++ ys)) := fun Hi H v w p ha hb Q q => by
  obtain ⟨a, vs, rfl, h1, h2⟩ := ha.list p.sub
  obtain ⟨b, ws, rfl, h3, h4⟩ := hb.list p.sub
  exact .inl (.inr ⟨a, b, vs, ws, rfl, rfl, h1, h3, by rw [h2.len, h4.len]; exact Nat.le_trans hl (by decide), fun z hz =>
    q _ _ _ _ (Fr.alloc p hz not_tb_lst) (.lst upd_same (DaAll.mono (same_upd (p.sub.free hz)) _ _ (h2.append h4))) rfl⟩)
theorem os_addT {xs ys : List PyData} (hl : xs.length + ys.length ≤ 1000000) : OpS Y K (rAddU K) (.tuple xs) (.tuple ys) (· = .tuple (xs ++ ys)) := fun Hi H v w p ha hb Q q => by
  obtain ⟨a, vs, rfl, h1, h1', h2⟩ := ha.tup p.sub
  obtain ⟨b, ws, rfl, h3, h3', h4⟩ := hb.tup p.sub
  refine .inr ⟨a, b, vs, ws, rfl, rfl, h1, h3, by rw [h2.len, h4.len]; exact Nat.le_trans hl (by decide), fun e => ?_, fun e1 e2 => ?_, fun e1 e2 z hz => ?_⟩
  · subst e
    cases h2
    exact q _ _ Hi H (Fr.refl p) (.tup h3' h4) rfl
  · subst e2
    cases h4
    exact q _ _ Hi H (Fr.refl p) (.tup h1' h2) (by rw [List.append_nil])
  · exact q _ _ _ _ (Fr.alloc p hz not_tb_tup) (.tup (.inl (.inl upd_same)) (DaAll.mono (same_upd (p.sub.free hz)) _ _ (h2.append h4))) rfl
theorem os_mulI {i j : Int} (hc : CMul i j) : OpS Y K rMulU (.int i) (.int j) (· = .int (i * j)) := fun Hi H v w p ha hb Q q => .inl (.inl (os_iiC hc (.int _) Hi H v w p ha hb Q q))
theorem os_mulS {z : Str} {n : Int} (h1 : z.length ≤ 1000) (h2 : -1000000 ≤ n) (h3 : n ≤ 10000) : OpS Y K rMulU (.str z) (.int n) (· = .str (repS z n)) := fun Hi H v w p ha hb Q q =>
  .inl (.inr ⟨z, n, ha.str, hb.int, h1, h2, h3, q _ _ Hi H (Fr.refl p) (.str _) rfl⟩)
theorem DaAll.reps {Hi : Hp} {vs : List V} {ds : List PyData} (h : DaAll K Hi vs ds) : ∀ n : Nat, DaAll K Hi (List.replicate n vs).flatten (List.replicate n ds).flatten
  | 0 => by simp only [List.replicate_zero, List.flatten_nil]; exact .nil
  | n + 1 => by
    rw [List.replicate_succ, List.replicate_succ, List.flatten_cons, List.flatten_cons]
    exact h.append (DaAll.reps h n)
theorem os_mulL {ds : List PyData} {n : Int} (h1 : ds.length ≤ 1000) (h2 : 0 ≤ n) (h3 : n ≤ 1000) : OpS Y K rMulU (.list ds) (.int n) (· = .list (List.replicate n.toNat ds).flatten) := fun Hi H v w p ha hb Q q => by
  obtain ⟨a, vs, rfl, h4, h5⟩ := ha.list p.sub
  refine .inr ⟨a, n, vs, rfl, hb.int, h4, by omega, by omega, ?_, fun z hz => q _ _ _ _ (Fr.alloc p hz not_tb_lst) (.lst upd_same (DaAll.mono (same_upd (p.sub.free hz)) _ _ (h5.reps _))) rfl⟩
  rw [h5.len]
  have : ds.length * n.toNat ≤ 1000 * 1000 := Nat.mul_le_mul h1 (by omega)
  exact Nat.le_trans this (by decide)
/-! equality -/
theorem os_eqI {i j : Int} : OpS Y K (rEqU K) (.int i) (.int j) (· = .bool (decide (i = j))) := fun Hi H v w p ha hb Q q => by
  rw [ha.int, hb.int]
  refine .inl ⟨rfl, ?_⟩
  have e : decide (V.int i = V.int j) = decide (i = j) := by
    by_cases e : i = j
    · subst e; simp
    · rw [decide_eq_false e, decide_eq_false fun z => e (V.int.inj z)]
  rw [e]
  exact q _ _ Hi H (Fr.refl p) (.bl _) rfl
theorem os_neI {i j : Int} : OpS Y K (rNeU K) (.int i) (.int j) (· = .bool (!decide (i = j))) := fun Hi H v w p ha hb Q q => by
  rw [ha.int, hb.int]
  refine .inl ⟨rfl, ?_⟩
  have e : decide (V.int i = V.int j) = decide (i = j) := by
    by_cases e : i = j
    · subst e; simp
    · rw [decide_eq_false e, decide_eq_false fun z => e (V.int.inj z)]
  rw [e]
  exact q _ _ Hi H (Fr.refl p) (.bl _) rfl
theorem os_eqS {i j : Str} : OpS Y K (rEqU K) (.str i) (.str j) (· = .bool (decide (i = j))) := fun Hi H v w p ha hb Q q => by
  rw [ha.str, hb.str]
  refine .inl ⟨rfl, ?_⟩
  have e : decide (V.str i = V.str j) = decide (i = j) := by
    by_cases e : i = j
    · subst e; simp
    · rw [decide_eq_false e, decide_eq_false fun z => e (V.str.inj z)]
  rw [e]
  exact q _ _ Hi H (Fr.refl p) (.bl _) rfl
theorem os_neS {i j : Str} : OpS Y K (rNeU K) (.str i) (.str j) (· = .bool (!decide (i = j))) := fun Hi H v w p ha hb Q q => by
  rw [ha.str, hb.str]
  refine .inl ⟨rfl, ?_⟩
  have e : decide (V.str i = V.str j) = decide (i = j) := by
    by_cases e : i = j
    · subst e; simp
    · rw [decide_eq_false e, decide_eq_false fun z => e (V.str.inj z)]
  rw [e]
  exact q _ _ Hi H (Fr.refl p) (.bl _) rfl
theorem os_eqD {a b : PyData} (ha : SeqAt.shaped a = true) (hb : SeqAt.shaped b = true) : OpS Y K (rEqU K) a b (· = .bool (PyData.eqv a b)) := fun Hi H v w p h1 h2 Q q =>
  .inr ⟨a, b, Da.dp _ _ (PyData.hasDict_of_canLay _ (Bool.and_eq_true_iff.mp ha).1) (h1.full p.sub), Da.dp _ _ (PyData.hasDict_of_canLay _ (Bool.and_eq_true_iff.mp hb).1) (h2.full p.sub), ha, hb, q _ _ Hi H (Fr.refl p) (.bl _) rfl⟩
theorem os_neD {a b : PyData} (ha : SeqAt.shaped a = true) (hb : SeqAt.shaped b = true) : OpS Y K (rNeU K) a b (· = .bool (!PyData.eqv a b)) := fun Hi H v w p h1 h2 Q q =>
  .inr ⟨a, b, Da.dp _ _ (PyData.hasDict_of_canLay _ (Bool.and_eq_true_iff.mp ha).1) (h1.full p.sub), Da.dp _ _ (PyData.hasDict_of_canLay _ (Bool.and_eq_true_iff.mp hb).1) (h2.full p.sub), ha, hb, q _ _ Hi H (Fr.refl p) (.bl _) rfl⟩
/-! items, slices, lengths -/
theorem DaAll.atI {H : Hp} {vs : List V} {ds : List PyData} {i : Int} {d : PyData} (h : DaAll K H vs ds) (e : atI ds i = some d) : ∃ v, L2.atI vs i = some v ∧ Da K H v d := by
  unfold L2.atI at e ⊢
  rw [h.len]
  cases q : ixN ds.length i with
  | none =>
    rw [q] at e
    cases e
  | some j =>
    rw [q] at e
    exact h.get e
theorem os_ixL {ds : List PyData} {i : Int} {d : PyData} (e : atI ds i = some d) : OpS Y K (rIx K) (.list ds) (.int i) (· = d) := fun Hi H v w p ha hb Q q => by
  obtain ⟨a, vs, rfl, h1, h2⟩ := ha.list p.sub
  obtain ⟨u, e1, e2⟩ := h2.atI e
  exact .inl ⟨a, vs, i, u, rfl, hb.int, .inl (.inl h1), e1, q _ _ Hi H (Fr.refl p) e2 rfl⟩
theorem os_ixT {ds : List PyData} {i : Int} {d : PyData} (e : atI ds i = some d) : OpS Y K (rIx K) (.tuple ds) (.int i) (· = d) := fun Hi H v w p ha hb Q q => by
  obtain ⟨a, vs, rfl, h1, _, h2⟩ := ha.tup p.sub
  obtain ⟨u, e1, e2⟩ := h2.atI e
  exact .inr (.inl ⟨a, vs, i, u, rfl, hb.int, h1, e1, q _ _ Hi H (Fr.refl p) e2 rfl⟩)
theorem os_ixS {z : List Nat} {i : Int} {c : Nat} (hz : z.length ≤ 1000000) (e : atI z i = some c) : OpS Y K (rIx K) (.str (SX.S z)) (.int i) (· = .str (SX.S [c])) := fun Hi H v w p ha hb Q q =>
  .inr (.inr ⟨_, i, c, ha.str, hb.int, by rw [SX.S_len]; exact Nat.le_trans hz (by decide), e, q _ _ Hi H (Fr.refl p) (.str _) rfl⟩)
def cutD (ds : List PyData) (lo hi : Option Int) : List PyData := (ds.drop (HT.sIx ds.length 0 lo)).take (HT.sIx ds.length ds.length hi - HT.sIx ds.length 0 lo)
theorem DaAll.cut {H : Hp} {vs : List V} {ds : List PyData} (h : DaAll K H vs ds) (lo hi : Option Int) : DaAll K H (cutV vs lo hi) (cutD ds lo hi) := by
  unfold cutV cutD
  rw [h.len]
  exact (h.drop _).take _
theorem ss_L {ds : List PyData} {lo hi : Option Int} : SlS Y K (rSlU K) (.list ds) lo hi (· = .list (cutD ds lo hi)) := fun Hi H v p ha Q q => by
  obtain ⟨a, vs, rfl, h1, h2⟩ := ha.list p.sub
  exact .inl (.inl ⟨a, vs, rfl, .inl (.inl h1), fun z hz => q _ _ _ _ (Fr.alloc p hz not_tb_lst) (.lst upd_same (DaAll.mono (same_upd (p.sub.free hz)) _ _ (h2.cut lo hi))) rfl⟩)
theorem cutV_all {xs : List V} {lo hi : Option Int} (h : HT.sIx xs.length 0 lo = 0 ∧ HT.sIx xs.length xs.length hi = xs.length) : cutV xs lo hi = xs := by
  unfold cutV
  rw [h.1, h.2, List.drop_zero, Nat.sub_zero, List.take_length]
theorem ss_T {ds : List PyData} {lo hi : Option Int} : SlS Y K (rSlU K) (.tuple ds) lo hi (· = .tuple (cutD ds lo hi)) := fun Hi H v p ha Q q => by
  obtain ⟨a, vs, rfl, h1, h1', h2⟩ := ha.tup p.sub
  refine .inl (.inr ⟨a, vs, rfl, h1, fun e => ?_, fun _ z hz => q _ _ _ _ (Fr.alloc p hz not_tb_tup) (.tup (.inl (.inl upd_same)) (DaAll.mono (same_upd (p.sub.free hz)) _ _ (h2.cut lo hi))) rfl⟩)
  have h3 := h2.cut lo hi
  rw [cutV_all e] at h3
  exact q _ _ Hi H (Fr.refl p) (.tup h1' h3) rfl
theorem ss_S {z : Str} {lo hi : Option Int} (hz : z.length ≤ 1000000) : SlS Y K (rSlU K) (.str z) lo hi (· = .str (Txt.slice z lo hi)) := fun Hi H v p ha Q q =>
  .inr ⟨z, ha.str, Nat.le_trans hz (by decide), q _ _ Hi H (Fr.refl p) (.str _) rfl⟩
theorem pair1 {α β : Type} {R : α → β → Prop} {vs : List α} {b : β} (h : Paired R vs [b]) : ∃ a, vs = [a] ∧ R a b := by
  cases h with
  | cons r t =>
    cases t
    exact ⟨_, rfl, r⟩
theorem pair2 {α β : Type} {R : α → β → Prop} {vs : List α} {b c : β} (h : Paired R vs [b, c]) : ∃ a a', vs = [a, a'] ∧ R a b ∧ R a' c := by
  cases h with
  | cons r t =>
    obtain ⟨a, rfl, r2⟩ := pair1 t
    exact ⟨_, _, rfl, r, r2⟩
theorem cb_lenL {ds : List PyData} : CbS Y K (rLenU K) [.list ds] (· = .int ds.length) := fun Hi H vs p h Q q => by
  obtain ⟨v, rfl, hv⟩ := pair1 h
  obtain ⟨a, ws, rfl, h1, h2⟩ := hv.list p.sub
  exact .inl ⟨a, ws, rfl, .inl (.inl (.inl h1)), q _ _ Hi H (Fr.refl p) (.int _) (by rw [h2.len])⟩
theorem cb_lenT {ds : List PyData} : CbS Y K (rLenU K) [.tuple ds] (· = .int ds.length) := fun Hi H vs p h Q q => by
  obtain ⟨v, rfl, hv⟩ := pair1 h
  obtain ⟨a, ws, rfl, h1, _, h2⟩ := hv.tup p.sub
  exact .inl ⟨a, ws, rfl, .inr h1, q _ _ Hi H (Fr.refl p) (.int _) (by rw [h2.len])⟩
theorem cb_lenS {z : Str} (hz : z.length ≤ 1000000) : CbS Y K (rLenU K) [.str z] (· = .int z.length) := fun Hi H vs p h Q q => by
  obtain ⟨v, rfl, hv⟩ := pair1 h
  exact .inr ⟨z, by rw [hv.str], Nat.le_trans hz (by decide), q _ _ Hi H (Fr.refl p) (.int _) rfl⟩
theorem cb_repr {d : PyData} (h1 : d.showable = true) (h2 : NoDc d) (h3 : d.depth ≤ 60) (h4 : d.shown.length ≤ 1000000) : CbS Y K (rRepr K) [d] (· = .str d.shown) := fun Hi H vs p h Q q => by
  obtain ⟨v, rfl, hv⟩ := pair1 h
  exact ⟨v, d, rfl, hv.full p.sub, h1, h2, h3, Nat.le_trans h4 (by decide), q _ _ Hi H (Fr.refl p) (.str _) rfl⟩
end
end FR
set_option maxRecDepth 100000
set_option maxHeartbeats 4000000
namespace FR
open PySem PySem.Spec PyProof.Rows L2

section
variable {Y : Vol} {K : PySem.W.Frag} {H0i H0 Hi H Hi' H' : Hp} {σ : L2.St} {es : List Ent} {v : V} {d : PyData}
theorem Fr.mut (f : Fr Y H0i H0 Hi H) {a : Addr} {vs ws : List V} (h0 : ∀ u, H0 a = some u → Tb u) (hi : Hi a = none) (hw : ¬ Y.W a) (hl : H a = some (.lst vs)) : Fr Y H0i H0 Hi (upd H a (.lst ws)) := by
  refine ⟨f.hi, fun b o e => ?_, Y.stable _ _ (fun b o e z => ?_) f.inv, f.out, fun b o e h1 h2 => ?_, f.new⟩
  · rw [upd_ne (ne_of_none e hi)]
    exact f.sub b o e
  · have hb : b ≠ a := fun q => by
      subst q
      rw [hl] at e
      cases e
      rcases z with z | z | ⟨_, z⟩
      · exact hw z
      · exact not_tb_lst z
      · cases z
    rw [upd_ne hb]
    exact e
  · have hb : b ≠ a := fun q => by
      subst q
      exact h2 (h0 o e)
    rw [upd_ne hb]
    exact f.keep b o e h1 h2
theorem StIs.setDat (s : StIs Y K H0i H0 Hi H σ es) {i : Nat} (hd : Da K Hi v d) : StIs Y K H0i H0 Hi H (σ.set i (some v)) (es.set i (.dat d)) := by
  refine ⟨s.fr, by rw [List.length_set, List.length_set, s.len], fun j e h => ?_, fun j k a ds ds' hjk h1 h2 h3 => ?_⟩
  · by_cases hj : i = j
    · subst hj
      have hl : i < es.length := by
        have := (List.getElem?_eq_some_iff.mp h).1
        rwa [List.length_set] at this
      rw [List.getElem?_set_self hl] at h
      cases h
      exact ⟨some v, List.getElem?_set_self (by rw [s.len]; exact hl), v, rfl, hd⟩
    · rw [List.getElem?_set_ne hj] at h ⊢
      exact s.env j e h
  · by_cases hj : i = j
    · subst hj
      have hl : i < es.length := by
        have := (List.getElem?_eq_some_iff.mp h1).1
        rwa [List.length_set] at this
      rw [List.getElem?_set_self hl] at h1
      cases h1
    · by_cases hk : i = k
      · subst hk
        have hl : i < es.length := by
          have := (List.getElem?_eq_some_iff.mp h2).1
          rwa [List.length_set] at this
        rw [List.getElem?_set_self hl] at h2
        cases h2
      · rw [List.getElem?_set_ne hj] at h1 h3
        rw [List.getElem?_set_ne hk] at h2 ⊢
        exact s.dis j k a ds ds' hjk h1 h2 h3
theorem StIs.setUnk (s : StIs Y K H0i H0 Hi H σ es) {i : Nat} {x : Option V} : StIs Y K H0i H0 Hi H (σ.set i x) (es.set i .unk) := by
  refine ⟨s.fr, by rw [List.length_set, List.length_set, s.len], fun j e h => ?_, fun j k a ds ds' hjk h1 h2 h3 => ?_⟩
  · by_cases hj : i = j
    · subst hj
      have hl : i < es.length := by
        have := (List.getElem?_eq_some_iff.mp h).1
        rwa [List.length_set] at this
      rw [List.getElem?_set_self hl] at h
      cases h
      exact ⟨x, List.getElem?_set_self (by rw [s.len]; exact hl), trivial⟩
    · rw [List.getElem?_set_ne hj] at h ⊢
      exact s.env j e h
  · by_cases hj : i = j
    · subst hj
      have hl : i < es.length := by
        have := (List.getElem?_eq_some_iff.mp h1).1
        rwa [List.length_set] at this
      rw [List.getElem?_set_self hl] at h1
      cases h1
    · by_cases hk : i = k
      · subst hk
        have hl : i < es.length := by
          have := (List.getElem?_eq_some_iff.mp h2).1
          rwa [List.length_set] at this
        rw [List.getElem?_set_self hl] at h2
        cases h2
      · rw [List.getElem?_set_ne hj] at h1 h3
        rw [List.getElem?_set_ne hk] at h2 ⊢
        exact s.dis j k a ds ds' hjk h1 h2 h3
/-- what is known may be forgotten -/
theorem StIs.weak (s : StIs Y K H0i H0 Hi H σ es) {i : Nat} : StIs Y K H0i H0 Hi H σ (es.set i .unk) := by
  refine ⟨s.fr, by rw [List.length_set, s.len], fun j e h => ?_, fun j k a ds ds' hjk h1 h2 h3 => ?_⟩
  · by_cases hj : i = j
    · subst hj
      have hl : i < es.length := by
        have := (List.getElem?_eq_some_iff.mp h).1
        rwa [List.length_set] at this
      rw [List.getElem?_set_self hl] at h
      cases h
      have hl2 : i < σ.length := by rw [s.len]; exact hl
      exact ⟨σ[i], List.getElem?_eq_getElem hl2, trivial⟩
    · rw [List.getElem?_set_ne hj] at h
      exact s.env j e h
  · by_cases hj : i = j
    · subst hj
      have hl : i < es.length := by
        have := (List.getElem?_eq_some_iff.mp h1).1
        rwa [List.length_set] at this
      rw [List.getElem?_set_self hl] at h1
      cases h1
    · by_cases hk : i = k
      · subst hk
        have hl : i < es.length := by
          have := (List.getElem?_eq_some_iff.mp h2).1
          rwa [List.length_set] at this
        rw [List.getElem?_set_self hl] at h2
        cases h2
      · rw [List.getElem?_set_ne hj] at h1
        rw [List.getElem?_set_ne hk] at h2
        exact s.dis j k a ds ds' hjk h1 h2 h3
/-- a new list becomes a slot's own -/
theorem StIs.setOwn (s : StIs Y K H0i H0 Hi H σ es) {i : Nat} {p : Addr} {vs : List V} {ds : List PyData} (hp : H p = none) (hd : DaAll K Hi vs ds) : StIs Y K H0i H0 Hi (upd H p (.lst vs)) (σ.set i (some (.ref p))) (es.set i (.own ds)) := by
  have fresh0 : ∀ u, H0 p = some u → Tb u := fun u hu => by
    by_cases hw : Y.W p
    · exact absurd hp (Y.there H p hw s.fr.inv)
    · by_cases ht : Tb u
      · exact ht
      · have := s.fr.keep p u hu hw ht
        rw [hp] at this
        cases this
  have noW : ¬ Y.W p := fun hw => Y.there H p hw s.fr.inv hp
  have s1 : StIs Y K H0i H0 Hi (upd H p (.lst vs)) σ es := s.step (Fr.grow s.pre (same_upd hp))
  have other : ∀ (j : Nat) (ds' : List PyData), es[j]? = some (.own ds') → σ[j]? ≠ some (some (.ref p)) := fun j ds' h z => by
    obtain ⟨x, e1, a, vs', e2, _, _, _, h4, _⟩ := s.env j _ h
    rw [z] at e1
    cases e1
    cases e2
    rw [hp] at h4
    cases h4
  refine ⟨s1.fr, by rw [List.length_set, List.length_set, s.len], fun j e h => ?_, fun j k a ds1 ds2 hjk h1 h2 h3 => ?_⟩
  · by_cases hj : i = j
    · subst hj
      have hl : i < es.length := by
        have := (List.getElem?_eq_some_iff.mp h).1
        rwa [List.length_set] at this
      rw [List.getElem?_set_self hl] at h
      cases h
      exact ⟨_, List.getElem?_set_self (by rw [s.len]; exact hl), p, vs, rfl, fresh0, s.fr.sub.free hp, noW, upd_same, hd⟩
    · rw [List.getElem?_set_ne hj] at h ⊢
      exact s1.env j e h
  · by_cases hj : i = j
    · subst hj
      have hl : i < es.length := by
        have := (List.getElem?_eq_some_iff.mp h1).1
        rwa [List.length_set] at this
      rw [List.getElem?_set_self (by rw [s.len]; exact hl)] at h3
      cases h3
      rw [List.getElem?_set_ne hjk] at h2 ⊢
      exact other k ds2 h2
    · by_cases hk : i = k
      · subst hk
        have hl : i < es.length := by
          have := (List.getElem?_eq_some_iff.mp h2).1
          rwa [List.length_set] at this
        rw [List.getElem?_set_self (by rw [s.len]; exact hl)]
        rw [List.getElem?_set_ne hj] at h1 h3
        intro z
        cases z
        exact other j ds1 h1 h3
      · rw [List.getElem?_set_ne hj] at h1 h3
        rw [List.getElem?_set_ne hk] at h2 ⊢
        exact s.dis j k a ds1 ds2 hjk h1 h2 h3
/-- a slot's own list is stored into -/
theorem StIs.putOwn (s : StIs Y K H0i H0 Hi H σ es) {i : Nat} {a : Addr} {ws : List V} {ds es2 : List PyData} (he : es[i]? = some (.own ds)) (ha : σ[i]? = some (some (.ref a))) (hd : DaAll K Hi ws es2) : StIs Y K H0i H0 Hi (upd H a (.lst ws)) σ (es.set i (.own es2)) := by
  obtain ⟨x, e1, a', vs', e2, h1, h2, h3, h4, h5⟩ := s.env i _ he
  rw [ha] at e1
  cases e1
  cases e2
  have hl : i < es.length := (List.getElem?_eq_some_iff.mp he).1
  refine ⟨s.fr.mut h1 h2 h3 h4, by rw [List.length_set, s.len], fun j e h => ?_, fun j k b ds1 ds2 hjk g1 g2 g3 => ?_⟩
  · by_cases hj : i = j
    · subst hj
      rw [List.getElem?_set_self hl] at h
      cases h
      exact ⟨_, ha, a, ws, rfl, h1, h2, h3, upd_same, hd⟩
    · rw [List.getElem?_set_ne hj] at h
      obtain ⟨y, f1, f2⟩ := s.env j e h
      refine ⟨y, f1, ?_⟩
      cases e with
      | unk => trivial
      | dat _ => exact f2
      | raw _ => exact f2
      | own ds3 =>
        obtain ⟨b, ws', z1, z2, z3, z4, z5, z6⟩ := f2
        refine ⟨b, ws', z1, z2, z3, z4, ?_, z6⟩
        have hb : b ≠ a := fun q => by
          subst q
          subst z1
          exact s.dis i j b ds ds3 hj he h ha f1
        rw [upd_ne hb]
        exact z5
  · have old : ∀ (n : Nat) (ds' : List PyData), (es.set i (.own es2))[n]? = some (.own ds') → ∃ ds'', es[n]? = some (.own ds'') := fun n ds' h => by
      by_cases hn : i = n
      · subst hn
        exact ⟨ds, he⟩
      · rw [List.getElem?_set_ne hn] at h
        exact ⟨_, h⟩
    obtain ⟨_, q1⟩ := old j _ g1
    obtain ⟨_, q2⟩ := old k _ g2
    exact s.dis j k b _ _ hjk q1 q2 g3
end

/-! ### statements -/
section
variable (Y : Vol) (K : PySem.W.Frag)
structure Out where
  nx : List Ent → Prop
  rt : PyData → Prop
  bk : List Ent → Prop := fun _ => False
  ct : List Ent → Prop := fun _ => False
def StS (es : List Ent) (ts : TS) (O : Out) : Prop := ∀ H0i H0 Hi H σ, StIs Y K H0i H0 Hi H σ es → ∀ Dn : Ends,
  (∀ Hi' H' σ' es', Same Hi Hi' → StIs Y K H0i H0 Hi' H' σ' es' → O.nx es' → Dn.nx σ' H') →
  (∀ Hi' H' σ' es', Same Hi Hi' → StIs Y K H0i H0 Hi' H' σ' es' → O.bk es' → Dn.bk σ' H') →
  (∀ Hi' H' σ' es', Same Hi Hi' → StIs Y K H0i H0 Hi' H' σ' es' → O.ct es' → Dn.ct σ' H') →
  (∀ v d Hi' H', Fr Y H0i H0 Hi' H' → Da K Hi' v d → O.rt d → Dn.rt v H') → ts Dn σ H
end
section
variable {Y : Vol} {K : PySem.W.Frag} {es : List Ent} {ta tb te : TE} {t : TT} {t1 t2 : TS} {P : PyData → Prop} {O : Out}
theorem StS.mono {O' : Out} (h : StS Y K es t1 O) (h1 : ∀ e, O.nx e → O'.nx e) (h2 : ∀ d, O.rt d → O'.rt d) (h3 : ∀ e, O.bk e → O'.bk e) (h4 : ∀ e, O.ct e → O'.ct e) : StS Y K es t1 O' :=
  fun H0i H0 Hi H σ s Dn n b c r => h H0i H0 Hi H σ s Dn (fun _ _ _ e m s' o => n _ _ _ e m s' (h1 e o)) (fun _ _ _ e m s' o => b _ _ _ e m s' (h3 e o)) (fun _ _ _ e m s' o => c _ _ _ e m s' (h4 e o)) (fun v d _ _ f hd o => r v d _ _ f hd (h2 d o))
theorem ss_seq {M : List Ent → Prop} (h1 : StS Y K es t1 { O with nx := M }) (h2 : ∀ e, M e → StS Y K e t2 O) : StS Y K es (tSeq t1 t2) O :=
  fun H0i H0 Hi H σ s Dn n b c r => h1 H0i H0 Hi H σ s { Dn with nx := t2 Dn } (fun Hi' H' σ' e m s' o => h2 e o H0i H0 Hi' H' σ' s' Dn (fun _ _ _ e m2 => n _ _ _ e (m.trans m2)) (fun _ _ _ e m2 => b _ _ _ e (m.trans m2)) (fun _ _ _ e m2 => c _ _ _ e (m.trans m2)) r) b c r
theorem ss_next (h : O.nx es) : StS Y K es tNext O := fun H0i H0 Hi H σ s Dn n b c r => n _ _ _ es (Same.refl _) s h
theorem ss_brk (h : O.bk es) : StS Y K es tBreak O := fun H0i H0 Hi H σ s Dn n b c r => b _ _ _ es (Same.refl _) s h
theorem ss_ct (h : O.ct es) : StS Y K es tCont O := fun H0i H0 Hi H σ s Dn n b c r => c _ _ _ es (Same.refl _) s h
theorem ss_ret (h : EvD Y K es te P) (k : ∀ d, P d → O.rt d) : StS Y K es (tRet te) O := fun H0i H0 Hi H σ s Dn n b c r =>
  h H0i H0 Hi H σ s _ fun v d Hi' H' f hd p => r v d Hi' H' (s.fr.trans f) hd (k d p)
theorem ss_retd {d : PyData} (h : EvD Y K es te (· = d)) (k : O.rt d) : StS Y K es (tRet te) O := ss_ret h fun _ e => e ▸ k
theorem ss_retN (k : O.rt .none) : StS Y K es tRetN O := fun H0i H0 Hi H σ s Dn n b c r => r .non .none Hi H s.fr .non k
theorem ss_retOwn {i : Nat} {ds : List PyData} (h : es[i]? = some (.own ds)) (k : O.rt (.list ds)) : StS Y K es (tRet (tVar i)) O := fun H0i H0 Hi H σ s Dn n b c r => by
  obtain ⟨x, e1, a, vs, rfl, h1, h2, h3, h4, h5⟩ := s.env i _ h
  refine ⟨.ref a, e1, r _ (.list ds) (upd Hi a (.lst vs)) H ?_ (.lst upd_same (DaAll.mono (same_upd h2) _ _ h5)) k⟩
  refine ⟨s.fr.hi.trans (same_upd h2), fun b o e => ?_, s.fr.inv, fun b o e => ?_, s.fr.keep, fun b o e => ?_⟩
  · by_cases hb : b = a
    · rw [hb, upd_same] at e
      rw [hb]
      cases e
      exact h4
    · rw [upd_ne hb] at e
      exact s.fr.sub b o e
  · by_cases hb : b = a
    · rw [hb, upd_same] at e
      cases e
      rw [hb]
      exact ⟨h3, not_tb_lst⟩
    · rw [upd_ne hb] at e
      exact s.fr.out b o e
  · by_cases hb : b = a
    · rw [hb]
      exact .inr h1
    · rw [upd_ne hb] at e
      exact s.fr.new b o e
theorem ss_if {Pt : Bool → Prop} (h : TsB Y K es t Pt) (h1 : Pt true → StS Y K es t1 O) (h2 : Pt false → StS Y K es t2 O) : StS Y K es (tIfS t t1 t2) O := fun H0i H0 Hi H σ s Dn n b c r =>
  h H0i H0 Hi H σ s _ fun b' Hi' H' f p => by
    cases b' with
    | true =>
      show t1 Dn σ H'
      exact h1 p H0i H0 Hi' H' σ (s.step f) Dn (fun _ _ _ e m2 => n _ _ _ e (f.hi.trans m2)) (fun _ _ _ e m2 => b _ _ _ e (f.hi.trans m2)) (fun _ _ _ e m2 => c _ _ _ e (f.hi.trans m2)) r
    | false =>
      show t2 Dn σ H'
      exact h2 p H0i H0 Hi' H' σ (s.step f) Dn (fun _ _ _ e m2 => n _ _ _ e (f.hi.trans m2)) (fun _ _ _ e m2 => b _ _ _ e (f.hi.trans m2)) (fun _ _ _ e m2 => c _ _ _ e (f.hi.trans m2)) r
theorem ss_ifd {bb : Bool} (h : TsB Y K es t (· = bb)) (h1 : bb = true → StS Y K es t1 O) (h2 : bb = false → StS Y K es t2 O) : StS Y K es (tIfS t t1 t2) O := ss_if h (fun e => h1 e.symm) fun e => h2 e.symm
theorem ss_set {i : Nat} (h : EvD Y K es te P) (k : ∀ d, P d → O.nx (es.set i (.dat d))) : StS Y K es (tAsg te (gName i)) O := fun H0i H0 Hi H σ s Dn n b c r =>
  h H0i H0 Hi H σ s _ fun v d Hi' H' f hd p => n Hi' H' _ _ f.hi ((s.step f).setDat hd) (k d p)
theorem ss_setd {i : Nat} {d : PyData} (h : EvD Y K es te (· = d)) (k : O.nx (es.set i (.dat d))) : StS Y K es (tAsg te (gName i)) O := ss_set h fun _ e => e ▸ k
theorem ss_expr (h : EvD Y K es te P) (k : O.nx es) : StS Y K es (tDrop te) O := fun H0i H0 Hi H σ s Dn n b c r =>
  h H0i H0 Hi H σ s _ fun v d Hi' H' f hd p => n Hi' H' _ _ f.hi (s.step f) k
/-- x = [..], a list of one's own -/
theorem ss_own {i : Nat} {tr : TA} {ds : List PyData} (h : ArD Y K es tr (· = ds)) (k : O.nx (es.set i (.own ds))) (hl : ds.length ≤ 100000 := by simp) : StS Y K es (tAsg (tLst tr) (gName i)) O := fun H0i H0 Hi H σ s Dn n b c r =>
  h H0i H0 Hi H σ s _ fun vs ds' Hi' H' f hd p => by
    subst p
    exact ⟨by rw [hd.len]; exact Nat.le_trans hl (by decide), fun q hq => n Hi' _ _ _ f.hi ((s.step f).setOwn hq hd) k⟩
theorem ss_app {i : Nat} {ds : List PyData} (hi : es[i]? = some (.own ds)) (h : EvD Y K es te P) (hz : ds.length < 100000) (k : ∀ d, P d → O.nx (es.set i (.own (ds ++ [d])))) : StS Y K es (tDrop (tBM K "list" rAppend (tVar i) (tCons te tNil))) O := fun H0i H0 Hi H σ s Dn n b c r => by
  obtain ⟨x, e1, a, vs, rfl, h1, h2, h3, h4, h5⟩ := s.env i _ hi
  refine ⟨.ref a, e1, .inl ⟨rfl, vs, .inl (.inl h4)⟩, ?_⟩
  refine h H0i H0 Hi H σ s _ fun v d Hi' H' f hd p => ?_
  have s' := s.step f
  have h4' : H' a = some (.lst vs) := f.keep _ _ h4 h3 not_tb_lst
  have h5' := DaAll.mono f.hi _ _ h5
  exact ⟨a, vs, v, rfl, rfl, h4', by rw [h5'.len]; exact Nat.lt_of_lt_of_le hz (by decide), n Hi' _ _ _ f.hi (s'.putOwn (ws := vs ++ [v]) hi e1 (h5'.append (.cons hd .nil))) (k d p)⟩
theorem ixN_lt {n j : Nat} {i : Int} (h : ixN n i = some j) : j < n := (ixN_seq h).2.1
/-- x[i] = e, x a list of one's own -/
theorem ss_put {i : Nat} {ds : List PyData} {z : Int} {j : Nat} (hi : es[i]? = some (.own ds)) (h : EvD Y K es te P) (hx : EvD Y K es tb (· = .int z)) (hj : ixN ds.length z = some j) (k : ∀ d, P d → O.nx (es.set i (.own (ds.set j d)))) : StS Y K es (tAsg te (gSub (tVar i) tb rSetL)) O := fun H0i H0 Hi H σ s Dn n b c r => by
  obtain ⟨x, e1, a, vs, rfl, h1, h2, h3, h4, h5⟩ := s.env i _ hi
  refine h H0i H0 Hi H σ s _ fun v d Hi1 H1 f1 hd p => ?_
  refine ⟨.ref a, e1, hx H0i H0 Hi1 H1 σ (s.step f1) _ fun w d2 Hi2 H2 f2 hd2 p2 => ?_⟩
  subst p2
  cases hd2
  have f := f1.trans f2
  have h4' : H2 a = some (.lst vs) := f.keep _ _ h4 h3 not_tb_lst
  have h5' := DaAll.mono f.hi _ _ h5
  exact ⟨a, vs, z, j, rfl, rfl, h4', by rw [h5'.len]; exact hj, n Hi2 _ _ _ f.hi ((s.step f).putOwn hi e1 (h5'.set (Da.mono f2.hi _ _ hd) j)) (k d p)⟩
/-- x op= e on a name, ints -/
theorem ss_aug {i : Nat} {g : Int → Int → Int} {a c : Int} (hx : es[i]? = some (.dat (.int a))) (h : EvD Y K es te (· = .int c)) (k : O.nx (es.set i (.dat (.int (g a c))))) : StS Y K es (tAug i te (ipI g)) O := fun H0i H0 Hi H σ s Dn n b c' r => by
  obtain ⟨x, e1, v, rfl, hv⟩ := s.env i _ hx
  cases hv
  refine ⟨.int a, e1, h H0i H0 Hi H σ s _ fun w d Hi1 H1 f1 hd p => ?_⟩
  subst p
  cases hd
  exact ⟨a, c, rfl, rfl, n Hi1 H1 _ _ f1.hi ((s.step f1).setDat (.int _)) k⟩
/-! the same, the rest behind -/
theorem qs_set {i : Nat} (h : EvD Y K es te P) (k : ∀ d, P d → StS Y K (es.set i (.dat d)) t2 O) : StS Y K es (tSeq (tAsg te (gName i)) t2) O :=
  ss_seq (M := fun e => ∃ d, P d ∧ e = es.set i (.dat d)) (ss_set h fun d p => ⟨d, p, rfl⟩) fun e ⟨d, p, e1⟩ => e1 ▸ k d p
theorem qs_setd {i : Nat} {d : PyData} (h : EvD Y K es te (· = d)) (k : StS Y K (es.set i (.dat d)) t2 O) : StS Y K es (tSeq (tAsg te (gName i)) t2) O := qs_set h fun _ e => e ▸ k
theorem qs_expr (h : EvD Y K es te P) (k : ∀ d, P d → StS Y K es t2 O) : StS Y K es (tSeq (tDrop te) t2) O := fun H0i H0 Hi H σ s Dn n b c r =>
  h H0i H0 Hi H σ s _ fun v d Hi' H' f hd p => k d p H0i H0 Hi' H' σ (s.step f) Dn (fun _ _ _ e m2 => n _ _ _ e (f.hi.trans m2)) (fun _ _ _ e m2 => b _ _ _ e (f.hi.trans m2)) (fun _ _ _ e m2 => c _ _ _ e (f.hi.trans m2)) r
/-- an if one of whose ways leaves -/
theorem qs_when {Pt : Bool → Prop} (h : TsB Y K es t Pt) (h1 : Pt true → StS Y K es t1 { O with nx := fun _ => False }) (h2 : Pt false → StS Y K es t2 O) : StS Y K es (tSeq (tIfS t t1 tNext) t2) O :=
  ss_seq (M := fun e => e = es ∧ Pt false) (ss_if h (fun p => (h1 p).mono (fun _ z => z.elim) (fun _ z => z) (fun _ z => z) (fun _ z => z)) (fun p => ss_next ⟨rfl, p⟩)) fun e ⟨e1, p⟩ => e1 ▸ h2 p
theorem qs_whend {bb : Bool} (h : TsB Y K es t (· = bb)) (h1 : bb = true → StS Y K es t1 { O with nx := fun _ => False }) (h2 : bb = false → StS Y K es t2 O) : StS Y K es (tSeq (tIfS t t1 tNext) t2) O := qs_when h (fun e => h1 e.symm) fun e => h2 e.symm
theorem qs_own {i : Nat} {tr : TA} {ds : List PyData} (h : ArD Y K es tr (· = ds)) (k : StS Y K (es.set i (.own ds)) t2 O) (hl : ds.length ≤ 100000 := by simp) : StS Y K es (tSeq (tAsg (tLst tr) (gName i)) t2) O :=
  ss_seq (M := fun e => e = es.set i (.own ds)) (ss_own h rfl hl) fun e e1 => e1 ▸ k
theorem qs_app {i : Nat} {ds : List PyData} (hi : es[i]? = some (.own ds)) (h : EvD Y K es te P) (hz : ds.length < 100000) (k : ∀ d, P d → StS Y K (es.set i (.own (ds ++ [d]))) t2 O) : StS Y K es (tSeq (tDrop (tBM K "list" rAppend (tVar i) (tCons te tNil))) t2) O :=
  ss_seq (M := fun e => ∃ d, P d ∧ e = es.set i (.own (ds ++ [d]))) (ss_app hi h hz fun d p => ⟨d, p, rfl⟩) fun e ⟨d, p, e1⟩ => e1 ▸ k d p
theorem qs_put {i : Nat} {ds : List PyData} {z : Int} {j : Nat} (hi : es[i]? = some (.own ds)) (h : EvD Y K es te P) (hx : EvD Y K es tb (· = .int z)) (hj : ixN ds.length z = some j) (k : ∀ d, P d → StS Y K (es.set i (.own (ds.set j d))) t2 O) : StS Y K es (tSeq (tAsg te (gSub (tVar i) tb rSetL)) t2) O :=
  ss_seq (M := fun e => ∃ d, P d ∧ e = es.set i (.own (ds.set j d))) (ss_put hi h hx hj fun d p => ⟨d, p, rfl⟩) fun e ⟨d, p, e1⟩ => e1 ▸ k d p
theorem qs_aug {i : Nat} {g : Int → Int → Int} {a c : Int} (hx : es[i]? = some (.dat (.int a))) (h : EvD Y K es te (· = .int c)) (k : StS Y K (es.set i (.dat (.int (g a c)))) t2 O) : StS Y K es (tSeq (tAug i te (ipI g)) t2) O :=
  ss_seq (M := fun e => e = es.set i (.dat (.int (g a c)))) (ss_aug hx h rfl) fun e e1 => e1 ▸ k
/-- a, b = x, y -/
theorem ss_par {i j : Nat} {ta : TA} {Pr : List PyData → Prop} (h : ArD Y K es ta Pr) (k : ∀ ds, Pr ds → ∃ a b, ds = [a, b] ∧ O.nx ((es.set i (.dat a)).set j (.dat b))) : StS Y K es (tPar i j ta) O := fun H0i H0 Hi H σ s Dn n b c r =>
  h H0i H0 Hi H σ s _ fun vs ds Hi' H' f hd p => by
    obtain ⟨x, y, e, kk⟩ := k ds p
    subst e
    cases hd with
    | cons h1 h2 =>
      cases h2 with
      | cons h3 h4 =>
        cases h4
        exact ⟨_, _, rfl, n Hi' H' _ _ f.hi (((s.step f).setDat h1).setDat h3) kk⟩
theorem qs_par {i j : Nat} {ta : TA} {a b : PyData} (h : ArD Y K es ta (· = [a, b])) (k : StS Y K ((es.set i (.dat a)).set j (.dat b)) t2 O) : StS Y K es (tSeq (tPar i j ta) t2) O :=
  ss_seq (M := fun e => e = (es.set i (.dat a)).set j (.dat b)) (ss_par h fun ds e => ⟨a, b, e, rfl⟩) fun e e1 => e1 ▸ k
/-! loops -/
theorem ss_forLx {j : Nat} {tl : TE} {Pl : PyData → Prop} (h : EvD Y K es tl Pl) (Inv : List PyData → Nat → List Ent → Prop) (hl : ∀ d, Pl d → ∃ ds, d = .list ds ∧ Inv ds 0 es)
    (hs : ∀ ds, Pl (.list ds) → ∀ k d e, ds[k]? = some d → Inv ds k e → StS Y K (e.set j (.dat d)) t1 { nx := Inv ds (k + 1), ct := Inv ds (k + 1), bk := O.nx, rt := O.rt }) (hd : ∀ ds e, Pl (.list ds) → Inv ds ds.length e → O.nx e) : StS Y K es (tFor (iSeqU K tl) (gName j) t1) O := fun H0i H0 Hi H σ s Dn n b c r => by
  refine .inl (.inl ?_)
  refine h H0i H0 Hi H σ s _ fun v d Hi1 H1 f1 hv pl => ?_
  obtain ⟨ds, e, h0⟩ := hl d pl
  subst e
  cases hv with
  | @lst a xs _ ha hxs =>
    refine ⟨a, rfl, ⟨xs, .inl (.inl (f1.sub _ _ ha))⟩, ?_⟩
    refine for_list (xs := xs) (fun k σ' H' => ∃ Hi' e', StIs Y K H0i H0 Hi' H' σ' e' ∧ Same Hi1 Hi' ∧ Inv ds k e') ⟨Hi1, es, s.step f1, Same.refl _, h0⟩ (fun k σ' H' _ ⟨Hi', e', s', sm, _⟩ => .inl (.inl (s'.fr.sub _ _ (sm _ _ ha)))) (fun k x σ' H' hx ⟨Hi', e', s', sm, iv⟩ => ?_) (fun σ' H' ⟨Hi', e', s', sm, iv⟩ => ?_)
    · obtain ⟨d, hd1, hd2⟩ := hxs.get' hx
      exact hs ds pl k d e' hd1 iv H0i H0 Hi' H' _ (s'.setDat (i := j) (Da.mono sm _ _ hd2)) _ (fun Hi2 H2 σ2 e2 m s3 i2 => ⟨Hi2, e2, s3, sm.trans m, i2⟩) (fun Hi2 H2 σ2 e2 m s3 i2 => n _ _ _ e2 (f1.hi.trans (sm.trans m)) s3 i2) (fun Hi2 H2 σ2 e2 m s3 i2 => ⟨Hi2, e2, s3, sm.trans m, i2⟩) r
    · rw [hxs.len] at iv
      exact n _ _ _ e' (f1.hi.trans sm) s' (hd ds e' pl iv)
theorem ss_forL {j : Nat} {ds : List PyData} {tl : TE} (h : EvD Y K es tl (· = .list ds)) (Inv : Nat → List Ent → Prop) (h0 : Inv 0 es)
    (hs : ∀ k d e, ds[k]? = some d → Inv k e → StS Y K (e.set j (.dat d)) t1 { nx := Inv (k + 1), ct := Inv (k + 1), bk := O.nx, rt := O.rt }) (hd : ∀ e, Inv ds.length e → O.nx e) : StS Y K es (tFor (iSeqU K tl) (gName j) t1) O :=
  ss_forLx h (fun _ => Inv) (fun d e => ⟨ds, e, h0⟩) (fun ds' e k d e2 hk iv => by cases e; exact hs k d e2 hk iv) (fun ds' e2 e iv => by cases e; exact hd e2 iv)
theorem ss_forT {j : Nat} {ds : List PyData} {tl : TE} (h : EvD Y K es tl (· = .tuple ds)) (Inv : Nat → List Ent → Prop) (h0 : Inv 0 es)
    (hs : ∀ k d e, ds[k]? = some d → Inv k e → StS Y K (e.set j (.dat d)) t1 { nx := Inv (k + 1), ct := Inv (k + 1), bk := O.nx, rt := O.rt }) (hd : ∀ e, Inv ds.length e → O.nx e) : StS Y K es (tFor (iSeqU K tl) (gName j) t1) O := fun H0i H0 Hi H σ s Dn n b c r => by
  refine .inl (.inr ?_)
  refine h H0i H0 Hi H σ s _ fun v d Hi1 H1 f1 hv e => ?_
  subst e
  cases hv with
  | @tup a xs _ ha hxs =>
    refine ⟨a, rfl, ⟨xs, sqt_mono f1.sub ha⟩, ?_⟩
    refine for_tup (xs := xs) (fun k σ' H' => ∃ Hi' e', StIs Y K H0i H0 Hi' H' σ' e' ∧ Same Hi1 Hi' ∧ Inv k e') ⟨Hi1, es, s.step f1, Same.refl _, h0⟩ (fun k σ' H' _ ⟨Hi', e', s', sm, _⟩ => sqt_mono (sm.trans s'.fr.sub) ha) (fun k x σ' H' hx ⟨Hi', e', s', sm, iv⟩ => ?_) (fun σ' H' ⟨Hi', e', s', sm, iv⟩ => ?_)
    · obtain ⟨d, hd1, hd2⟩ := hxs.get' hx
      exact hs k d e' hd1 iv H0i H0 Hi' H' _ (s'.setDat (i := j) (Da.mono sm _ _ hd2)) _ (fun Hi2 H2 σ2 e2 m s3 i2 => ⟨Hi2, e2, s3, sm.trans m, i2⟩) (fun Hi2 H2 σ2 e2 m s3 i2 => n _ _ _ e2 (f1.hi.trans (sm.trans m)) s3 i2) (fun Hi2 H2 σ2 e2 m s3 i2 => ⟨Hi2, e2, s3, sm.trans m, i2⟩) r
    · rw [hxs.len] at iv
      exact n _ _ _ e' (f1.hi.trans sm) s' (hd e' iv)
theorem ss_forR1x {j : Nat} {tl : TA} {Pl : Int → Prop} (h : ArD Y K es tl (fun ds => ∃ n, ds = [.int n] ∧ Pl n)) (hn : ∀ n, Pl n → n ≤ 1000000 ∧ -1000000 ≤ n) (Inv : Int → Nat → List Ent → Prop) (h0 : ∀ n, Pl n → Inv n 0 es)
    (hs : ∀ n, Pl n → ∀ (k : Nat) e, (k : Int) < n → Inv n k e → StS Y K (e.set j (.dat (.int k))) t1 { nx := Inv n (k + 1), ct := Inv n (k + 1), bk := O.nx, rt := O.rt }) (hd : ∀ n e, Pl n → Inv n n.toNat e → O.nx e) : StS Y K es (tFor (iRng1 tl) (gName j) t1) O := fun H0i H0 Hi H σ s Dn n' b c r => by
  refine h H0i H0 Hi H σ s _ fun vs ds Hi1 H1 f1 hv ⟨n, e, pl⟩ => ?_
  subst e
  have hn1 := hn n pl
  cases hv with
  | cons h1 h2 =>
    cases h1
    cases h2
    refine ⟨n, rfl, by omega, by omega, for_range (lo := 0) (n := n.toNat) (fun k σ' H' => ∃ Hi' e', StIs Y K H0i H0 Hi' H' σ' e' ∧ Same Hi1 Hi' ∧ Inv n k e') ⟨Hi1, es, s.step f1, Same.refl _, h0 n pl⟩ (fun k σ' H' hk ⟨Hi', e', s', sm, iv⟩ => ?_) (fun σ' H' ⟨Hi', e', s', sm, iv⟩ => n' _ _ _ e' (f1.hi.trans sm) s' (hd n e' pl iv))⟩
    have e0 : (0 : Int) + (k : Int) = (k : Int) := Int.zero_add _
    rw [e0]
    exact hs n pl k e' (by omega) iv H0i H0 Hi' H' _ (s'.setDat (i := j) (.int (k : Int))) _ (fun Hi2 H2 σ2 e2 m s3 i2 => ⟨Hi2, e2, s3, sm.trans m, i2⟩) (fun Hi2 H2 σ2 e2 m s3 i2 => n' _ _ _ e2 (f1.hi.trans (sm.trans m)) s3 i2) (fun Hi2 H2 σ2 e2 m s3 i2 => ⟨Hi2, e2, s3, sm.trans m, i2⟩) r
theorem ss_forR1 {j : Nat} {n : Int} {tl : TA} (h : ArD Y K es tl (· = [.int n])) (hn : n ≤ 1000000) (hn0 : -1000000 ≤ n) (Inv : Nat → List Ent → Prop) (h0 : Inv 0 es)
    (hs : ∀ (k : Nat) e, (k : Int) < n → Inv k e → StS Y K (e.set j (.dat (.int k))) t1 { nx := Inv (k + 1), ct := Inv (k + 1), bk := O.nx, rt := O.rt }) (hd : ∀ e, Inv n.toNat e → O.nx e) : StS Y K es (tFor (iRng1 tl) (gName j) t1) O :=
  ss_forR1x (Pl := (· = n)) (h.mono fun ds e => ⟨n, e, rfl⟩) (fun m e => e ▸ ⟨hn, hn0⟩) (fun _ => Inv) (fun _ _ => h0) (fun m e k e2 hk iv => by cases e; exact hs k e2 hk iv) (fun m e2 e iv => by cases e; exact hd e2 iv)
theorem ss_forR2 {j : Nat} {lo n : Int} {tl : TA} (h : ArD Y K es tl (· = [.int lo, .int n])) (hl0 : -1000000 ≤ lo) (hl : lo ≤ 1000000) (hn0 : -1000000 ≤ n) (hn : n ≤ 1000000) (Inv : Nat → List Ent → Prop) (h0 : Inv 0 es)
    (hs : ∀ (k : Nat) e, lo + (k : Int) < n → Inv k e → StS Y K (e.set j (.dat (.int (lo + k)))) t1 { nx := Inv (k + 1), ct := Inv (k + 1), bk := O.nx, rt := O.rt }) (hd : ∀ e, Inv (n - lo).toNat e → O.nx e) : StS Y K es (tFor (iRng2 tl) (gName j) t1) O := fun H0i H0 Hi H σ s Dn n' b c r => by
  refine h H0i H0 Hi H σ s _ fun vs ds Hi1 H1 f1 hv e => ?_
  subst e
  cases hv with
  | cons h1 h2 =>
    cases h1
    cases h2 with
    | cons h3 h4 =>
      cases h3
      cases h4
      refine ⟨lo, n, rfl, ⟨by omega, by omega, by omega, by omega⟩, for_range (lo := lo) (n := (n - lo).toNat) (fun k σ' H' => ∃ Hi' e', StIs Y K H0i H0 Hi' H' σ' e' ∧ Same Hi1 Hi' ∧ Inv k e') ⟨Hi1, es, s.step f1, Same.refl _, h0⟩ (fun k σ' H' hk ⟨Hi', e', s', sm, iv⟩ => ?_) (fun σ' H' ⟨Hi', e', s', sm, iv⟩ => n' _ _ _ e' (f1.hi.trans sm) s' (hd e' iv))⟩
      exact hs k e' (by omega) iv H0i H0 Hi' H' _ (s'.setDat (i := j) (.int (lo + k))) _ (fun Hi2 H2 σ2 e2 m s3 i2 => ⟨Hi2, e2, s3, sm.trans m, i2⟩) (fun Hi2 H2 σ2 e2 m s3 i2 => n' _ _ _ e2 (f1.hi.trans (sm.trans m)) s3 i2) (fun Hi2 H2 σ2 e2 m s3 i2 => ⟨Hi2, e2, s3, sm.trans m, i2⟩) r
theorem for_sign {x : Str} {g : TG} {tb : TS} {D : Ends} {σ : L2.St} {H : Hp} (Pv : Nat → L2.St → Hp → Prop) (h0 : Pv 0 σ H)
    (hs : ∀ i c σ H, x.cps[i]? = some c → Pv i σ H → g (.str ⟨#[c]⟩) σ H fun σ2 H2 => tb { D with nx := Pv (i + 1), ct := Pv (i + 1), bk := D.nx } σ2 H2) (hd : ∀ σ H, Pv x.cps.size σ H → D.nx σ H) :
    ∃ W : Nat → Nat → L2.St → Hp → Prop, (∃ m, W 0 m σ H) ∧ ∀ i m σ H, W i m σ H →
      ((Its x).stop i H ∧ D.nx σ H) ∨ ((Its x).go i H ∧ ∃ N : L2.St → Hp → Prop, (∀ σ' H', N σ' H' → ∃ m', m' < m ∧ W (i + 1) m' σ' H') ∧ ∀ v H', (Its x).yld i H v H' → g v σ H' fun σ2 H2 => tb { D with nx := N, ct := N, bk := D.nx } σ2 H2) := by
  refine ⟨fun i m σ H => m = x.cps.size - i ∧ i ≤ x.cps.size ∧ Pv i σ H, ⟨x.cps.size, by simp, Nat.zero_le _, h0⟩, ?_⟩
  rintro i m σ H ⟨rfl, hi, p⟩
  by_cases hlt : i < x.cps.size
  · refine .inr ⟨hlt, Pv (i + 1), fun σ' H' q => ⟨x.cps.size - (i + 1), by omega, rfl, hlt, q⟩, fun v H' hy => ?_⟩
    obtain ⟨rfl, c, hc, rfl⟩ := hy
    exact hs i c σ H' hc p
  · have e : i = x.cps.size := by omega
    subst e
    exact .inl ⟨Nat.le_refl _, hd σ H p⟩
theorem ss_forS {j : Nat} {z : List Nat} {tl : TE} (h : EvD Y K es tl (· = .str (SX.S z))) (Inv : Nat → List Ent → Prop) (h0 : Inv 0 es)
    (hs : ∀ (k : Nat) c e, z[k]? = some c → Inv k e → StS Y K (e.set j (.dat (.str (SX.S [c])))) t1 { nx := Inv (k + 1), ct := Inv (k + 1), bk := O.nx, rt := O.rt }) (hd : ∀ e, Inv z.length e → O.nx e) : StS Y K es (tFor (iSeqU K tl) (gName j) t1) O := fun H0i H0 Hi H σ s Dn n b c r => by
  refine .inr ?_
  refine h H0i H0 Hi H σ s _ fun v d Hi1 H1 f1 hv e => ?_
  subst e
  cases hv
  refine ⟨SX.S z, rfl, for_sign (fun k σ' H' => ∃ Hi' e', StIs Y K H0i H0 Hi' H' σ' e' ∧ Same Hi1 Hi' ∧ Inv k e') ⟨Hi1, es, s.step f1, Same.refl _, h0⟩ (fun k cc σ' H' hk ⟨Hi', e', s', sm, iv⟩ => ?_) (fun σ' H' ⟨Hi', e', s', sm, iv⟩ => n _ _ _ e' (f1.hi.trans sm) s' (hd e' (by simpa using iv)))⟩
  exact hs k cc e' (by simpa using hk) iv H0i H0 Hi' H' _ (s'.setDat (i := j) (.str (SX.S [cc]))) _ (fun Hi2 H2 σ2 e2 m s3 i2 => ⟨Hi2, e2, s3, sm.trans m, i2⟩) (fun Hi2 H2 σ2 e2 m s3 i2 => n _ _ _ e2 (f1.hi.trans (sm.trans m)) s3 i2) (fun Hi2 H2 σ2 e2 m s3 i2 => ⟨Hi2, e2, s3, sm.trans m, i2⟩) r
end

/-! ### comprehensions -/
section
variable {Y : Vol} {K : PySem.W.Frag} {es : List Ent} {ta tb te : TE} {tt : TT} {P : PyData → Prop}
/-- what a comprehension's turns keep -/
def LcW (Y : Vol) (K : PySem.W.Frag) (Hi1 H1 : Hp) (Dl : Addr) (R : List PyData → Prop) (H' : Hp) : Prop :=
  ∃ Hi' vs ys, Fr Y Hi1 H1 Hi' H' ∧ Hi' Dl = none ∧ H' Dl = some (.lst vs) ∧ DaAll K Hi' vs ys ∧ R ys
theorem LcW.init {Hi1 H1 : Hp} {Dl : Addr} (p : Pre Y Hi1 H1) (hD : H1 Dl = none) {R : List PyData → Prop} (h : R []) : LcW Y K Hi1 H1 Dl R (upd H1 Dl (.lst [])) :=
  ⟨Hi1, [], [], Fr.grow p (same_upd hD), p.sub.free hD, upd_same, .nil, h⟩
theorem LcW.turn {Hi1 H1 H' : Hp} {Dl : Addr} {R R' : List PyData → Prop} {n : Nat} {σ' : L2.St} {es' : List Ent} {H0i H0 : Hp} {σ : L2.St} (s : StIs Y K H0i H0 Hi1 H1 σ es) (hD : H1 Dl = none) (w : LcW Y K Hi1 H1 Dl R H') (hlen : ∀ ys, R ys → ys.length ≤ n) (hn : n < 1000000)
    {b : Bool} {G : PyData → Prop} {Hx : Hp} (sx : Same Hi1 Hx)
    (hst : ∀ Hi', Same Hx Hi' → Fr Y Hi1 H1 Hi' H' → StIs Y K H0i H0 Hi' H' σ' es')
    (hsx : ∀ Hi', Fr Y Hi1 H1 Hi' H' → Same Hx Hi')
    (ht : TsB Y K es' tt (· = b)) (he : b = true → EvD Y K es' te G) (hR : ∀ ys y, R ys → b = true → G y → R' (ys ++ [y])) (hR0 : ∀ ys, R ys → b = false → R' ys) :
    tt σ' H' fun c H3 => if c = true then te σ' H3 fun y H4 => ∃ acc, H4 Dl = some (.lst acc) ∧ acc.length < sizeLine ∧ LcW Y K Hi1 H1 Dl R' (upd H4 Dl (.lst (acc ++ [y]))) else LcW Y K Hi1 H1 Dl R' H3 := by
  obtain ⟨Hi', vs, ys, f, d1, d2, d3, rr⟩ := w
  have s2 := hst Hi' (hsx Hi' f) f
  have noW : ¬ Y.W Dl := fun hw => Y.there H1 Dl hw s.fr.inv hD
  have none_of : ∀ {Ha Hb Hia Hib : Hp}, Fr Y Hia Ha Hib Hb → Hia Dl = none → ∀ ws, Ha Dl = some (.lst ws) → Hib Dl = none := fun {Ha Hb Hia Hib} g e1 ws e2 => by
    cases q : Hib Dl with
    | none => rfl
    | some o =>
      rcases g.new Dl o q with z | z
      · rw [e1] at z
        cases z
      · exact absurd (z _ e2) not_tb_lst
  refine ht H0i H0 Hi' H' σ' s2 _ fun c Hi3 H3 f3 hc => ?_
  subst hc
  have d1' := none_of f3 d1 _ d2
  have d2' : H3 Dl = some (.lst vs) := f3.keep _ _ d2 noW not_tb_lst
  have d3' := DaAll.mono f3.hi _ _ d3
  cases c with
  | false =>
    show LcW Y K Hi1 H1 Dl R' H3
    exact ⟨Hi3, vs, ys, f.trans f3, d1', d2', d3', hR0 ys rr rfl⟩
  | true =>
    show te σ' H3 fun y H4 => ∃ acc, H4 Dl = some (.lst acc) ∧ acc.length < sizeLine ∧ LcW Y K Hi1 H1 Dl R' (upd H4 Dl (.lst (acc ++ [y])))
    refine he rfl H0i H0 Hi3 H3 σ' (s2.step f3) _ fun y dy Hi4 H4 f4 hy gy => ?_
    have e1 := none_of f4 d1' _ d2'
    have e2 : H4 Dl = some (.lst vs) := f4.keep _ _ d2' noW not_tb_lst
    have e3 := DaAll.mono f4.hi _ _ d3'
    refine ⟨vs, e2, ?_, Hi4, vs ++ [y], ys ++ [dy], ((f.trans f3).trans f4).mut (fun u hu => ?_) e1 noW e2, e1, upd_same, e3.append (.cons hy .nil), hR ys dy rr rfl gy⟩
    · rw [d3.len]
      have := hlen ys rr
      exact Nat.lt_of_le_of_lt this (Nat.lt_trans hn (by decide))
    · rw [hD] at hu
      cases hu
end
end FR
set_option maxRecDepth 100000
set_option maxHeartbeats 4000000
namespace FR
open PySem PySem.Spec PyProof.Rows L2
section
variable {Y : Vol} {K : PySem.W.Frag} {es : List Ent} {ta tb te tl : TE} {tt : TT} {P : PyData → Prop} {j : Nat}
theorem tb_yes : TsB Y K es tYes (· = true) := fun H0i H0 Hi H σ s Q q => q true Hi H (Fr.refl s.pre) rfl
theorem wipe1 (σ : L2.St) (x : Option V) : wipe ((wipe σ [j]).set j x) [j] = wipe σ [j] := by
  show ((σ.set j none).set j x).set j none = σ.set j none
  rw [List.set_set, List.set_set]
theorem StIs.turn {H0i H0 Hi H : Hp} {σ : L2.St} (s : StIs Y K H0i H0 Hi H σ es) {v : V} {d : PyData} (hd : Da K Hi v d) : StIs Y K H0i H0 Hi H ((wipe σ [j]).set j (some v)) (es.set j (.dat d)) := by
  have h := (s.setUnk (i := j) (x := none)).setDat (i := j) hd
  rw [List.set_set (l := es)] at h
  exact h
theorem take_succ_filter {α : Type} {p : α → Bool} {l : List α} {k : Nat} {x : α} (h : l[k]? = some x) : (l.take (k + 1)).filter p = (l.take k).filter p ++ (if p x = true then [x] else []) := by
  rw [List.take_add_one, h]
  show ((l.take k) ++ [x]).filter p = _
  rw [List.filter_append]
  congr 1
  by_cases hx : p x = true
  · rw [if_pos hx, List.filter_cons, if_pos hx]
    rfl
  · rw [if_neg hx, List.filter_cons, if_neg hx]
    rfl
theorem paired_snoc {α β : Type} {G : α → β → Prop} {a : α} {b : β} (h : G a b) : ∀ {xs : List α} {ys : List β}, Paired G xs ys → Paired G (xs ++ [a]) (ys ++ [b])
  | _, _, .nil => .cons h .nil
  | _, _, .cons r t => .cons r (paired_snoc h t)
theorem ev_lcL {ds : List PyData} (h : EvD Y K es tl (· = .list ds)) (p : PyData → Bool) (G : PyData → PyData → Prop) (ht : ∀ d ∈ ds, TsB Y K (es.set j (.dat d)) tt (· = p d)) (he : ∀ d ∈ ds, p d = true → EvD Y K (es.set j (.dat d)) te (G d)) (hl : ds.length < 1000000) :
    EvD Y K es (tLc (iSeqU K tl) (gName j) tt te [j]) (fun r => ∃ ys, r = .list ys ∧ Paired G (ds.filter p) ys) := fun H0i H0 Hi H σ s Q q => by
  refine .inl (.inl ?_)
  refine h H0i H0 Hi H σ s _ fun v d Hi1 H1 f1 hv e => ?_
  subst e
  cases hv with
  | @lst a xs _ ha hxs =>
    have s1 := s.step f1
    refine ⟨a, rfl, ⟨xs, .inl (.inl (f1.sub _ _ ha))⟩, fun Dl hD => ?_⟩
    refine lc_list (xs := xs) (fun k H' => LcW Y K Hi1 H1 Dl (fun ys => Paired G ((ds.take k).filter p) ys) H') (LcW.init f1.pre hD (by rw [List.take_zero]; exact .nil)) (fun k H' _ ⟨Hi', vs, ys, f, _⟩ => .inl (.inl (f.sub _ _ (f.hi _ _ ha)))) (fun k x H' hx w => ⟨wipe1 σ _, ?_⟩) (fun H' w => ?_)
    · obtain ⟨d, hd1, hd2⟩ := hxs.get' hx
      have hm : d ∈ ds := List.mem_of_getElem? hd1
      have hk : k < ds.length := (List.getElem?_eq_some_iff.mp hd1).1
      exact LcW.turn (n := ds.length) s1 hD w (fun ys py => by rw [← Paired.length py]; exact Nat.le_trans (List.length_filter_le _ _) (by rw [List.length_take]; exact Nat.min_le_right _ _)) hl (Same.refl Hi1)
        (fun Hi' sm f => (s1.step f).turn (Da.mono f.hi _ _ hd2)) (fun Hi' f => f.hi) (ht d hm) (fun e => he d hm e)
        (fun ys y py e g => by rw [take_succ_filter hd1, if_pos e]; exact paired_snoc g py) (fun ys py e => by rw [take_succ_filter hd1, e, if_neg Bool.false_ne_true, List.append_nil]; exact py)
    · obtain ⟨Hi', vs, ys, f, d1, d2, d3, rr⟩ := w
      have noW : ¬ Y.W Dl := fun hw => Y.there H1 Dl hw f1.inv hD
      rw [hxs.len, List.take_length] at rr
      refine q (.ref Dl) (.list ys) (upd Hi' Dl (.lst vs)) H' ?_ (.lst upd_same (DaAll.mono (same_upd d1) _ _ d3)) ⟨ys, rfl, rr⟩
      have g := f1.trans f
      refine ⟨g.hi.trans (same_upd d1), fun b o e => ?_, g.inv, fun b o e => ?_, g.keep, fun b o e => ?_⟩
      · by_cases hb : b = Dl
        · rw [hb, upd_same] at e
          cases e
          rw [hb]
          exact d2
        · rw [upd_ne hb] at e
          exact g.sub b o e
      · by_cases hb : b = Dl
        · rw [hb, upd_same] at e
          cases e
          rw [hb]
          exact ⟨noW, not_tb_lst⟩
        · rw [upd_ne hb] at e
          exact g.out b o e
      · by_cases hb : b = Dl
        · rw [hb]
          refine .inr fun u hu => ?_
          by_cases hw : Y.W Dl
          · exact absurd hw noW
          · by_cases ht : Tb u
            · exact ht
            · have := f1.keep Dl u hu noW ht
              rw [hD] at this
              cases this
        · rw [upd_ne hb] at e
          exact g.new b o e
/-- what is left of a comprehension's list: it stands -/
theorem LcW.fin {Hi H Hi1 H1 H' : Hp} {Dl : Addr} {R : List PyData → Prop} (f1 : Fr Y Hi H Hi1 H1) (hD : H1 Dl = none) (w : LcW Y K Hi1 H1 Dl R H') : ∃ Hi' ys, Fr Y Hi H Hi' H' ∧ Da K Hi' (.ref Dl) (.list ys) ∧ R ys := by
  obtain ⟨Hi', vs, ys, f, d1, d2, d3, rr⟩ := w
  have noW : ¬ Y.W Dl := fun hw => Y.there H1 Dl hw f1.inv hD
  refine ⟨upd Hi' Dl (.lst vs), ys, ?_, .lst upd_same (DaAll.mono (same_upd d1) _ _ d3), rr⟩
  have g := f1.trans f
  refine ⟨g.hi.trans (same_upd d1), fun b o e => ?_, g.inv, fun b o e => ?_, g.keep, fun b o e => ?_⟩
  · by_cases hb : b = Dl
    · rw [hb, upd_same] at e
      cases e
      rw [hb]
      exact d2
    · rw [upd_ne hb] at e
      exact g.sub b o e
  · by_cases hb : b = Dl
    · rw [hb, upd_same] at e
      cases e
      rw [hb]
      exact ⟨noW, not_tb_lst⟩
    · rw [upd_ne hb] at e
      exact g.out b o e
  · by_cases hb : b = Dl
    · rw [hb]
      refine .inr fun u hu => ?_
      by_cases ht : Tb u
      · exact ht
      · have := f1.keep Dl u hu noW ht
        rw [hD] at this
        cases this
    · rw [upd_ne hb] at e
      exact g.new b o e
theorem ev_lcT {ds : List PyData} (h : EvD Y K es tl (· = .tuple ds)) (p : PyData → Bool) (G : PyData → PyData → Prop) (ht : ∀ d ∈ ds, TsB Y K (es.set j (.dat d)) tt (· = p d)) (he : ∀ d ∈ ds, p d = true → EvD Y K (es.set j (.dat d)) te (G d)) (hl : ds.length < 1000000) :
    EvD Y K es (tLc (iSeqU K tl) (gName j) tt te [j]) (fun r => ∃ ys, r = .list ys ∧ Paired G (ds.filter p) ys) := fun H0i H0 Hi H σ s Q q => by
  refine .inl (.inr ?_)
  refine h H0i H0 Hi H σ s _ fun v d Hi1 H1 f1 hv e => ?_
  subst e
  cases hv with
  | @tup a xs _ ha hxs =>
    have s1 := s.step f1
    refine ⟨a, rfl, ⟨xs, sqt_mono f1.sub ha⟩, fun Dl hD => ?_⟩
    refine lc_tup (xs := xs) (fun k H' => LcW Y K Hi1 H1 Dl (fun ys => Paired G ((ds.take k).filter p) ys) H') (LcW.init f1.pre hD (by rw [List.take_zero]; exact .nil)) (fun k H' _ ⟨Hi', vs, ys, f, _⟩ => sqt_mono (f.hi.trans f.sub) ha) (fun k x H' hx w => ⟨wipe1 σ _, ?_⟩) (fun H' w => ?_)
    · obtain ⟨d, hd1, hd2⟩ := hxs.get' hx
      have hm : d ∈ ds := List.mem_of_getElem? hd1
      have hk : k < ds.length := (List.getElem?_eq_some_iff.mp hd1).1
      exact LcW.turn (n := ds.length) s1 hD w (fun ys py => by rw [← Paired.length py]; exact Nat.le_trans (List.length_filter_le _ _) (by rw [List.length_take]; exact Nat.min_le_right _ _)) hl (Same.refl Hi1)
        (fun Hi' sm f => (s1.step f).turn (Da.mono f.hi _ _ hd2)) (fun Hi' f => f.hi) (ht d hm) (fun e => he d hm e)
        (fun ys y py e g => by rw [take_succ_filter hd1, if_pos e]; exact paired_snoc g py) (fun ys py e => by rw [take_succ_filter hd1, e, if_neg Bool.false_ne_true, List.append_nil]; exact py)
    · obtain ⟨Hi', ys, g, hd, rr⟩ := w.fin f1 hD
      rw [hxs.len, List.take_length] at rr
      exact q _ _ _ _ g hd ⟨ys, rfl, rr⟩
theorem range_get {m k : Nat} (h : k < m) : (List.range m)[k]? = some k := by
  rw [List.getElem?_range h]
theorem ev_lcR1 {n : Int} {tl : TA} (h : ArD Y K es tl (· = [.int n])) (p : Nat → Bool) (G : Nat → PyData → Prop) (ht : ∀ k : Nat, (k : Int) < n → TsB Y K (es.set j (.dat (.int k))) tt (· = p k)) (he : ∀ k : Nat, (k : Int) < n → p k = true → EvD Y K (es.set j (.dat (.int k))) te (G k)) (hl : n < 1000000) (hl0 : -1000000 ≤ n) :
    EvD Y K es (tLc (iRng1 tl) (gName j) tt te [j]) (fun r => ∃ ys, r = .list ys ∧ Paired G ((List.range n.toNat).filter p) ys) := fun H0i H0 Hi H σ s Q q => by
  refine h H0i H0 Hi H σ s _ fun vs ds Hi1 H1 f1 hv e => ?_
  subst e
  cases hv with
  | cons h1 h2 =>
    cases h1
    cases h2
    have s1 := s.step f1
    refine ⟨n, rfl, by omega, by omega, fun Dl hD => ?_⟩
    refine lc_range (lo := 0) (n := n.toNat) (fun k H' => LcW Y K Hi1 H1 Dl (fun ys => Paired G (((List.range n.toNat).take k).filter p) ys) H') (LcW.init f1.pre hD (by rw [List.take_zero]; exact .nil)) (fun k H' hk w => ⟨wipe1 σ _, ?_⟩) (fun H' w => ?_)
    · have e0 : (0 : Int) + (k : Int) = (k : Int) := Int.zero_add _
      have hd1 := range_get (m := n.toNat) hk
      show tt ((wipe σ [j]).set j (some (.int ((0 : Int) + (k : Int))))) H' fun c H3 => if c = true then te ((wipe σ [j]).set j (some (.int ((0 : Int) + (k : Int))))) H3 fun y H4 => ∃ acc, H4 Dl = some (.lst acc) ∧ acc.length < sizeLine ∧ LcW Y K Hi1 H1 Dl (fun ys => Paired G (((List.range n.toNat).take (k + 1)).filter p) ys) (upd H4 Dl (.lst (acc ++ [y]))) else LcW Y K Hi1 H1 Dl (fun ys => Paired G (((List.range n.toNat).take (k + 1)).filter p) ys) H3
      rw [e0]
      exact LcW.turn (n := n.toNat) s1 hD w (fun ys py => by rw [← Paired.length py]; exact Nat.le_trans (List.length_filter_le _ _) (by rw [List.length_take, List.length_range]; exact Nat.min_le_right _ _)) (by omega) (Same.refl Hi1)
        (fun Hi' sm f => (s1.step f).turn (.int (k : Int))) (fun Hi' f => f.hi) (ht k (by omega)) (fun e => he k (by omega) e)
        (fun ys y py e g => by rw [take_succ_filter hd1, if_pos e]; exact paired_snoc g py) (fun ys py e => by rw [take_succ_filter hd1, e, if_neg Bool.false_ne_true, List.append_nil]; exact py)
    · obtain ⟨Hi', ys, g, hd, rr⟩ := w.fin f1 hD
      have e : (List.range n.toNat).take n.toNat = List.range n.toNat := List.take_of_length_le (by rw [List.length_range]; exact Nat.le_refl _)
      rw [e] at rr
      exact q _ _ _ _ g hd ⟨ys, rfl, rr⟩
theorem paired_map {α β : Type} {f : α → β} : ∀ {xs : List α} {ys : List β}, Paired (fun a b => b = f a) xs ys → ys = xs.map f
  | _, _, .nil => rfl
  | _, _, .cons r t => by rw [List.map_cons, ← paired_map t, r]
theorem lc_sign {x : Str} {g : TG} {tt : TT} {te : TE} {vs : List Nat} {σ : L2.St} {H1 : Hp} {D : Addr} {Qd : Hp → Prop} (Pv : Nat → Hp → Prop) (h0 : Pv 0 (upd H1 D (.lst [])))
    (hs : ∀ i c H, x.cps[i]? = some c → Pv i H → g (.str ⟨#[c]⟩) (wipe σ vs) H fun σ2 H2 => wipe σ2 vs = wipe σ vs ∧ tt σ2 H2 fun b H3 =>
      if b = true then te σ2 H3 fun y H4 => ∃ acc, H4 D = some (.lst acc) ∧ acc.length < sizeLine ∧ Pv (i + 1) (upd H4 D (.lst (acc ++ [y]))) else Pv (i + 1) H3) (hd : ∀ H, Pv x.cps.size H → Qd H) :
    ∃ W : Nat → Nat → Hp → Prop, (∃ m, W 0 m (upd H1 D (.lst []))) ∧ ∀ i m H, W i m H →
      ((Its x).stop i H ∧ Qd H) ∨ ((Its x).go i H ∧ ∃ Nx : Hp → Prop, (∀ H', Nx H' → ∃ m', m' < m ∧ W (i + 1) m' H') ∧ ∀ v H', (Its x).yld i H v H' → g v (wipe σ vs) H' fun σ2 H2 => wipe σ2 vs = wipe σ vs ∧ tt σ2 H2 fun b H3 =>
        if b = true then te σ2 H3 fun y H4 => ∃ acc, H4 D = some (.lst acc) ∧ acc.length < sizeLine ∧ Nx (upd H4 D (.lst (acc ++ [y]))) else Nx H3) := by
  refine ⟨fun i m H => m = x.cps.size - i ∧ i ≤ x.cps.size ∧ Pv i H, ⟨x.cps.size, by simp, Nat.zero_le _, h0⟩, ?_⟩
  rintro i m H ⟨rfl, hi, p⟩
  by_cases hlt : i < x.cps.size
  · refine .inr ⟨hlt, Pv (i + 1), fun H' q => ⟨x.cps.size - (i + 1), by omega, rfl, hlt, q⟩, fun v H' hy => ?_⟩
    obtain ⟨rfl, c, hc, rfl⟩ := hy
    exact hs i c H' hc p
  · have e : i = x.cps.size := by omega
    subst e
    exact .inl ⟨Nat.le_refl _, hd H p⟩
theorem ev_lcS {z : List Nat} (h : EvD Y K es tl (· = .str (SX.S z))) (p : Nat → Bool) (G : Nat → PyData → Prop) (ht : ∀ c ∈ z, TsB Y K (es.set j (.dat (.str (SX.S [c])))) tt (· = p c)) (he : ∀ c ∈ z, p c = true → EvD Y K (es.set j (.dat (.str (SX.S [c])))) te (G c)) (hl : z.length < 1000000) :
    EvD Y K es (tLc (iSeqU K tl) (gName j) tt te [j]) (fun r => ∃ ys, r = .list ys ∧ Paired G (z.filter p) ys) := fun H0i H0 Hi H σ s Q q => by
  refine .inr ?_
  refine h H0i H0 Hi H σ s _ fun v d Hi1 H1 f1 hv e => ?_
  subst e
  cases hv
  have s1 := s.step f1
  refine ⟨SX.S z, rfl, fun Dl hD => ?_⟩
  refine lc_sign (x := SX.S z) (fun k H' => LcW Y K Hi1 H1 Dl (fun ys => Paired G ((z.take k).filter p) ys) H') (LcW.init f1.pre hD (by rw [List.take_zero]; exact .nil)) (fun k c H' hk w => ⟨wipe1 σ _, ?_⟩) (fun H' w => ?_)
  · have hd1 : z[k]? = some c := by simpa using hk
    have hm : c ∈ z := List.mem_of_getElem? hd1
    exact LcW.turn (n := z.length) s1 hD w (fun ys py => by rw [← Paired.length py]; exact Nat.le_trans (List.length_filter_le _ _) (by rw [List.length_take]; exact Nat.min_le_right _ _)) hl (Same.refl Hi1)
      (fun Hi' sm f => (s1.step f).turn (.str (SX.S [c]))) (fun Hi' f => f.hi) (ht c hm) (fun e => he c hm e)
      (fun ys y py e g => by rw [take_succ_filter hd1, if_pos e]; exact paired_snoc g py) (fun ys py e => by rw [take_succ_filter hd1, e, if_neg Bool.false_ne_true, List.append_nil]; exact py)
  · obtain ⟨Hi', ys, g, hd, rr⟩ := w.fin f1 hD
    have e : (SX.S z).cps.size = z.length := by simp
    rw [e, List.take_length] at rr
    exact q _ _ _ _ g hd ⟨ys, rfl, rr⟩
/-! deterministic comprehensions -/
theorem ev_lcLd {ds : List PyData} (f : PyData → PyData) (h : EvD Y K es tl (· = .list ds)) (he : ∀ d ∈ ds, EvD Y K (es.set j (.dat d)) te (· = f d)) (hl : ds.length < 1000000) : EvD Y K es (tLc (iSeqU K tl) (gName j) tYes te [j]) (· = .list (ds.map f)) :=
  (ev_lcL h (fun _ => true) (fun d y => y = f d) (fun _ _ => tb_yes) (fun d hd _ => he d hd) hl).mono fun r ⟨ys, e, p⟩ => by
    rw [List.filter_eq_self.mpr (fun _ _ => rfl)] at p
    rw [e, paired_map p]
theorem ev_lcTd {ds : List PyData} (f : PyData → PyData) (h : EvD Y K es tl (· = .tuple ds)) (he : ∀ d ∈ ds, EvD Y K (es.set j (.dat d)) te (· = f d)) (hl : ds.length < 1000000) : EvD Y K es (tLc (iSeqU K tl) (gName j) tYes te [j]) (· = .list (ds.map f)) :=
  (ev_lcT h (fun _ => true) (fun d y => y = f d) (fun _ _ => tb_yes) (fun d hd _ => he d hd) hl).mono fun r ⟨ys, e, p⟩ => by
    rw [List.filter_eq_self.mpr (fun _ _ => rfl)] at p
    rw [e, paired_map p]
theorem ev_lcSd {z : List Nat} (f : Nat → PyData) (h : EvD Y K es tl (· = .str (SX.S z))) (he : ∀ c ∈ z, EvD Y K (es.set j (.dat (.str (SX.S [c])))) te (· = f c)) (hl : z.length < 1000000) : EvD Y K es (tLc (iSeqU K tl) (gName j) tYes te [j]) (· = .list (z.map f)) :=
  (ev_lcS h (fun _ => true) (fun d y => y = f d) (fun _ _ => tb_yes) (fun d hd _ => he d hd) hl).mono fun r ⟨ys, e, p⟩ => by
    rw [List.filter_eq_self.mpr (fun _ _ => rfl)] at p
    rw [e, paired_map p]
theorem ev_lcRd {n : Int} {tl : TA} (f : Nat → PyData) (h : ArD Y K es tl (· = [.int n])) (he : ∀ k : Nat, (k : Int) < n → EvD Y K (es.set j (.dat (.int k))) te (· = f k)) (hl : n < 1000000) (hl0 : -1000000 ≤ n) : EvD Y K es (tLc (iRng1 tl) (gName j) tYes te [j]) (· = .list ((List.range n.toNat).map f)) :=
  (ev_lcR1 h (fun _ => true) (fun d y => y = f d) (fun _ _ => tb_yes) (fun d hd _ => he d hd) hl hl0).mono fun r ⟨ys, e, p⟩ => by
    rw [List.filter_eq_self.mpr (fun _ _ => rfl)] at p
    rw [e, paired_map p]
theorem ev_lcRf {n : Int} {tl : TA} (p : Nat → Bool) (f : Nat → PyData) (h : ArD Y K es tl (· = [.int n])) (ht : ∀ k : Nat, (k : Int) < n → TsB Y K (es.set j (.dat (.int k))) tt (· = p k)) (he : ∀ k : Nat, (k : Int) < n → p k = true → EvD Y K (es.set j (.dat (.int k))) te (· = f k)) (hl : n < 1000000) (hl0 : -1000000 ≤ n) : EvD Y K es (tLc (iRng1 tl) (gName j) tt te [j]) (· = .list (((List.range n.toNat).filter p).map f)) :=
  (ev_lcR1 h p (fun d y => y = f d) ht he hl hl0).mono fun r ⟨ys, e, p⟩ => by rw [e, paired_map p]
end
end FR
set_option maxRecDepth 100000
set_option maxHeartbeats 4000000
namespace FR
open PySem PySem.Spec PyProof.Rows L2

/-! ### promises of defs over data -/
def spF (K : PySem.W.Frag) (n : Nat) (pre : List PyData → Prop) (post : List PyData → PyData → Prop) : Sp := fun vs H Q _ =>
  vs.length = n ∧ ∃ (Y : Vol) (Hi : Hp) (ds : List PyData), Pre Y Hi H ∧ DaAll K Hi vs ds ∧ pre ds ∧ ∀ v d Hi' H', Fr Y Hi H Hi' H' → Da K Hi' v d → post ds d → Q v H'
/-- the state of a well: three ints -/
def IsWO (o : HO) : Prop := ∃ s d c : Int, o = .lst [.int s, .int d, .int c] ∧ 0 ≤ s ∧ s < 2147483629 ∧ 0 ≤ d ∧ 0 ≤ c
structure Vol.Well (Y : Vol) (a : Addr) : Prop where
  w : Y.W a
  is_ : ∀ H, Y.I H → ∃ o, H a = some o ∧ IsWO o
  put : ∀ H o, IsWO o → Y.I H → Y.I (upd H a o)
/-- its first argument is a well -/
def spW (K : PySem.W.Frag) (n : Nat) (pre : List PyData → Prop) (post : List PyData → PyData → Prop) : Sp := fun vs H Q _ =>
  vs.length = n + 1 ∧ ∃ (Y : Vol) (a : Addr) (rest : List V) (Hi : Hp) (ds : List PyData), vs = .ref a :: rest ∧ Y.Well a ∧ Pre Y Hi H ∧ DaAll K Hi rest ds ∧ pre ds ∧ ∀ v d Hi' H', Fr Y Hi H Hi' H' → Da K Hi' v d → post ds d → Q v H'
section
variable {K : PySem.W.Frag} {n : Nat} {pre : List PyData → Prop} {post : List PyData → PyData → Prop} {N : List Str} {t : TS}
theorem start_at {vs : List V} {i : Nat} {v : V} (h : vs[i]? = some v) : (L2.start N vs)[i]? = some (some v) := by
  unfold L2.start
  have hl : i < vs.length := (List.getElem?_eq_some_iff.mp h).1
  rw [List.getElem?_append_left (by rw [List.length_map]; exact hl), List.getElem?_map, h]
  rfl
theorem start_len {vs : List V} (h : vs.length ≤ N.length) : (L2.start N vs).length = N.length := by
  unfold L2.start
  rw [List.length_append, List.length_map, List.length_replicate]
  omega
theorem st0 {Y : Vol} {Hi H : Hp} {vs : List V} {es : List Ent} (p : Pre Y Hi H) (hN : vs.length ≤ N.length) (hl : es.length = N.length) (he : ∀ (i : Nat) (e : Ent), es[i]? = some e → (e = .unk ∨ ∃ v, vs[i]? = some v ∧ ((∃ d, e = .dat d ∧ Da K Hi v d) ∨ e = .raw v))) : StIs Y K Hi H Hi H (L2.start N vs) es := by
  refine ⟨Fr.refl p, by rw [start_len hN, hl], fun i e h => ?_, fun i j a ds ds' _ h1 _ _ => ?_⟩
  · rcases he i e h with rfl | ⟨v, hv, ⟨d, rfl, hd⟩ | rfl⟩
    · have hi : i < (L2.start N vs).length := by
        rw [start_len hN, ← hl]
        exact (List.getElem?_eq_some_iff.mp h).1
      exact ⟨_, List.getElem?_eq_getElem hi, trivial⟩
    · exact ⟨_, start_at hv, v, rfl, hd⟩
    · exact ⟨_, start_at hv, rfl⟩
  · rcases he i _ h1 with e | ⟨v, _, ⟨d, e, _⟩ | e⟩ <;> cases e
/-- a def's reading, from its statements over data -/
theorem fn_read (hN : n ≤ N.length) (h : ∀ (Y : Vol) (ds : List PyData), ds.length = n → pre ds → StS Y K (ds.map .dat ++ List.replicate (N.length - n) .unk) t { nx := fun _ => post ds .none, rt := post ds }) :
    ∀ vs H Q E, spF K n pre post vs H Q E → t { nx := fun _ H' => Q .non H', rt := Q } (L2.start N vs) H := by
  intro vs H Q E ⟨hl, Y, Hi, ds, p, hd, hp, q⟩
  have hld : ds.length = n := by rw [← hd.len, hl]
  refine h Y ds hld hp Hi H Hi H _ (st0 p (by omega) (by rw [List.length_append, List.length_map, List.length_replicate]; omega) fun i e hi => ?_) _ (fun Hi' H' σ' es' _ s' o => q _ _ Hi' H' s'.fr .non o) (fun _ _ _ _ _ _ o => o.elim) (fun _ _ _ _ _ _ o => o.elim) (fun v d Hi' H' f hv o => q v d Hi' H' f hv o)
  by_cases hlt : i < ds.length
  · rw [List.getElem?_append_left (by rw [List.length_map]; exact hlt), List.getElem?_map, List.getElem?_eq_getElem hlt] at hi
    cases hi
    obtain ⟨v, h1, h2⟩ := hd.get (List.getElem?_eq_getElem hlt)
    exact .inr ⟨v, h1, .inl ⟨_, rfl, h2⟩⟩
  · rw [List.getElem?_append_right (by rw [List.length_map]; omega)] at hi
    obtain ⟨_, e⟩ := List.getElem?_eq_some_iff.mp hi
    rw [List.getElem_replicate] at e
    exact .inl e.symm
theorem fn_readW (hN : n + 1 ≤ N.length) (h : ∀ (Y : Vol) (a : Addr) (ds : List PyData), Y.Well a → ds.length = n → pre ds → StS Y K (.raw (.ref a) :: (ds.map .dat ++ List.replicate (N.length - (n + 1)) .unk)) t { nx := fun _ => post ds .none, rt := post ds }) :
    ∀ vs H Q E, spW K n pre post vs H Q E → t { nx := fun _ H' => Q .non H', rt := Q } (L2.start N vs) H := by
  intro vs H Q E ⟨hl, Y, a, rest, Hi, ds, hv, hW, p, hd, hp, q⟩
  subst hv
  have hld : ds.length = n := by rw [← hd.len]; simpa using hl
  refine h Y a ds hW hld hp Hi H Hi H _ (st0 p (by omega) (by simp only [List.length_cons, List.length_append, List.length_map, List.length_replicate]; omega) fun i e hi => ?_) _ (fun Hi' H' σ' es' _ s' o => q _ _ Hi' H' s'.fr .non o) (fun _ _ _ _ _ _ o => o.elim) (fun _ _ _ _ _ _ o => o.elim) (fun v d Hi' H' f hv o => q v d Hi' H' f hv o)
  cases i with
  | zero =>
    cases hi
    exact .inr ⟨_, rfl, .inr rfl⟩
  | succ i =>
    rw [List.getElem?_cons_succ] at hi
    by_cases hlt : i < ds.length
    · rw [List.getElem?_append_left (by rw [List.length_map]; exact hlt), List.getElem?_map, List.getElem?_eq_getElem hlt] at hi
      cases hi
      obtain ⟨v, h1, h2⟩ := hd.get (List.getElem?_eq_getElem hlt)
      exact .inr ⟨v, by rw [List.getElem?_cons_succ]; exact h1, .inl ⟨_, rfl, h2⟩⟩
    · rw [List.getElem?_append_right (by rw [List.length_map]; omega)] at hi
      obtain ⟨_, e⟩ := List.getElem?_eq_some_iff.mp hi
      rw [List.getElem_replicate] at e
      exact .inl e.symm
end
/-! calls of such defs -/
section
variable {Y : Vol} {K : PySem.W.Frag} {es : List Ent} {ta tb te tl : TE} {P : PyData → Prop} {n : Nat} {pre : List PyData → Prop} {post : List PyData → PyData → Prop} {tr : TA} {E : XK}
theorem ev_callF {Pds : List PyData → Prop} (h : ArD Y K es tr Pds) (hp : ∀ ds, Pds ds → ds.length = n ∧ pre ds) : EvD Y K es (tCall (spF K n pre post) [] E tr) (fun d => ∃ ds, Pds ds ∧ post ds d) := fun H0i H0 Hi H σ s Q q =>
  h H0i H0 Hi H σ s _ fun vs ds Hi1 H1 f1 hd pd => by
    rw [List.append_nil]
    exact ⟨by rw [hd.len]; exact (hp ds pd).1, Y, Hi1, ds, f1.pre, hd, (hp ds pd).2, fun v d Hi' H' f hv po => q v d Hi' H' (f1.trans f) hv ⟨ds, pd, po⟩⟩
theorem ev_call {ds : List PyData} (h : ArD Y K es tr (· = ds)) (hl : ds.length = n) (hp : pre ds) : EvD Y K es (tCall (spF K n pre post) [] E tr) (post ds) :=
  (ev_callF h fun ds' e => e ▸ ⟨hl, hp⟩).mono fun d ⟨ds', e, po⟩ => e ▸ po
theorem ev_callW {i : Nat} {a : Addr} {Pds : List PyData → Prop} (hi : es[i]? = some (.raw (.ref a))) (hW : Y.Well a) (h : ArD Y K es tr Pds) (hp : ∀ ds, Pds ds → ds.length = n ∧ pre ds) : EvD Y K es (tCall (spW K n pre post) [] E (tCons (tVar i) tr)) (fun d => ∃ ds, Pds ds ∧ post ds d) := fun H0i H0 Hi H σ s Q q => by
  obtain ⟨x, e1, hx⟩ := s.env i _ hi
  cases hx
  refine ⟨.ref a, e1, h H0i H0 Hi H σ s _ fun vs ds Hi1 H1 f1 hd pd => ?_⟩
  show spW K n pre post ((.ref a :: vs) ++ []) H1 Q E
  rw [List.append_nil]
  exact ⟨by rw [List.length_cons, hd.len, (hp ds pd).1], Y, a, vs, Hi1, ds, rfl, hW, f1.pre, hd, (hp ds pd).2, fun v d Hi' H' f hv po => q v d Hi' H' (f1.trans f) hv ⟨ds, pd, po⟩⟩
theorem ev_callWd {i : Nat} {a : Addr} {ds : List PyData} (hi : es[i]? = some (.raw (.ref a))) (hW : Y.Well a) (h : ArD Y K es tr (· = ds)) (hl : ds.length = n) (hp : pre ds) : EvD Y K es (tCall (spW K n pre post) [] E (tCons (tVar i) tr)) (post ds) :=
  (ev_callW hi hW h fun ds' e => e ▸ ⟨hl, hp⟩).mono fun d ⟨ds', e, po⟩ => e ▸ po
/-! a well's items, read and stored -/
theorem well_at {H : Hp} {a : Addr} (hW : Y.Well a) (p : Y.I H) : ∃ s d c : Int, H a = some (.lst [.int s, .int d, .int c]) ∧ 0 ≤ s ∧ s < 2147483629 ∧ 0 ≤ d ∧ 0 ≤ c := by
  obtain ⟨o, h1, s, d, c, rfl, h2⟩ := hW.is_ H p
  exact ⟨s, d, c, h1, h2⟩
theorem ev_well0 {i : Nat} {a : Addr} (hi : es[i]? = some (.raw (.ref a))) (hW : Y.Well a) : EvD Y K es (tOp (rIx K) (tVar i) (tC (.int 0))) (fun d => ∃ z : Int, d = .int z ∧ 0 ≤ z ∧ z < 2147483629) := fun H0i H0 Hi H σ s Q q => by
  obtain ⟨x, e1, hx⟩ := s.env i _ hi
  cases hx
  obtain ⟨z, d, c, h1, h2, h3, h4, h5⟩ := well_at hW s.fr.inv
  exact ⟨.ref a, e1, .inl ⟨a, _, 0, .int z, rfl, rfl, .inl (.inl h1), rfl, q _ _ Hi H (Fr.refl s.pre) (.int z) ⟨z, rfl, h2, h3⟩⟩⟩
theorem ev_well1 {i : Nat} {a : Addr} (hi : es[i]? = some (.raw (.ref a))) (hW : Y.Well a) : EvD Y K es (tOp (rIx K) (tVar i) (tC (.int 1))) (fun d => ∃ z : Int, d = .int z ∧ 0 ≤ z) := fun H0i H0 Hi H σ s Q q => by
  obtain ⟨x, e1, hx⟩ := s.env i _ hi
  cases hx
  obtain ⟨z, d, c, h1, h2, h3, h4, h5⟩ := well_at hW s.fr.inv
  exact ⟨.ref a, e1, .inl ⟨a, _, 1, .int d, rfl, rfl, .inl (.inl h1), rfl, q _ _ Hi H (Fr.refl s.pre) (.int d) ⟨d, rfl, h4⟩⟩⟩
theorem ev_well2 {i : Nat} {a : Addr} (hi : es[i]? = some (.raw (.ref a))) (hW : Y.Well a) : EvD Y K es (tOp (rIx K) (tVar i) (tC (.int 2))) (fun d => ∃ z : Int, d = .int z ∧ 0 ≤ z) := fun H0i H0 Hi H σ s Q q => by
  obtain ⟨x, e1, hx⟩ := s.env i _ hi
  cases hx
  obtain ⟨z, d, c, h1, h2, h3, h4, h5⟩ := well_at hW s.fr.inv
  exact ⟨.ref a, e1, .inl ⟨a, _, 2, .int c, rfl, rfl, .inl (.inl h1), rfl, q _ _ Hi H (Fr.refl s.pre) (.int c) ⟨c, rfl, h5⟩⟩⟩
theorem Fr.well {Hi H : Hp} {a : Addr} {o o' : HO} (p : Pre Y Hi H) (hW : Y.Well a) (ho : IsWO o) (h : H a = some o') : Fr Y Hi H Hi (upd H a o) := by
  have hi : Hi a = none := by
    cases q : Hi a with
    | none => rfl
    | some u => exact absurd hW.w (p.out a u q).1
  refine ⟨Same.refl _, fun b x e => ?_, hW.put _ _ ho p.inv, p.out, fun b x e h1 _ => ?_, fun b x e => .inl e⟩
  · rw [upd_ne (ne_of_none e hi)]
    exact p.sub b x e
  · rw [upd_ne (fun z => h1 (by rw [z]; exact hW.w))]
    exact e
theorem ss_well {i j : Nat} {a : Addr} {O : Out} (hi : es[i]? = some (.raw (.ref a))) (hW : Y.Well a) (hj : j < 3) (h : EvD Y K es te (fun d => ∃ z : Int, d = .int z ∧ 0 ≤ z ∧ (j = 0 → z < 2147483629))) (k : O.nx es) : StS Y K es (tAsg te (gSub (tVar i) (tC (.int (j : Int))) rSetL)) O := fun H0i H0 Hi H σ s Dn n b c r => by
  refine h H0i H0 Hi H σ s _ fun v d Hi1 H1 f1 hd ⟨z, e, hz, hz0⟩ => ?_
  subst e
  cases hd
  obtain ⟨x, e1, hx⟩ := s.env i _ hi
  cases hx
  obtain ⟨s0, d0, c0, h1, h2, h3, h4, h5⟩ := well_at hW f1.inv
  have go : ∀ o : List V, IsWO (.lst o) → o = ([V.int s0, V.int d0, V.int c0] : List V).set j (.int z) → (fun v σ H Q => gSub (tVar i) (tC (.int (j : Int))) rSetL v σ H Q) (V.int z) σ H1 Dn.nx := fun o ho eo =>
    ⟨.ref a, e1, a, _, (j : Int), j, rfl, rfl, h1, by unfold ixN; rw [if_pos (by omega), if_pos (by show (j : Int) < 3; omega)]; simp, n Hi1 _ _ _ f1.hi (eo ▸ (s.step f1).step (Fr.well f1.pre hW ho h1)) k⟩
  match j, hj, hz0, go with
  | 0, _, hz0, go => exact go [.int z, .int d0, .int c0] ⟨z, d0, c0, rfl, hz, hz0 rfl, h4, h5⟩ rfl
  | 1, _, _, go => exact go [.int s0, .int z, .int c0] ⟨s0, z, c0, rfl, h2, h3, hz, h5⟩ rfl
  | 2, _, _, go => exact go [.int s0, .int d0, .int z] ⟨s0, d0, z, rfl, h2, h3, h4, hz⟩ rfl
end

section
variable {Y : Vol} {K : PySem.W.Frag} {es : List Ent} {te : TE} {t2 : TS}
theorem qs_well {i j : Nat} {a : Addr} {O : Out} (hi : es[i]? = some (.raw (.ref a))) (hW : Y.Well a) (hj : j < 3) (h : EvD Y K es te (fun d => ∃ z : Int, d = .int z ∧ 0 ≤ z ∧ (j = 0 → z < 2147483629))) (k : StS Y K es t2 O) : StS Y K es (tSeq (tAsg te (gSub (tVar i) (tC (.int (j : Int))) rSetL)) t2) O :=
  ss_seq (M := fun e => e = es) (ss_well hi hW hj h rfl) fun e e1 => e1 ▸ k
end

/-! ### defs that are called where nothing guards a repr -/
structure FnG (P : Program) (w : World) (K : PySem.W.Frag) (mg : Str → Option Value) (base : Heap) (CX : CXT) (k : Nat) (f : Addr) (fd : FuncData) (ps : List Str) (sp : Sp) : Prop where
  len : ∀ vs H Q E, sp vs H Q E → vs.length = ps.length
  go : ∀ (A : Around), A.guards = some [] → Room k A → ∀ (outer : List Env) (s : Shared) (H : Hp) (args : Args) (us : List Value) (vs : List V) (Q : VK) (E : XK),
    Env0 P w K mg base A outer s H → BindsTo s fd args (ps.zip us) → Vals vs us → sp vs H Q E → codeAny (model P w) A (.call (.ref f) args) (CR CX outer P w H s Q E) s
section
variable {P : Program} {w : World} {K : PySem.W.Frag} {mg : Str → Option Value} {base : Heap} {CX : CXT}
theorem FnG.of {k : Nat} {f : Addr} {fd : FuncData} {ps : List Str} {sp : Sp} (F : FnOk P w K mg base CX k f fd ps sp) : FnG P w K mg base CX k f fd ps sp :=
  ⟨F.len, fun A _ hr outer s H args us vs Q E e0 hb r h => F.run A outer s H args us vs Q E hr e0 hb r h⟩
theorem FnG.mono {j k : Nat} {f : Addr} {fd : FuncData} {ps : List Str} {sp : Sp} (F : FnG P w K mg base CX j f fd ps sp) (h : j ≤ k) : FnG P w K mg base CX k f fd ps sp :=
  ⟨F.len, fun A g hr => F.go A g (hr.mono h)⟩
/-- the rule for a def, its body walked where nothing guards -/
theorem fun_okG {x qual : Str} {st : Stmt} {f : Addr} {fd : FuncData} {N ps : List Str} {k : Nat} {sp : Sp} (F : Fun K x qual st f fd) (S : FnScope N ps (defScope st)) (len : ∀ vs H Q E, sp vs H Q E → vs.length = ps.length)
    (body : ∀ (cdv : Value) (A : Around) (outer : List Env) (s : Shared) (H : Hp) (vs : List V) (Q : VK) (E : XK), A.guards = some [] → Room k (A.deeper (envOfC qual (defScope st) s.heap.objs.size f cdv)) → PySem.W.codeIn K cdv qual = true → (∃ (oc : Value) (od an : Option Addr) (kV doc pm ct : Value) (osl : Array (Option Value)), K.lookup f = some ⟨oc, od, .func (PySem.W.fnOf x qual (defArgs st) (defBody st) (defScope st) .none kV doc pm an cdv ct), osl⟩) → sp vs H Q E →
      ∃ t, PSs (cxOf CX P w K mg base N qual (defScope st) f cdv A outer s H E) (defBody st) t ∧ t { nx := fun _ H' => Q .non H', rt := Q } (L2.start N vs) H) : FnG P w K mg base CX (k + 1) f fd ps sp := by
  obtain ⟨oc, od, kV, doc, pm, an, cdv, ct, osl, rfl, lk, hcd⟩ := F.ex
  refine ⟨len, fun A hg hr outer s H args us vs Q E e0 hb r hsp => ?_⟩
  have old : ∀ b o, base.get? b = some o → s.heap.get? b = some o := fun b o e => (e0.bs b o e).1
  have par : ∀ y ∈ ps.zip us, (defScope st).names.lookup y.1 = some .local ∨ ((defScope st).names.lookup y.1 = some .cell ∧ ((cellsFrom (s.heap.objs.size + 1) (defScope st).names []).lookup y.1).isSome = true) := by
    rintro ⟨a, b⟩ hy
    cases S.par a (List.of_mem_zip hy).1 with
    | inl q => exact .inl q
    | inr q => exact .inr ⟨q, PySem.W.cellsFrom_some _ _ _ (.inl q)⟩
  apply codeAny_call_function hr.depth (e0.mod.kin.keeps old _ _ lk) rfl S.co S.gen rfl (PySem.W.codeRec_of (e0.mod.kin.keeps old) hcd)
  apply hb
  apply wpAny_newFunctionEnv_cells S.kind par
  intro env he s1 x
  subst he
  refine ⟨(e0.mod.nolimit.keeps old).keeps x.toInCall.keep, codeAny_func ?_⟩
  obtain ⟨t, ht, q⟩ := body cdv A outer s H vs Q E hg (hr.deeper _) hcd ⟨_, _, _, _, _, _, _, _, lk⟩ hsp
  apply wpAny_mono (ht.run [] s1 _ H _ (inv_start S hr.hd e0 (len _ _ _ _ hsp) r x) q)
  · intro fl s' hs
    match fl, hs with
    | .ret u, ⟨v, σ', H', J, rv, z⟩ => exact ⟨v, H', J.os, J.bare, J.base, J.hok, rv, z⟩
    | .next, ⟨σ', H', J, z⟩ => exact ⟨V.non, H', J.os, J.bare, J.base, J.hok, rfl, z⟩
    | .brk, ⟨_, _, _, z⟩ => exact z.elim
    | .cont, ⟨_, _, _, z⟩ => exact z.elim
  · exact fun e s' hs => hs
end
section
variable {X : Cx} {CX : CXT} {k : Nat} {f : Addr} {fd : FuncData} {ps : List Str} {sp : Sp} {dvs : List V} {ds : List Value} {E : XK} {x : Str} {p pos : Pos} {e : Expr} {es : List Expr} {t : TA}
theorem run_G {pins : List (Addr × Obj)} {σ : L2.St} {H : Hp} {s : Shared} {Q : VK} {us : List Value} {vs : List V} (F : FnG X.prog X.w X.K X.mg X.base CX k f fd ps sp) (hG : X.A.guards = some []) (hr : Room k X.A) (hb : Binds X.K fd ps ds) (hd : Vals dvs ds) (hx : Passes CX X E)
    (I : Inv X pins σ H s) (r : Vals vs us) (h : sp (vs ++ dvs) H Q E) : wpAny (model X.prog X.w) X.A (PySem.call (.ref f) us) (EP X pins σ Q) X.xe s := by
  have ra := Vals.append r hd
  have hl := F.len _ _ _ _ h
  rw [ra.length] at hl
  apply wpAny_call
  apply codeAny_mono (F.go X.A hG hr X.stack s H ⟨us, []⟩ _ _ Q E I.env0 (hb s us I.kIn hl) ra h)
  intro r' s' hq
  match r', hq with
  | .error e, hq => exact hx pins σ H s e s' I hq
  | .ok (.ret u), hq => exact I.after hq
  | .ok .next, hq => exact False.elim hq
  | .ok .brk, hq => exact False.elim hq
  | .ok .cont, hq => exact False.elim hq
theorem pe_callG (F : FnG X.prog X.w X.K X.mg X.base CX k f fd ps sp) (hG : X.A.guards = some []) (hr : Room k X.A) (hg : Gl X x) (hm : X.mg x = some (.ref f)) (hk : PySem.W.keepIn X.K (.ref f) = true) (hb : Binds X.K fd ps ds) (hd : Vals dvs ds) (hx : Passes CX X E) (ha : PA X (e :: es) t)
    (hdb : (x == ("__debug__" : Str)) = false := by decide) (he : starEach (e :: es) X.env = (false, eval e X.env) :: starEach es X.env := by rfl) (hpl : (backTo pos (starEach es X.env)).any (·.1) = false := by rfl) : PE X (.Call (.Name x p) (e :: es) [] pos) (tCall sp dvs E t) := by
  constructor
  intro pins s σ H Q I h
  apply wpAny_Call_Name_kw
  refine ld_glob I hg hm ?_ hdb
  refine PySem.W.callWith_K (h₀ := X.base) I.ok.mod.kin hk ?_ he hpl
  exact thn (ha.run pos pins s σ H _ I h) fun us s1 ⟨vs, H1, I1, r, q⟩ => ⟨I1.kIn, run_G F hG hr hb hd hx I1 r q⟩
end
end FR
set_option maxRecDepth 100000
set_option maxHeartbeats 4000000
namespace FR
open PySem PySem.Spec PyProof.Rows L2

/-! ### defs of the top by their names -/
def Lk (K : PySem.W.Frag) (f : Addr) (fd : FuncData) : Prop := ∃ (oc : Value) (od : Option Addr) (osl : Array (Option Value)), K.lookup f = some ⟨oc, od, .func fd, osl⟩
theorem lk_of {K : PySem.W.Frag} {x q : Str} {st : Stmt} {f : Addr} {fd : FuncData} (F : Fun K x q st f fd) : Lk K f fd := by
  obtain ⟨oc, od, _, _, _, _, _, _, osl, _, lk, _⟩ := F.ex
  exact ⟨oc, od, osl, lk⟩
def Dn (K : PySem.W.Frag) (mg : Str → Option Value) (x : Str) (st : Stmt) (ps : List Str) : Prop := ∃ f fd, Fun K x x st f fd ∧ mg x = some (.ref f) ∧ Binds K fd ps []
def Kn (P : Program) (w : World) (K : PySem.W.Frag) (mg : Str → Option Value) (base : Heap) (k : Nat) (x : Str) (ps : List Str) (sp : Sp) : Prop :=
  ∃ f fd, FnOk P w K mg base CX0 k f fd ps sp ∧ mg x = some (.ref f) ∧ PySem.W.keepIn K (.ref f) = true ∧ Binds K fd ps [] ∧ Lk K f fd
def KnG (P : Program) (w : World) (K : PySem.W.Frag) (mg : Str → Option Value) (base : Heap) (k : Nat) (x : Str) (ps : List Str) (sp : Sp) : Prop :=
  ∃ f fd, FnG P w K mg base CX0 k f fd ps sp ∧ mg x = some (.ref f) ∧ PySem.W.keepIn K (.ref f) = true ∧ Binds K fd ps [] ∧ Lk K f fd
section
variable {P : Program} {w : World} {K : PySem.W.Frag} {mg : Str → Option Value} {base : Heap} {k j : Nat} {x : Str} {ps : List Str} {sp : Sp}
theorem Kn.mono (h : Kn P w K mg base j x ps sp) (hk : j ≤ k) : Kn P w K mg base k x ps sp := by
  obtain ⟨f, fd, F, g, kp, b, l⟩ := h
  exact ⟨f, fd, F.mono hk, g, kp, b, l⟩
theorem Kn.g (h : Kn P w K mg base k x ps sp) : KnG P w K mg base k x ps sp := by
  obtain ⟨f, fd, F, g, kp, b, l⟩ := h
  exact ⟨f, fd, .of F, g, kp, b, l⟩
/-- a def over data keeps its promise, by its body's derivation and reading -/
theorem kn_of {st : Stmt} {N : List Str} {n : Nat} {pre : List PyData → Prop} {post : List PyData → PyData → Prop} (D : Dn K mg x st ps) (S : FnScope N ps (defScope st)) (hn : ps.length = n) (hN : n ≤ N.length)
    (body : ∀ (f : Addr) (cdv : Value) (A : Around) (outer : List Env) (s : Shared) (H : Hp) (E : XK), Room k (A.deeper (envOfC x (defScope st) s.heap.objs.size f cdv)) →
      ∃ t, PSs (cxOf CX0 P w K mg base N x (defScope st) f cdv A outer s H E).nox (defBody st) t ∧ ∀ (Y : Vol) (ds : List PyData), ds.length = n → pre ds → StS Y K (ds.map .dat ++ List.replicate (N.length - n) .unk) t { nx := fun _ => post ds .none, rt := post ds }) :
    Kn P w K mg base (k + 1) x ps (spF K n pre post) := by
  obtain ⟨f, fd, F, g, b⟩ := D
  refine ⟨f, fd, F.ok S (fun vs H Q E h => by rw [hn]; exact h.1) (fun cdv A outer s H vs Q E hr h => ?_), g, F.kp, b, lk_of F⟩
  obtain ⟨t, ht, hs⟩ := body f cdv A outer s H E hr
  exact ⟨t, ht, fn_read hN hs vs H Q E h⟩
theorem kn_ofW {st : Stmt} {N : List Str} {n : Nat} {pre : List PyData → Prop} {post : List PyData → PyData → Prop} (D : Dn K mg x st ps) (S : FnScope N ps (defScope st)) (hn : ps.length = n + 1) (hN : n + 1 ≤ N.length)
    (body : ∀ (f : Addr) (cdv : Value) (A : Around) (outer : List Env) (s : Shared) (H : Hp) (E : XK), Room k (A.deeper (envOfC x (defScope st) s.heap.objs.size f cdv)) →
      ∃ t, PSs (cxOf CX0 P w K mg base N x (defScope st) f cdv A outer s H E).nox (defBody st) t ∧ ∀ (Y : Vol) (a : Addr) (ds : List PyData), Y.Well a → ds.length = n → pre ds → StS Y K (.raw (.ref a) :: (ds.map .dat ++ List.replicate (N.length - (n + 1)) .unk)) t { nx := fun _ => post ds .none, rt := post ds }) :
    Kn P w K mg base (k + 1) x ps (spW K n pre post) := by
  obtain ⟨f, fd, F, g, b⟩ := D
  refine ⟨f, fd, F.ok S (fun vs H Q E h => by rw [hn]; exact h.1) (fun cdv A outer s H vs Q E hr h => ?_), g, F.kp, b, lk_of F⟩
  obtain ⟨t, ht, hs⟩ := body f cdv A outer s H E hr
  exact ⟨t, ht, fn_readW hN hs vs H Q E h⟩
end
section
variable {X : Cx} {k : Nat} {ps : List Str} {sp : Sp} {x : Str} {p pos : Pos} {e : Expr} {es : List Expr} {t : TA}
theorem pe_callN (h : Kn X.prog X.w X.K X.mg X.base k x ps sp) (hr : Room k X.A) (ha : PA X (e :: es) t) (hg : Gl X x := by rfl) (hdb : (x == ("__debug__" : Str)) = false := by decide)
    (he : starEach (e :: es) X.env = (false, eval e X.env) :: starEach es X.env := by rfl) (hpl : (backTo pos (starEach es X.env)).any (·.1) = false := by rfl) : PE X (.Call (.Name x p) (e :: es) [] pos) (tCall sp [] E0 t) := by
  obtain ⟨f, fd, F, g, kp, b, l⟩ := h
  exact pe_call F hr hg g kp b .nil pass0 ha hdb he hpl
theorem pe_callN0 (h : Kn X.prog X.w X.K X.mg X.base k x ps sp) (hr : Room k X.A) (hg : Gl X x := by rfl) (hdb : (x == ("__debug__" : Str)) = false := by decide) : PE X (.Call (.Name x p) [] [] pos) (tCall sp [] E0 tNil) := by
  obtain ⟨f, fd, F, g, kp, b, l⟩ := h
  exact pe_call0 F hr hg g kp b .nil pass0 hdb
theorem pe_callNG (h : KnG X.prog X.w X.K X.mg X.base k x ps sp) (hG : X.A.guards = some []) (hr : Room k X.A) (ha : PA X (e :: es) t) (hg : Gl X x := by rfl) (hdb : (x == ("__debug__" : Str)) = false := by decide)
    (he : starEach (e :: es) X.env = (false, eval e X.env) :: starEach es X.env := by rfl) (hpl : (backTo pos (starEach es X.env)).any (·.1) = false := by rfl) : PE X (.Call (.Name x p) (e :: es) [] pos) (tCall sp [] E0 t) := by
  obtain ⟨f, fd, F, g, kp, b, l⟩ := h
  exact pe_callG F hG hr hg g kp b .nil pass0 ha hdb he hpl
/-- constants of the module -/
theorem pe_gi {i : Int} (hm : ∃ t, X.mg x = some (.int i t)) (hg : Gl X x := by rfl) (hd : (x == ("__debug__" : Str)) = false := by decide) : PE X (.Name x p) (tC (.int i)) := by
  obtain ⟨t, ht⟩ := hm
  exact pe_glob hg ht ⟨t, rfl⟩ hd
theorem pe_gs {i : Str} (hm : ∃ t, X.mg x = some (.str i t)) (hg : Gl X x := by rfl) (hd : (x == ("__debug__" : Str)) = false := by decide) : PE X (.Name x p) (tC (.str i)) := by
  obtain ⟨t, ht⟩ := hm
  exact pe_glob hg ht ⟨t, rfl⟩ hd
theorem pe_gr {a : Addr} (hm : X.mg x = some (.ref a)) (hg : Gl X x := by rfl) (hd : (x == ("__debug__" : Str)) = false := by decide) : PE X (.Name x p) (tC (.ref a)) := pe_glob hg hm rfl hd
end
/-- built-in names that the top leaves alone -/
structure Bi (mg : Str → Option Value) : Prop where
  len : mg "len" = none
  abs : mg "abs" = none
  int : mg "int" = none
  min : mg "min" = none
  max : mg "max" = none
  all : mg "all" = none
  any : mg "any" = none
  sum : mg "sum" = none
  tuple : mg "tuple" = none
  list : mg "list" = none
  repr : mg "repr" = none
  isi : mg "isinstance" = none
  range : mg "range" = none
  bool : mg "bool" = none
  str : mg "str" = none
theorem bt_min : bootBuiltins "min" = some (.builtin "min") := by decide +kernel
theorem bt_max : bootBuiltins "max" = some (.builtin "max") := by decide +kernel
theorem bt_all : bootBuiltins "all" = some (.builtin "all") := by decide +kernel
theorem bt_any : bootBuiltins "any" = some (.builtin "any") := by decide +kernel
theorem bt_sum : bootBuiltins "sum" = some (.builtin "sum") := by decide +kernel
theorem bt_tup : bootBuiltins "tuple" = some (.type "tuple") := by decide +kernel
theorem bt_lst : bootBuiltins "list" = some (.type "list") := by decide +kernel
theorem bt_itg : bootBuiltins "int" = some (.type "int") := by decide +kernel
theorem bt_boo : bootBuiltins "bool" = some (.type "bool") := by decide +kernel
theorem bt_txt : bootBuiltins "str" = some (.type "str") := by decide +kernel
theorem bt_isi : bootBuiltins "isinstance" = some (.builtin "isinstance") := by decide +kernel
theorem bt_rpr : bootBuiltins "repr" = some (.builtin "repr") := by decide +kernel
theorem bt_ab : bootBuiltins "abs" = some (.builtin "abs") := by decide +kernel

/-! ### what further operations do with data -/
abbrev rAbs : List V → Hp → VK → Prop := fun xs H Q => ∃ i, xs = [.int i] ∧ Q (.int (if i < 0 then -i else i)) H
abbrev rMin2 : List V → Hp → VK → Prop := fun xs H Q => ∃ i j, xs = [.int i, .int j] ∧ Q (.int (if j < i then j else i)) H
abbrev rMax2 : List V → Hp → VK → Prop := fun xs H Q => ∃ i j, xs = [.int i, .int j] ∧ Q (.int (if j > i then j else i)) H
abbrev rInt1 : List V → Hp → VK → Prop := fun xs H Q => (∃ i, xs = [.int i] ∧ Q (.int i) H) ∨ ∃ k, xs = [.bl k] ∧ Q (.int (if k then 1 else 0)) H
abbrev rTupOf (K : PySem.W.Frag) : List V → Hp → VK → Prop := fun xs H Q => ∃ p ys, xs = [.ref p] ∧ ((SqL K H p ys ∧ ∀ l, H l = none → Q (.ref l) (upd H l (.tup ys))) ∨ (SqT K H p ys ∧ Q (.ref p) H))
abbrev rLstOf (K : PySem.W.Frag) : List V → Hp → VK → Prop := fun xs H Q => ∃ p ys, xs = [.ref p] ∧ (SqL K H p ys ∨ SqT K H p ys) ∧ ∀ l, H l = none → Q (.ref l) (upd H l (.lst ys))
abbrev rJoin (K : PySem.W.Frag) : V → List V → Hp → VK → Prop := fun x xs H Q => ∃ a p, ∃ ys : List Str, x = .str a ∧ xs = [.ref p] ∧ (SqL K H p (ys.map V.str) ∨ SqT K H p (ys.map V.str)) ∧ (ys.map (·.length)).sum + ys.length * a.length ≤ 16777216 ∧ Q (.str (Txt.join a ys)) H
section
variable {Y : Vol} {K : PySem.W.Frag} {es : List Ent} {ta tb te : TE} {P : PyData → Prop} {b d : PyData}
theorem cb_of {r : List V → Hp → VK → Prop} {ds : List PyData} {d : PyData} (h : ∀ Hi H vs, Pre Y Hi H → Paired (DaT Y K Hi H) vs ds → ∀ Q : VK, (∀ u Hi' H', Fr Y Hi H Hi' H' → Da K Hi' u d → Q u H') → r vs H Q) : CbS Y K r ds (· = d) :=
  fun Hi H vs p hp Q q => h Hi H vs p hp Q fun u Hi' H' f hd => q u d Hi' H' f hd rfl
theorem cb_abs {i : Int} : CbS Y K rAbs [.int i] (· = .int (if i < 0 then -i else i)) := cb_of fun Hi H vs p h Q q => by
  obtain ⟨v, rfl, hv⟩ := pair1 h
  exact ⟨i, by rw [hv.int], q _ Hi H (Fr.refl p) (.int _)⟩
theorem cb_int {i : Int} : CbS Y K rInt1 [.int i] (· = .int i) := cb_of fun Hi H vs p h Q q => by
  obtain ⟨v, rfl, hv⟩ := pair1 h
  exact .inl ⟨i, by rw [hv.int], q _ Hi H (Fr.refl p) (.int _)⟩
theorem cb_min2 {i j : Int} : CbS Y K rMin2 [.int i, .int j] (· = .int (if j < i then j else i)) := cb_of fun Hi H vs p h Q q => by
  obtain ⟨v, w, rfl, hv, hw⟩ := pair2 h
  exact ⟨i, j, by rw [hv.int, hw.int], q _ Hi H (Fr.refl p) (.int _)⟩
theorem cb_max2 {i j : Int} : CbS Y K rMax2 [.int i, .int j] (· = .int (if j > i then j else i)) := cb_of fun Hi H vs p h Q q => by
  obtain ⟨v, w, rfl, hv, hw⟩ := pair2 h
  exact ⟨i, j, by rw [hv.int, hw.int], q _ Hi H (Fr.refl p) (.int _)⟩
theorem cb_tupL {ds : List PyData} : CbS Y K (rTupOf K) [.list ds] (· = .tuple ds) := cb_of fun Hi H vs p h Q q => by
  obtain ⟨v, rfl, hv⟩ := pair1 h
  obtain ⟨a, ws, rfl, h1, h2⟩ := hv.list p.sub
  exact ⟨a, ws, rfl, .inl ⟨.inl (.inl h1), fun l hl => q _ _ _ (Fr.alloc p hl not_tb_tup) (.tup (.inl (.inl upd_same)) (DaAll.mono (same_upd (p.sub.free hl)) _ _ h2))⟩⟩
theorem cb_tupT {ds : List PyData} : CbS Y K (rTupOf K) [.tuple ds] (· = .tuple ds) := cb_of fun Hi H vs p h Q q => by
  obtain ⟨v, rfl, hv⟩ := pair1 h
  obtain ⟨a, ws, rfl, h1, h1', h2⟩ := hv.tup p.sub
  exact ⟨a, ws, rfl, .inr ⟨h1, q _ _ _ (Fr.refl p) (.tup h1' h2)⟩⟩
theorem cb_lstL {ds : List PyData} : CbS Y K (rLstOf K) [.list ds] (· = .list ds) := cb_of fun Hi H vs p h Q q => by
  obtain ⟨v, rfl, hv⟩ := pair1 h
  obtain ⟨a, ws, rfl, h1, h2⟩ := hv.list p.sub
  exact ⟨a, ws, rfl, .inl (.inl (.inl h1)), fun l hl => q _ _ _ (Fr.alloc p hl not_tb_lst) (.lst upd_same (DaAll.mono (same_upd (p.sub.free hl)) _ _ h2))⟩
theorem cb_lstT {ds : List PyData} : CbS Y K (rLstOf K) [.tuple ds] (· = .list ds) := cb_of fun Hi H vs p h Q q => by
  obtain ⟨v, rfl, hv⟩ := pair1 h
  obtain ⟨a, ws, rfl, h1, h1', h2⟩ := hv.tup p.sub
  exact ⟨a, ws, rfl, .inr h1, fun l hl => q _ _ _ (Fr.alloc p hl not_tb_lst) (.lst upd_same (DaAll.mono (same_upd (p.sub.free hl)) _ _ h2))⟩
theorem cb_sum {ns : List Int} : CbS Y K (rSum K) [.list (ns.map .int)] (· = .int ns.sum) := cb_of fun Hi H vs p h Q q => by
  obtain ⟨v, rfl, hv⟩ := pair1 h
  obtain ⟨a, ws, rfl, h1, h2⟩ := hv.list p.sub
  have e := h2.ints
  subst e
  exact ⟨a, ns, rfl, .inl (.inl h1), q _ Hi H (Fr.refl p) (.int _)⟩
theorem cb_all {bs : List Bool} : CbS Y K (rAll K) [.list (bs.map .bool)] (· = .bool (bs.all id)) := cb_of fun Hi H vs p h Q q => by
  obtain ⟨v, rfl, hv⟩ := pair1 h
  obtain ⟨a, ws, rfl, h1, h2⟩ := hv.list p.sub
  have e := h2.bools
  subst e
  exact ⟨a, bs, rfl, .inl (.inl h1), q _ Hi H (Fr.refl p) (.bl _)⟩
theorem cb_any {bs : List Bool} : CbS Y K (rAny K) [.list (bs.map .bool)] (· = .bool (bs.any id)) := cb_of fun Hi H vs p h Q q => by
  obtain ⟨v, rfl, hv⟩ := pair1 h
  obtain ⟨a, ws, rfl, h1, h2⟩ := hv.list p.sub
  have e := h2.bools
  subst e
  exact ⟨a, bs, rfl, .inl (.inl h1), q _ Hi H (Fr.refl p) (.bl _)⟩
theorem mt_joinS {a : List Nat} {ys : List (List Nat)} (hl : (ys.map (·.length)).sum + ys.length * a.length ≤ 1000000) : MtS Y K "str" (rJoin K) (.str (SX.S a)) [.list (ys.map fun y => .str (SX.S y))] (· = .str (SX.S (TL.joinL a ys))) := fun Hi H v vs p hv h Q q => by
  obtain ⟨w, rfl, hw⟩ := pair1 h
  obtain ⟨b, ws, rfl, h1, h2⟩ := hw.list p.sub
  have e0 : (ys.map fun y => PyData.str (SX.S y)) = (ys.map SX.S).map PyData.str := by rw [List.map_map]; rfl
  rw [e0] at h2
  have e := h2.strs
  subst e
  refine ⟨SX.S a, b, ys.map SX.S, hv.str, rfl, .inl (.inl (.inl h1)), ?_, ?_⟩
  · rw [SX.lens, List.length_map, SX.S_len]
    exact Nat.le_trans hl (by decide)
  · rw [SX.join_S]
    exact q _ _ Hi H (Fr.refl p) (.str _) rfl
/-! isinstance -/
def tyN : PyData → String
  | .none => "NoneType"
  | .bool _ => "bool"
  | .int _ => "int"
  | .str _ => "str"
  | .list _ => "list"
  | .tuple _ => "tuple"
  | .dict _ => "dict"
theorem tyX_of {Hi H : Hp} {v : V} {d : PyData} (hd : ∀ z, d ≠ .dict z) (h : DaT Y K Hi H v d) (p : Same Hi H) : TyX K H v (.type (tyN d)) := by
  have h := h.full p
  cases h with
  | non => exact .base .non
  | bl b => exact .base (.bl b)
  | int i => exact .base (.int i)
  | str x => exact .base (.str x)
  | lst h1 h2 => exact .base (.lst h1)
  | tup h1 h2 =>
    rcases h1 with (h1 | ⟨o, h1⟩) | ⟨o, its, n, h3, h4, _⟩
    · exact .base (.tup h1)
    · exact .fTuple h1
    · exact .kTuple h3 h4
  | dct _ _ => exact absurd rfl (hd _)
  | exc _ _ _ _ => exact absurd rfl (hd _)
  | exn _ _ => exact absurd rfl (hd _)
  | ins _ _ _ _ => exact absurd rfl (hd _)
theorem ev_isi {T : String} {r : Bool} (ha : EvT Y K es ta (· = d)) (hd : ∀ z, d ≠ .dict z) (h : kitB (tyN d) T = some r) : EvD Y K es (tCB (rIsi K) (tCons ta (tCons (tC (.ty T)) tNil))) (· = .bool r) := fun H0i H0 Hi H σ s Q q =>
  ha H0i H0 Hi H σ s _ fun v a Hi1 H1 f1 va pa => by
    subst pa
    exact ⟨v, .ty T, .type (tyN a), .type T, r, rfl, .ty T, tyX_of hd va f1.sub, kit_ty h, q _ _ Hi1 H1 f1 (.bl r) rfl⟩
/-! ints -/
theorem os_sub {i j : Int} : OpS Y K rSubI (.int i) (.int j) (· = .int (i - j)) := os_ii (.int _)
theorem os_mod {i j : Int} (h : 0 < j) : OpS Y K (rI (fun _ j => 0 < j) fun i j => .int (i % j)) (.int i) (.int j) (· = .int (i % j)) := os_iiC h (.int _)
theorem os_fdiv {i j : Int} (h : 0 < j) (h2 : j < 1073741824) : OpS Y K (rI CDiv fun i j => .int (i / j)) (.int i) (.int j) (· = .int (i / j)) := os_iiC ⟨h, h2⟩ (.int _)
theorem os_lt {i j : Int} : OpS Y K (rI0 fun i j => .bl (decide (i < j))) (.int i) (.int j) (· = .bool (decide (i < j))) := os_ii (.bl _)
theorem os_le {i j : Int} : OpS Y K (rI0 fun i j => .bl (decide (i ≤ j))) (.int i) (.int j) (· = .bool (decide (i ≤ j))) := os_ii (.bl _)
theorem os_gt {i j : Int} : OpS Y K (rI0 fun i j => .bl (decide (j < i))) (.int i) (.int j) (· = .bool (decide (j < i))) := os_ii (.bl _)
theorem os_ge {i j : Int} : OpS Y K (rI0 fun i j => .bl (decide (j ≤ i))) (.int i) (.int j) (· = .bool (decide (j ≤ i))) := os_ii (.bl _)
theorem us_neg {i : Int} : UnS Y K (rU fun i => .int (-i)) (.int i) (· = .int (-i)) := fun Hi H v p hv Q q => ⟨i, hv.int, q _ _ Hi H (Fr.refl p) (.int _) rfl⟩
theorem ev_neg {i : Int} (h : EvT Y K es ta (· = .int i)) : EvD Y K es (tUn (rU fun i => .int (-i)) ta) (· = .int (-i)) := ev_un h fun _ e => e ▸ us_neg
theorem os_pow {i : Int} {j : Nat} (h : i.natAbs < 2 ^ 64) (h2 : j ≤ 1000000) : OpS Y K (rI CPow fun i j => .int (i ^ j.toNat)) (.int i) (.int (j : Int)) (· = .int (i ^ j)) := os_iiC ⟨Int.natCast_nonneg j, by omega, h⟩ (by rw [Int.toNat_natCast]; exact .int _)
/-! in -/
theorem os_inL {x : Str} {ws : List Str} : OpS Y K (rInU K) (.str x) (.list (ws.map .str)) (· = .bool (decide (x ∈ ws))) := fun Hi H v w p ha hb Q q => by
  obtain ⟨b, vs, rfl, h1, h2⟩ := hb.list p.sub
  have e := h2.strs
  subst e
  rw [ha.str]
  refine .inl (.inl ⟨b, _, rfl, .inl (.inl (.inl h1)), rfl, by rw [List.all_map]; exact List.all_eq_true.mpr fun _ _ => rfl, ?_⟩)
  have e : inV (.str x) (ws.map V.str) = decide (x ∈ ws) := by
    unfold inV
    rw [List.any_map]
    by_cases hx : x ∈ ws
    · rw [decide_eq_true hx]
      exact List.any_eq_true.mpr ⟨x, hx, by simp [eqV]⟩
    · rw [decide_eq_false hx]
      apply List.any_eq_false.mpr
      intro y hy
      show ¬ ((y == x) = true)
      exact fun z => hx (by rw [← eq_of_beq z]; exact hy)
  show Q (.bl (if false = true then !inV _ _ else inV _ _)) H
  rw [if_neg Bool.false_ne_true, e]
  exact q _ _ Hi H (Fr.refl p) (.bl _) rfl
end
end FR
set_option maxRecDepth 100000
set_option maxHeartbeats 4000000
namespace FR
open PySem PySem.Spec PyProof.Rows L2
/-- the script: at a a list of ints, whatever turns -/
def Vol.Scr (Y : Vol) (K : PySem.W.Frag) (a : Addr) (ns : List Int) : Prop := ∀ H, Y.I H → SqL K H a (ns.map V.int)
def spS (K : PySem.W.Frag) (n : Nat) (pre : List PyData → Prop) (post : List PyData → PyData → Prop) : Sp := fun vs H Q _ =>
  vs.length = n + 1 ∧ ∃ (Y : Vol) (a : Addr) (ns : List Int) (rest : List V) (Hi : Hp) (ds : List PyData), vs = .ref a :: rest ∧ Y.Scr K a ns ∧ ns.length ≤ 63 ∧ Pre Y Hi H ∧ DaAll K Hi rest ds ∧ pre ds ∧ ∀ v d Hi' H', Fr Y Hi H Hi' H' → Da K Hi' v d → post ds d → Q v H'
section
variable {P : Program} {w : World} {K : PySem.W.Frag} {mg : Str → Option Value} {base : Heap} {k : Nat} {x : Str} {ps : List Str} {n : Nat} {pre : List PyData → Prop} {post : List PyData → PyData → Prop} {N : List Str} {t : TS}
theorem fn_readS (hN : n + 1 ≤ N.length) (h : ∀ (Y : Vol) (a : Addr) (ns : List Int) (ds : List PyData), Y.Scr K a ns → ns.length ≤ 63 → ds.length = n → pre ds → StS Y K (.raw (.ref a) :: (ds.map .dat ++ List.replicate (N.length - (n + 1)) .unk)) t { nx := fun _ => post ds .none, rt := post ds }) :
    ∀ vs H Q E, spS K n pre post vs H Q E → t { nx := fun _ H' => Q .non H', rt := Q } (L2.start N vs) H := by
  intro vs H Q E ⟨hl, Y, a, ns, rest, Hi, ds, hv, hS, hns, p, hd, hp, q⟩
  subst hv
  have hld : ds.length = n := by rw [← hd.len]; simpa using hl
  refine h Y a ns ds hS hns hld hp Hi H Hi H _ (st0 p (by omega) (by simp only [List.length_cons, List.length_append, List.length_map, List.length_replicate]; omega) fun i e hi => ?_) _ (fun Hi' H' σ' es' _ s' o => q _ _ Hi' H' s'.fr .non o) (fun _ _ _ _ _ _ o => o.elim) (fun _ _ _ _ _ _ o => o.elim) (fun v d Hi' H' f hv o => q v d Hi' H' f hv o)
  cases i with
  | zero =>
    cases hi
    exact .inr ⟨_, rfl, .inr rfl⟩
  | succ i =>
    rw [List.getElem?_cons_succ] at hi
    by_cases hlt : i < ds.length
    · rw [List.getElem?_append_left (by rw [List.length_map]; exact hlt), List.getElem?_map, List.getElem?_eq_getElem hlt] at hi
      cases hi
      obtain ⟨v, h1, h2⟩ := hd.get (List.getElem?_eq_getElem hlt)
      exact .inr ⟨v, by rw [List.getElem?_cons_succ]; exact h1, .inl ⟨_, rfl, h2⟩⟩
    · rw [List.getElem?_append_right (by rw [List.length_map]; omega)] at hi
      obtain ⟨_, e⟩ := List.getElem?_eq_some_iff.mp hi
      rw [List.getElem_replicate] at e
      exact .inl e.symm
theorem kn_ofS {st : Stmt} (D : Dn K mg x st ps) (S : FnScope N ps (defScope st)) (hn : ps.length = n + 1) (hN : n + 1 ≤ N.length)
    (body : ∀ (f : Addr) (cdv : Value) (A : Around) (outer : List Env) (s : Shared) (H : Hp) (E : XK), Room k (A.deeper (envOfC x (defScope st) s.heap.objs.size f cdv)) →
      ∃ t, PSs (cxOf CX0 P w K mg base N x (defScope st) f cdv A outer s H E).nox (defBody st) t ∧ ∀ (Y : Vol) (a : Addr) (ns : List Int) (ds : List PyData), Y.Scr K a ns → ns.length ≤ 63 → ds.length = n → pre ds → StS Y K (.raw (.ref a) :: (ds.map .dat ++ List.replicate (N.length - (n + 1)) .unk)) t { nx := fun _ => post ds .none, rt := post ds }) :
    Kn P w K mg base (k + 1) x ps (spS K n pre post) := by
  obtain ⟨f, fd, F, g, b⟩ := D
  refine ⟨f, fd, F.ok S (fun vs H Q E h => by rw [hn]; exact h.1) (fun cdv A outer s H vs Q E hr h => ?_), g, F.kp, b, lk_of F⟩
  obtain ⟨t, ht, hs⟩ := body f cdv A outer s H E hr
  exact ⟨t, ht, fn_readS hN hs vs H Q E h⟩
end
section
variable {Y : Vol} {K : PySem.W.Frag} {es : List Ent} {ta tb te : TE} {P : PyData → Prop} {i : Nat} {a : Addr} {ns : List Int} {n : Nat} {pre : List PyData → Prop} {post : List PyData → PyData → Prop} {tr : TA} {E : XK}
theorem ev_lenS (hi : es[i]? = some (.raw (.ref a))) (hS : Y.Scr K a ns) : EvD Y K es (tCB (rLenU K) (tCons (tVar i) tNil)) (· = .int ns.length) := fun H0i H0 Hi H σ s Q q => by
  obtain ⟨x, e1, hx⟩ := s.env i _ hi
  cases hx
  exact ⟨.ref a, e1, .inl ⟨a, ns.map V.int, rfl, .inl (hS H s.fr.inv), q _ _ Hi H (Fr.refl s.pre) (.int _) (by rw [List.length_map])⟩⟩
theorem ev_ixS {k : Nat} {z : Int} (hi : es[i]? = some (.raw (.ref a))) (hS : Y.Scr K a ns) (hk : EvD Y K es tb (· = .int (k : Int))) (hz : ns[k]? = some z) : EvD Y K es (tOp (rIx K) (tVar i) tb) (· = .int z) := fun H0i H0 Hi H σ s Q q => by
  obtain ⟨x, e1, hx⟩ := s.env i _ hi
  cases hx
  refine ⟨.ref a, e1, hk H0i H0 Hi H σ s _ fun v d Hi1 H1 f1 hd e => ?_⟩
  subst e
  cases hd
  exact .inl ⟨a, ns.map V.int, (k : Int), .int z, rfl, rfl, hS H1 f1.inv, atI_nat (by rw [List.getElem?_map, hz]; rfl), q _ _ Hi1 H1 f1 (.int z) rfl⟩
theorem cut_ints (ns : List Int) (lo hi : Option Int) : ∃ ms : List Int, cutV (ns.map V.int) lo hi = ms.map V.int ∧ ms.length ≤ ns.length := by
  unfold cutV
  refine ⟨(ns.drop (HT.sIx (ns.map V.int).length 0 lo)).take (HT.sIx (ns.map V.int).length (ns.map V.int).length hi - HT.sIx (ns.map V.int).length 0 lo), by rw [List.map_take, List.map_drop], ?_⟩
  rw [List.length_take, List.length_drop]
  omega
theorem ev_slS {tl th : TO} {lo hi : Option Int} (hi' : es[i]? = some (.raw (.ref a))) (hS : Y.Scr K a ns) (hl : PaD Y K es tl (· = lo)) (hh : PaD Y K es th (· = hi)) : EvD Y K es (tSl (rSlU K) (tVar i) tl th) (fun d => ∃ ms : List Int, d = .list (ms.map .int) ∧ ms.length ≤ ns.length) := fun H0i H0 Hi H σ s Q q => by
  obtain ⟨x, e1, hx⟩ := s.env i _ hi'
  cases hx
  refine ⟨.ref a, e1, hl H0i H0 Hi H σ s _ fun o Hi1 H1 f1 e => hh H0i H0 Hi1 H1 σ (s.step f1) _ fun o2 Hi2 H2 f2 e2 => ?_⟩
  subst e e2
  obtain ⟨ms, h1, h2⟩ := cut_ints ns o o2
  have f := f1.trans f2
  exact .inl (.inl ⟨a, ns.map V.int, rfl, hS H2 f.inv, fun p hp => q _ _ _ _ (f.trans (Fr.alloc f.pre hp not_tb_lst)) (.lst (by rw [upd_same, h1]) (daAll_ints ms)) ⟨ms, rfl, h2⟩⟩)
theorem ev_callS {ds : List PyData} (hi : es[i]? = some (.raw (.ref a))) (hS : Y.Scr K a ns) (hns : ns.length ≤ 63) (h : ArD Y K es tr (· = ds)) (hl : ds.length = n) (hp : pre ds) : EvD Y K es (tCall (spS K n pre post) [] E (tCons (tVar i) tr)) (post ds) := fun H0i H0 Hi H σ s Q q => by
  obtain ⟨x, e1, hx⟩ := s.env i _ hi
  cases hx
  refine ⟨.ref a, e1, h H0i H0 Hi H σ s _ fun vs ds' Hi1 H1 f1 hd e => ?_⟩
  subst e
  show spS K n pre post ((.ref a :: vs) ++ []) H1 Q E
  rw [List.append_nil]
  exact ⟨by rw [List.length_cons, hd.len, hl], Y, a, ns, vs, Hi1, ds', rfl, hS, hns, f1.pre, hd, hp, fun v d Hi' H' f hv po => q v d Hi' H' (f1.trans f) hv po⟩
end
section
variable {Y : Vol} {K : PySem.W.Frag} {es : List Ent}
theorem et_var {i : Nat} {d : PyData} (h : es[i]? = some (.dat d) := by rfl) : EvT Y K es (tVar i) (· = d) := (ev_var h).tt
theorem et_int {i : Int} : EvT Y K es (tC (.int i)) (· = .int i) := ev_int.tt
theorem et_str {i : Str} : EvT Y K es (tC (.str i)) (· = .str i) := ev_str.tt
end
/-- one item of a tuple, of a list: its place known -/
theorem len1 {α : Type} {l : List α} (h : l.length = 1) : ∃ a, l = [a] := by
  match l, h with
  | [a], _ => exact ⟨a, rfl⟩
theorem len2 {α : Type} {l : List α} (h : l.length = 2) : ∃ a b, l = [a, b] := by
  match l, h with
  | [a, b], _ => exact ⟨a, b, rfl⟩
theorem len0 {α : Type} {l : List α} (h : l.length = 0) : l = [] := List.eq_nil_of_length_eq_zero h
end FR
namespace FR
theorem paired_right {α β : Type} {G : β → Prop} : ∀ {xs : List α} {ys : List β} {j : Nat} {y : β}, PySem.Paired (fun _ b => G b) xs ys → ys[j]? = some y → G y
  | _, _, _, _, .nil, h => by simp at h
  | _, _, 0, _, .cons r _, h => by
    have := Option.some.inj h
    exact this ▸ r
  | _, _, j + 1, y, .cons _ t, h => paired_right (j := j) t h
end FR
set_option maxRecDepth 100000
set_option maxHeartbeats 4000000
namespace FR
open PySem PySem.Spec PyProof.Rows L2
/-! defs of one, of two values -/
def sp1 (K : PySem.W.Frag) (P : PyData → Prop) (Q : PyData → PyData → Prop) : Sp := spF K 1 (fun ds => ∃ x, ds = [x] ∧ P x) (fun ds d => ∀ x, ds = [x] → Q x d)
def sp2 (K : PySem.W.Frag) (P : PyData → PyData → Prop) (Q : PyData → PyData → PyData → Prop) : Sp := spF K 2 (fun ds => ∃ x y, ds = [x, y] ∧ P x y) (fun ds d => ∀ x y, ds = [x, y] → Q x y d)
def spW0 (K : PySem.W.Frag) (Q : PyData → Prop) : Sp := spW K 0 (fun _ => True) (fun _ d => Q d)
def spW1 (K : PySem.W.Frag) (P : PyData → Prop) (Q : PyData → PyData → Prop) : Sp := spW K 1 (fun ds => ∃ x, ds = [x] ∧ P x) (fun ds d => ∀ x, ds = [x] → Q x d)
section
variable {Pg : Program} {w : World} {K : PySem.W.Frag} {mg : Str → Option Value} {base : Heap} {k : Nat} {x : Str} {N : List Str} {st : Stmt} {p1 p2 : Str}
theorem kn_of1 {P : PyData → Prop} {Q : PyData → PyData → Prop} (D : Dn K mg x st [p1]) (S : FnScope N [p1] (defScope st)) (hN : 1 ≤ N.length)
    (body : ∀ (f : Addr) (cdv : Value) (A : Around) (outer : List Env) (s : Shared) (H : Hp) (E : XK), Room k (A.deeper (envOfC x (defScope st) s.heap.objs.size f cdv)) → (A.deeper (envOfC x (defScope st) s.heap.objs.size f cdv)).units + 64 < cLine →
      ∃ t, PSs (cxOf CX0 Pg w K mg base N x (defScope st) f cdv A outer s H E).nox (defBody st) t ∧ ∀ (Y : Vol) (d : PyData), P d → StS Y K (.dat d :: List.replicate (N.length - 1) .unk) t { nx := fun _ => Q d .none, rt := Q d }) :
    Kn Pg w K mg base (k + 1) x [p1] (sp1 K P Q) := by
  refine kn_of D S rfl hN fun f cdv A outer s H E hr => ?_
  obtain ⟨t, ht, hs⟩ := body f cdv A outer s H E hr (by have := hr.un; omega)
  refine ⟨t, ht, fun Y ds hl ⟨d, e, hp⟩ => ?_⟩
  subst e
  exact (hs Y d hp).mono (fun _ q y e => by cases e; exact q) (fun _ q y e => by cases e; exact q) (fun _ z => z) (fun _ z => z)
theorem kn_of2 {P : PyData → PyData → Prop} {Q : PyData → PyData → PyData → Prop} (D : Dn K mg x st [p1, p2]) (S : FnScope N [p1, p2] (defScope st)) (hN : 2 ≤ N.length)
    (body : ∀ (f : Addr) (cdv : Value) (A : Around) (outer : List Env) (s : Shared) (H : Hp) (E : XK), Room k (A.deeper (envOfC x (defScope st) s.heap.objs.size f cdv)) → (A.deeper (envOfC x (defScope st) s.heap.objs.size f cdv)).units + 64 < cLine →
      ∃ t, PSs (cxOf CX0 Pg w K mg base N x (defScope st) f cdv A outer s H E).nox (defBody st) t ∧ ∀ (Y : Vol) (d e : PyData), P d e → StS Y K (.dat d :: .dat e :: List.replicate (N.length - 2) .unk) t { nx := fun _ => Q d e .none, rt := Q d e }) :
    Kn Pg w K mg base (k + 1) x [p1, p2] (sp2 K P Q) := by
  refine kn_of D S rfl hN fun f cdv A outer s H E hr => ?_
  obtain ⟨t, ht, hs⟩ := body f cdv A outer s H E hr (by have := hr.un; omega)
  refine ⟨t, ht, fun Y ds hl ⟨d, e, e1, hp⟩ => ?_⟩
  subst e1
  exact (hs Y d e hp).mono (fun _ q y z e => by cases e; exact q) (fun _ q y z e => by cases e; exact q) (fun _ z => z) (fun _ z => z)
theorem kn_ofW0 {Q : PyData → Prop} (D : Dn K mg x st [p1]) (S : FnScope N [p1] (defScope st)) (hN : 1 ≤ N.length)
    (body : ∀ (f : Addr) (cdv : Value) (A : Around) (outer : List Env) (s : Shared) (H : Hp) (E : XK), Room k (A.deeper (envOfC x (defScope st) s.heap.objs.size f cdv)) → (A.deeper (envOfC x (defScope st) s.heap.objs.size f cdv)).units + 64 < cLine →
      ∃ t, PSs (cxOf CX0 Pg w K mg base N x (defScope st) f cdv A outer s H E).nox (defBody st) t ∧ ∀ (Y : Vol) (a : Addr), Y.Well a → StS Y K (.raw (.ref a) :: List.replicate (N.length - 1) .unk) t { nx := fun _ => Q .none, rt := Q }) :
    Kn Pg w K mg base (k + 1) x [p1] (spW0 K Q) := by
  refine kn_ofW (n := 0) D S rfl hN fun f cdv A outer s H E hr => ?_
  obtain ⟨t, ht, hs⟩ := body f cdv A outer s H E hr (by have := hr.un; omega)
  refine ⟨t, ht, fun Y a ds hW hl _ => ?_⟩
  have e := len0 hl
  subst e
  exact hs Y a hW
theorem kn_ofW1 {P : PyData → Prop} {Q : PyData → PyData → Prop} (D : Dn K mg x st [p1, p2]) (S : FnScope N [p1, p2] (defScope st)) (hN : 2 ≤ N.length)
    (body : ∀ (f : Addr) (cdv : Value) (A : Around) (outer : List Env) (s : Shared) (H : Hp) (E : XK), Room k (A.deeper (envOfC x (defScope st) s.heap.objs.size f cdv)) → (A.deeper (envOfC x (defScope st) s.heap.objs.size f cdv)).units + 64 < cLine →
      ∃ t, PSs (cxOf CX0 Pg w K mg base N x (defScope st) f cdv A outer s H E).nox (defBody st) t ∧ ∀ (Y : Vol) (a : Addr) (d : PyData), Y.Well a → P d → StS Y K (.raw (.ref a) :: .dat d :: List.replicate (N.length - 2) .unk) t { nx := fun _ => Q d .none, rt := Q d }) :
    Kn Pg w K mg base (k + 1) x [p1, p2] (spW1 K P Q) := by
  refine kn_ofW (n := 1) D S rfl hN fun f cdv A outer s H E hr => ?_
  obtain ⟨t, ht, hs⟩ := body f cdv A outer s H E hr (by have := hr.un; omega)
  refine ⟨t, ht, fun Y a ds hW hl ⟨d, e, hp⟩ => ?_⟩
  subst e
  exact (hs Y a d hW hp).mono (fun _ q y e => by cases e; exact q) (fun _ q y e => by cases e; exact q) (fun _ z => z) (fun _ z => z)
end
section
variable {Y : Vol} {K : PySem.W.Frag} {es : List Ent} {ta tb te : TE} {E : XK} {i : Nat} {a : Addr}
theorem ev_c1 {P : PyData → Prop} {Q : PyData → PyData → Prop} {x : PyData} (ha : EvD Y K es ta (· = x)) (hp : P x) : EvD Y K es (tCall (sp1 K P Q) [] E (tCons ta tNil)) (Q x) :=
  (ev_call (ar_consd ha ar_nil) rfl ⟨x, rfl, hp⟩).mono fun d h => h x rfl
theorem ev_c1x {P : PyData → Prop} {Q : PyData → PyData → Prop} {Pa : PyData → Prop} (ha : EvD Y K es ta Pa) (hp : ∀ x, Pa x → P x) : EvD Y K es (tCall (sp1 K P Q) [] E (tCons ta tNil)) (fun d => ∃ x, Pa x ∧ Q x d) :=
  (ev_callF (Pds := fun ds => ∃ x, ds = [x] ∧ Pa x) ((ar_cons ha fun _ _ => ar_nil).mono fun ds ⟨d, r, e1, e2, e3⟩ => ⟨d, by rw [e1, e3], e2⟩) fun ds ⟨x, e, px⟩ => e ▸ ⟨rfl, x, rfl, hp x px⟩).mono fun d ⟨ds, ⟨x, e, px⟩, h⟩ => ⟨x, px, h x e⟩
theorem ev_c2 {P : PyData → PyData → Prop} {Q : PyData → PyData → PyData → Prop} {x y : PyData} (ha : EvD Y K es ta (· = x)) (hb : EvD Y K es tb (· = y)) (hp : P x y) : EvD Y K es (tCall (sp2 K P Q) [] E (tCons ta (tCons tb tNil))) (Q x y) :=
  (ev_call (ar_consd ha (ar_consd hb ar_nil)) rfl ⟨x, y, rfl, hp⟩).mono fun d h => h x y rfl
theorem ev_w0 {Q : PyData → Prop} (hi : es[i]? = some (.raw (.ref a))) (hW : Y.Well a) : EvD Y K es (tCall (spW0 K Q) [] E (tCons (tVar i) tNil)) Q :=
  (ev_callWd hi hW ar_nil rfl trivial)
theorem ev_w1 {P : PyData → Prop} {Q : PyData → PyData → Prop} {x : PyData} (hi : es[i]? = some (.raw (.ref a))) (hW : Y.Well a) (hb : EvD Y K es tb (· = x)) (hp : P x) : EvD Y K es (tCall (spW1 K P Q) [] E (tCons (tVar i) (tCons tb tNil))) (Q x) :=
  (ev_callWd hi hW (ar_consd hb ar_nil) rfl ⟨x, rfl, hp⟩).mono fun d h => h x rfl
theorem ev_w1x {P : PyData → Prop} {Q : PyData → PyData → Prop} {Pa : PyData → Prop} (hi : es[i]? = some (.raw (.ref a))) (hW : Y.Well a) (hb : EvD Y K es tb Pa) (hp : ∀ x, Pa x → P x) : EvD Y K es (tCall (spW1 K P Q) [] E (tCons (tVar i) (tCons tb tNil))) (fun d => ∃ x, Pa x ∧ Q x d) :=
  (ev_callW (Pds := fun ds => ∃ x, ds = [x] ∧ Pa x) hi hW ((ar_cons hb fun _ _ => ar_nil).mono fun ds ⟨d, r, e1, e2, e3⟩ => ⟨d, by rw [e1, e3], e2⟩) fun ds ⟨x, e, px⟩ => e ▸ ⟨rfl, x, rfl, hp x px⟩).mono fun d ⟨ds, ⟨x, e, px⟩, h⟩ => ⟨x, px, h x e⟩
/-! operations whose operands are known in part -/
theorem OpS.mono {r : R2} {x y : PyData} {P P' : PyData → Prop} (h : OpS Y K r x y P) (i : ∀ d, P d → P' d) : OpS Y K r x y P' := fun Hi H v w p ha hb Q q => h Hi H v w p ha hb Q fun u d Hi' H' f hd e => q u d Hi' H' f hd (i d e)
theorem CbS.mono {r : List V → Hp → VK → Prop} {xs : List PyData} {P P' : PyData → Prop} (h : CbS Y K r xs P) (i : ∀ d, P d → P' d) : CbS Y K r xs P' := fun Hi H vs p ha Q q => h Hi H vs p ha Q fun u d Hi' H' f hd e => q u d Hi' H' f hd (i d e)
end
/-! texts by their codes -/
abbrev dS (l : List Nat) : PyData := .str (SX.S l)
abbrev dL (ns : List Int) : PyData := .tuple (ns.map .int)
theorem cat_S (a b : List Nat) : (SX.S a ++ SX.S b : Str) = SX.S (a ++ b) := SX.S_cat a b
theorem rep_S (z : List Nat) (n : Int) : repS (SX.S z) n = SX.S (List.replicate n.toNat z).flatten := by unfold repS; rfl
theorem rep1_S (c : Nat) (n : Int) : repS (SX.S [c]) n = SX.S (List.replicate n.toNat c) := by
  rw [rep_S]
  congr 2
  generalize n.toNat = m
  induction m with
  | zero => rfl
  | succ m ih => rw [List.replicate_succ, List.flatten_cons, ih, List.replicate_succ]; rfl
section
variable {Y : Vol} {K : PySem.W.Frag}
theorem os_addS' {x y : List Nat} (hl : x.length + y.length ≤ 1000000) : OpS Y K (rAddU K) (dS x) (dS y) (· = dS (x ++ y)) := (os_addS (by rw [SX.S_len, SX.S_len]; exact hl)).mono fun d e => by rw [e, cat_S]
theorem os_rep1 {c : Nat} {n : Int} (h2 : -1000000 ≤ n) (h3 : n ≤ 10000) : OpS Y K rMulU (dS [c]) (.int n) (· = dS (List.replicate n.toNat c)) := (os_mulS (by rw [SX.S_len]; exact Nat.le_of_lt (by show 1 < 1000; decide)) h2 h3).mono fun d e => by rw [e, rep1_S]
theorem os_eqS' {x y : List Nat} : OpS Y K (rEqU K) (dS x) (dS y) (· = .bool (decide (x = y))) := os_eqS.mono fun d e => by
  rw [e]
  congr 1
  by_cases h : x = y
  · subst h; simp
  · rw [decide_eq_false h, decide_eq_false fun z => h (SX.S_inj z)]
theorem os_neS' {x y : List Nat} : OpS Y K (rNeU K) (dS x) (dS y) (· = .bool (!decide (x = y))) := os_neS.mono fun d e => by
  rw [e]
  congr 2
  by_cases h : x = y
  · subst h; simp
  · rw [decide_eq_false h, decide_eq_false fun z => h (SX.S_inj z)]
theorem cb_lenS' {z : List Nat} (hz : z.length ≤ 1000000) : CbS Y K (rLenU K) [dS z] (· = .int z.length) := (cb_lenS (by rw [SX.S_len]; exact hz)).mono fun d e => by rw [e, SX.S_len]
end
section
variable {Y : Vol} {K : PySem.W.Frag} {es : List Ent}
/-- a written text by its codes -/
theorem ev_s {i : Str} {l : List Nat} (h : i = SX.S l := by rfl) : EvD Y K es (tC (.str i)) (· = dS l) := h ▸ ev_str
theorem et_s {i : Str} {l : List Nat} (h : i = SX.S l := by rfl) : EvT Y K es (tC (.str i)) (· = dS l) := (ev_s h).tt
example : (Str.ofString "told") = SX.S [116, 111, 108, 100] := rfl
end
end FR
set_option maxRecDepth 100000
set_option maxHeartbeats 4000000
namespace FR
open PySem PySem.Spec PyProof.Rows L2
/-! the rules with the written part named, for blocks within blocks -/
section
variable {X : Cx} {K : PySem.W.Frag}
theorem kop_add (h : X.K = K) : OpR X (binaryOp .Add) (rAddU K) := h ▸ op_addU
theorem kop_eq (h : X.K = K) (hu : X.A.units + 64 < cLine) : OpR X (compareOp .Eq) (rEqU K) := h ▸ op_eqU hu
theorem kop_ne (h : X.K = K) (hu : X.A.units + 64 < cLine) : OpR X (compareOp .NotEq) (rNeU K) := h ▸ op_neU hu
theorem kop_in (h : X.K = K) : OpR X (compareOp .In) (rInU K) := h ▸ op_inU
theorem kop_notIn (h : X.K = K) : OpR X (compareOp .NotIn) (rNotInU K) := h ▸ op_notInU
theorem kix (h : X.K = K) : IxR X (rIx K) := h ▸ ix_seq
theorem ksl (h : X.K = K) : SlR X (rSlU K) := h ▸ sl_U
theorem kc_len (h : X.K = K) : CallR X (.builtin "len") (rLenU K) := h ▸ call_lenU
theorem kc_all (h : X.K = K) (hc : X.calm = true) : CallR X (.builtin "all") (rAll K) := h ▸ cr_all hc
theorem kc_any (h : X.K = K) (hc : X.calm = true) : CallR X (.builtin "any") (rAny K) := h ▸ cr_any hc
theorem kc_sum (h : X.K = K) (hc : X.calm = true) : CallR X (.builtin "sum") (rSum K) := h ▸ cr_sum hc
theorem kc_tup (h : X.K = K) : CallR X (.type "tuple") (rTupOf K) := h ▸ call_tuple_of
theorem kc_lst (h : X.K = K) : CallR X (.type "list") (rLstOf K) := h ▸ call_list_of
theorem kc_isi (h : X.K = K) : CallR X (.builtin "isinstance") (rIsi K) := h ▸ call_isi
theorem kc_repr (h : X.K = K) (hu : X.A.units + 64 < cLine) (hg : X.A.guards = some []) : CallR X (.builtin "repr") (rRepr K) := h ▸ call_repr hu hg
theorem km_join (h : X.K = K) : MtR X "str.join" (rJoin K) := h ▸ mt_join
theorem kpi_seq (h : X.K = K) {tg e : Expr} {te : TE} (he : PE X e te) : PI X tg e (iSeqU K te) := h ▸ pi_seqU he
theorem kpe_bm (h : X.K = K) {o e : Expr} {es : List Expr} {to : TE} {t : TA} {name : Str} {apos cpos : Pos} {T id : String} {r : V → List V → Hp → VK → Prop} (pa : PlainAttrs T) (slot : Slot T name id) (hty : typeOf (.builtin id) = pure (.type "method_descriptor")) (hm : MtR X id r) (ho : PE X o to) (ha : PA X (e :: es) t) (b1 : attributeBase o name X.env (eval o X.env) = eval o X.env := by rfl) (b2 : ((backTo cpos (starEach (e :: es) X.env)).all (fun x => !x.1) && (backToKw cpos (keywordEach [] X.env)).all (fun x => x.1.isSome) && decide ((e :: es).length + ([] : List Keyword).length + (if ([] : List Keyword).isEmpty then 0 else 1) < 30)) = true := by rfl) (b3 : (apos.endLine == cpos.line) = true := by rfl) (b4 : starEach (e :: es) X.env = (false, eval e X.env) :: starEach es X.env := by rfl) (b5 : (backTo cpos (starEach es X.env)).any (·.1) = false := by rfl) :
    PE X (.Call (.Attribute o name apos) (e :: es) [] cpos) (tBM K T r to t) := h ▸ pe_bm pa slot hty hm ho ha b1 b2 b3 b4 b5
end
end FR
set_option maxRecDepth 100000
set_option maxHeartbeats 4000000
namespace FR
open PySem PySem.Spec PyProof.Rows L2
/-! ### lines and words, in plain Lean -/
def absI (n : Int) : Int := if n < 0 then -n else n
def sumAbs (ns : List Int) : Int := (ns.map absI).sum
def pieceW (n : Int) : List Nat := if 0 < n then 98 :: List.replicate (n - 1).toNat 111 else List.replicate (-n).toNat 102
def wordOf (ns : List Int) : List Nat := (ns.map pieceW).flatten
def adjB (ns : List Int) : Bool := (List.range (ns.length - 1)).any fun k => decide (ns.getD k 0 < 0) && decide (ns.getD (k + 1) 0 < 0)
def intsD (ds : List PyData) : List Int := ds.map fun d => match d with
  | .int i => i
  | _ => 0
/-- whether is_integer says yes -/
def isIntD : PyData → Bool
  | .int _ => true
  | _ => false
def isPieceD : PyData → Bool
  | .int i => !decide (i = 0)
  | _ => false
def lineB (ns : List Int) : Bool := !ns.isEmpty && ns.all (fun n => !decide (n = 0)) && decide (sumAbs ns ≤ 60) && !adjB ns
def isLineD : PyData → Bool
  | .tuple ds => ds.all isPieceD && lineB (intsD ds)
  | _ => false
theorem intsD_map : ∀ ns : List Int, intsD (ns.map .int) = ns
  | [] => rfl
  | n :: ns => by
    show n :: intsD (ns.map .int) = n :: ns
    rw [intsD_map ns]
theorem all_piece : ∀ ns : List Int, (ns.map PyData.int).all isPieceD = ns.all (fun n => !decide (n = 0))
  | [] => rfl
  | n :: ns => by
    rw [List.map_cons, List.all_cons, List.all_cons, all_piece ns]
    rfl
theorem ints_of : ∀ {ds : List PyData}, ds.all isPieceD = true → ds = (intsD ds).map .int
  | [], _ => rfl
  | d :: ds, h => by
    rw [List.all_cons, Bool.and_eq_true] at h
    cases d with
    | int i =>
      show PyData.int i :: ds = .int i :: (intsD ds).map .int
      rw [← ints_of h.2]
    | _ => exact absurd h.1 Bool.false_ne_true
theorem isLineD_L (ns : List Int) : isLineD (dL ns) = lineB ns := by
  show ((ns.map PyData.int).all isPieceD && lineB (intsD (ns.map .int))) = lineB ns
  rw [intsD_map, all_piece]
  unfold lineB
  cases ns.all (fun n => !decide (n = 0)) <;> simp

/-! words -/
def okC (p : Option Nat) (c : Nat) : Bool := c == 98 || c == 102 || (c == 111 && (p == some 98 || p == some 111))
inductive WOk : List Nat → Prop
  | nil : WOk []
  | snoc {w : List Nat} {c : Nat} : WOk w → okC w.getLast? c = true → WOk (w ++ [c])
def addLast (f : List Int) (d : Int) : List Int := f.set (f.length - 1) (f.getLast?.getD 0 + d)
def pStep (f : List Int) (p : Option Nat) (c : Nat) : List Int := addLast (if c = 98 ∨ (c = 102 ∧ p ≠ some 102) then f ++ [0] else f) (if c = 102 then -1 else 1)
def piecesFrom : List Int → Option Nat → List Nat → List Int
  | f, _, [] => f
  | f, p, c :: w => piecesFrom (pStep f p c) (some c) w
def piecesOf (w : List Nat) : List Int := piecesFrom [] none w
theorem getLast_snoc {α : Type} (l : List α) (x : α) : (l ++ [x]).getLast? = some x := by simp
theorem addLast_snoc (g : List Int) (x d : Int) : addLast (g ++ [x]) d = g ++ [x + d] := by
  unfold addLast
  rw [getLast_snoc, List.length_append]
  show (g ++ [x]).set (g.length + 1 - 1) (x + d) = g ++ [x + d]
  rw [Nat.add_sub_cancel, List.set_append_right _ _ (Nat.le_refl _), Nat.sub_self]
  rfl
theorem piecesFrom_snoc : ∀ (w : List Nat) (f : List Int) (p : Option Nat) (c : Nat), piecesFrom f p (w ++ [c]) = pStep (piecesFrom f p w) ((w.getLast?).or p) c
  | [], f, p, c => by
    show pStep f p c = pStep f ((none : Option Nat).or p) c
    cases p <;> rfl
  | a :: w, f, p, c => by
    show piecesFrom (pStep f p a) (some a) (w ++ [c]) = pStep (piecesFrom (pStep f p a) (some a) w) (((a :: w).getLast?).or p) c
    rw [piecesFrom_snoc w]
    congr 1
    cases w with
    | nil => rfl
    | cons b w =>
      rw [List.getLast?_cons_cons]
      have h : ∃ z, (b :: w).getLast? = some z := ⟨_, List.getLast?_eq_some_getLast (List.cons_ne_nil b w)⟩
      obtain ⟨z, hz⟩ := h
      rw [hz]
      rfl
theorem piecesOf_snoc (w : List Nat) (c : Nat) : piecesOf (w ++ [c]) = pStep (piecesOf w) w.getLast? c := by
  unfold piecesOf
  rw [piecesFrom_snoc]
  congr 1
  cases w.getLast? <;> rfl
theorem wordOf_append (a b : List Int) : wordOf (a ++ b) = wordOf a ++ wordOf b := by
  unfold wordOf
  rw [List.map_append, List.flatten_append]
theorem wordOf_one (n : Int) : wordOf [n] = pieceW n := by
  unfold wordOf
  rw [List.map_singleton, List.flatten_cons, List.flatten_nil, List.append_nil]
theorem rep_snoc (n : Nat) (c : Nat) : List.replicate (n + 1) c = List.replicate n c ++ [c] := List.replicate_succ'
structure LineOk (ns : List Int) : Prop where
  nz : ∀ n ∈ ns, n ≠ 0
  adj : ∀ (k : Nat) (a b : Int), ns[k]? = some a → ns[k + 1]? = some b → ¬ (a < 0 ∧ b < 0)
/-- what the pieces of a word are -/
structure PcOk (f : List Int) (w : List Nat) : Prop where
  word : wordOf f = w
  ok : LineOk f
  sign : ∀ x, f.getLast? = some x → (w.getLast? = some 102 ↔ x < 0)
  emp : f = [] ↔ w = []
theorem LineOk.snoc {g : List Int} {x : Int} (h : LineOk g) (hx : x ≠ 0) (hl : ∀ y, g.getLast? = some y → ¬ (y < 0 ∧ x < 0)) : LineOk (g ++ [x]) := by
  refine ⟨fun n hn => ?_, fun k a b h1 h2 => ?_⟩
  · rcases List.mem_append.mp hn with q | q
    · exact h.nz n q
    · rw [List.mem_singleton.mp q]
      exact hx
  · have hk : k + 1 < (g ++ [x]).length := (List.getElem?_eq_some_iff.mp h2).1
    rw [List.length_append] at hk
    have hk2 : k < g.length := by simpa using hk
    rw [List.getElem?_append_left hk2] at h1
    by_cases h3 : k + 1 < g.length
    · rw [List.getElem?_append_left h3] at h2
      exact h.adj k a b h1 h2
    · have e : k + 1 = g.length := by omega
      rw [List.getElem?_append_right (by omega), e, Nat.sub_self] at h2
      have e2 : x = b := by simpa using h2
      subst e2
      apply hl a
      rw [List.getLast?_eq_getElem?]
      have e3 : g.length - 1 = k := by omega
      rw [e3]
      exact h1
theorem LineOk.init {g : List Int} {x : Int} (h : LineOk (g ++ [x])) : LineOk g := by
  refine ⟨fun n hn => h.nz n (List.mem_append_left _ hn), fun k a b h1 h2 => h.adj k a b ?_ ?_⟩
  · rw [List.getElem?_append_left (List.getElem?_eq_some_iff.mp h1).1]
    exact h1
  · rw [List.getElem?_append_left (List.getElem?_eq_some_iff.mp h2).1]
    exact h2
theorem LineOk.last {g : List Int} {x y : Int} (h : LineOk (g ++ [x])) (hy : g.getLast? = some y) : ¬ (y < 0 ∧ x < 0) := by
  rw [List.getLast?_eq_getElem?] at hy
  have hl : g.length - 1 < g.length := (List.getElem?_eq_some_iff.mp hy).1
  refine h.adj (g.length - 1) y x ?_ ?_
  · rw [List.getElem?_append_left hl]
    exact hy
  · have e : g.length - 1 + 1 = g.length := by omega
    rw [e, List.getElem?_append_right (Nat.le_refl _), Nat.sub_self]
    rfl
theorem pieceW_pos {n : Int} (h : 0 < n) : pieceW n = 98 :: List.replicate (n - 1).toNat 111 := if_pos h
theorem pieceW_neg {n : Int} (h : n < 0) : pieceW n = List.replicate (-n).toNat 102 := if_neg (by omega)
theorem pc_ok {w : List Nat} (h : WOk w) : PcOk (piecesOf w) w := by
  induction h with
  | nil => exact ⟨rfl, ⟨fun n (q : n ∈ ([] : List Int)) => (nomatch q), fun k a b (q : ([] : List Int)[k]? = some a) _ => by simp at q⟩, fun x (q : ([] : List Int).getLast? = some x) => by simp at q, ⟨fun _ => rfl, fun _ => rfl⟩⟩
  | @snoc w c hw hc ih =>
    rw [piecesOf_snoc]
    generalize hf : piecesOf w = f at ih
    unfold pStep
    by_cases c1 : c = 98 ∨ (c = 102 ∧ w.getLast? ≠ some 102)
    · rw [if_pos c1, addLast_snoc, Int.zero_add]
      rcases c1 with rfl | ⟨rfl, c2⟩
      · rw [if_neg (by decide)]
        refine ⟨?_, ih.ok.snoc (by decide) (fun y _ q => by omega), fun x hx => ?_, by simp⟩
        · rw [wordOf_append, ih.word, wordOf_one]
          rfl
        · rw [getLast_snoc] at hx ⊢
          cases hx
          simp
      · rw [if_pos rfl]
        refine ⟨?_, ih.ok.snoc (by decide) (fun y hy q => c2 ((ih.sign y hy).mpr q.1)), fun x hx => ?_, by simp⟩
        · rw [wordOf_append, ih.word, wordOf_one]
          rfl
        · rw [getLast_snoc] at hx ⊢
          cases hx
          simp
    · rw [if_neg c1]
      -- the last piece grows
      have cc : (c = 102 ∧ w.getLast? = some 102) ∨ (c = 111 ∧ (w.getLast? = some 98 ∨ w.getLast? = some 111)) := by
        unfold okC at hc
        simp only [Bool.or_eq_true, Bool.and_eq_true, beq_iff_eq] at hc
        rcases hc with (h1 | h1) | ⟨h1, h2⟩
        · exact absurd (.inl h1) c1
        · by_cases h3 : w.getLast? = some 102
          · exact .inl ⟨h1, h3⟩
          · exact absurd (.inr ⟨h1, h3⟩) c1
        · exact .inr ⟨h1, h2⟩
      have hne : w ≠ [] := by
        rintro rfl
        rcases cc with ⟨_, q⟩ | ⟨_, q | q⟩ <;> simp at q
      have hfe : f ≠ [] := fun q => hne (ih.emp.mp q)
      obtain ⟨g, x, rfl⟩ : ∃ g x, f = g ++ [x] := ⟨f.dropLast, f.getLast hfe, (List.dropLast_concat_getLast hfe).symm⟩
      rw [addLast_snoc]
      have hs := ih.sign x (getLast_snoc g x)
      have hx0 := ih.ok.nz x (by simp)
      have hword := ih.word
      rw [wordOf_append, wordOf_one] at hword
      rcases cc with ⟨rfl, h2⟩ | ⟨rfl, h2⟩
      · rw [if_pos rfl]
        have hx : x < 0 := hs.mp h2
        refine ⟨?_, ih.ok.init.snoc (by omega) (fun y hy q => ih.ok.last hy ⟨q.1, hx⟩), fun z hz => ?_, by simp⟩
        · rw [wordOf_append, wordOf_one, ← hword, pieceW_neg hx, pieceW_neg (by omega)]
          have e : (-(x + -1)).toNat = (-x).toNat + 1 := by omega
          rw [e, rep_snoc, List.append_assoc]
        · rw [getLast_snoc] at hz ⊢
          cases hz
          simp only [true_iff]
          omega
      · rw [if_neg (by decide)]
        have hx : ¬ x < 0 := fun q => by
          have := hs.mpr q
          rcases h2 with h2 | h2 <;> rw [h2] at this <;> simp at this
        refine ⟨?_, ih.ok.init.snoc (by omega) (fun y hy q => by omega), fun z hz => ?_, by simp⟩
        · rw [wordOf_append, wordOf_one, ← hword, pieceW_pos (n := x) (by omega), pieceW_pos (by omega)]
          have e : (x + 1 - 1).toNat = (x - 1).toNat + 1 := by omega
          rw [e, rep_snoc, List.append_assoc]
          rfl
        · rw [getLast_snoc] at hz ⊢
          cases hz
          simp only [Option.some.injEq]
          omega
theorem len_pieceW {n : Int} (h : n ≠ 0) : ((pieceW n).length : Int) = absI n := by
  unfold pieceW absI
  split
  · rw [List.length_cons, List.length_replicate, if_neg (by omega)]
    omega
  · rw [List.length_replicate, if_pos (by omega)]
    omega
theorem len_word : ∀ {ns : List Int}, (∀ n ∈ ns, n ≠ 0) → ((wordOf ns).length : Int) = sumAbs ns
  | [], _ => rfl
  | n :: ns, h => by
    have e : wordOf (n :: ns) = pieceW n ++ wordOf ns := rfl
    rw [e, List.length_append, Int.natCast_add, len_pieceW (h n (by simp)), len_word fun m hm => h m (by simp [hm])]
    unfold sumAbs
    rw [List.map_cons, List.sum_cons]
theorem adjB_false {ns : List Int} (h : LineOk ns) : adjB ns = false := by
  unfold adjB
  apply List.any_eq_false.mpr
  intro k hk
  have hk := List.mem_range.mp hk
  have h1 : ns[k]? = some (ns.getD k 0) := by
    rw [List.getElem?_eq_getElem (by omega)]
    simp [List.getD, List.getElem?_eq_getElem (show k < ns.length by omega)]
  have h2 : ns[k + 1]? = some (ns.getD (k + 1) 0) := by
    rw [List.getElem?_eq_getElem (by omega)]
    simp [List.getD, List.getElem?_eq_getElem (show k + 1 < ns.length by omega)]
  have := h.adj k _ _ h1 h2
  intro q
  rw [Bool.and_eq_true, decide_eq_true_eq, decide_eq_true_eq] at q
  exact this q
theorem lineB_of {ns : List Int} (h : LineOk ns) (hne : ns ≠ []) (hs : sumAbs ns ≤ 60) : lineB ns = true := by
  unfold lineB
  rw [adjB_false h, decide_eq_true hs]
  have e1 : ns.isEmpty = false := by cases ns <;> simp_all
  have e2 : ns.all (fun n => !decide (n = 0)) = true := List.all_eq_true.mpr fun n hn => by simp [h.nz n hn]
  rw [e1, e2]
  rfl
theorem lineB_inv {ns : List Int} (h : lineB ns = true) : LineOk ns ∧ ns ≠ [] ∧ sumAbs ns ≤ 60 := by
  unfold lineB at h
  simp only [Bool.and_eq_true, Bool.not_eq_true', decide_eq_true_eq] at h
  obtain ⟨⟨⟨h1, h2⟩, h3⟩, h4⟩ := h
  refine ⟨⟨fun n hn => ?_, fun k a b e1 e2 q => ?_⟩, (fun e => by subst e; cases h1), h3⟩
  · have := List.all_eq_true.mp h2 n hn
    simpa using this
  · unfold adjB at h4
    have hk : k + 1 < ns.length := (List.getElem?_eq_some_iff.mp e2).1
    have := List.any_eq_false.mp h4 k (List.mem_range.mpr (by omega))
    apply this
    have g1 : ns.getD k 0 = a := by simp [List.getD, e1]
    have g2 : ns.getD (k + 1) 0 = b := by simp [List.getD, e2]
    rw [g1, g2, decide_eq_true q.1, decide_eq_true q.2]
    rfl
/-- a word's pieces are a line of it -/
theorem line_of_word {w : List Nat} (h : WOk w) (hne : w ≠ []) (hl : w.length ≤ 60) : lineB (piecesOf w) = true ∧ wordOf (piecesOf w) = w := by
  have p := pc_ok h
  refine ⟨lineB_of p.ok (fun e => hne (p.emp.mp e)) ?_, p.word⟩
  rw [← len_word p.ok.nz, p.word]
  omega
theorem joinL_nil : ∀ l : List (List Nat), TL.joinL [] l = l.flatten
  | [] => rfl
  | [p] => by
    show p = [p].flatten
    simp
  | p :: q :: r => by
    show p ++ ([] ++ TL.joinL [] (q :: r)) = _
    rw [joinL_nil (q :: r), List.nil_append]
    rfl
theorem dL_inj {a b : List Int} (h : dL a = dL b) : a = b := by
  have e : a.map PyData.int = b.map PyData.int := by injection h
  have := congrArg intsD e
  rwa [intsD_map, intsD_map] at this
theorem absI_pos {n : Int} (h : n ≠ 0) : 1 ≤ absI n := by unfold absI; split <;> omega
theorem line_bounds : ∀ {ns : List Int}, (∀ n ∈ ns, n ≠ 0) → sumAbs ns ≤ 60 → (ns.length : Int) ≤ 60 ∧ ∀ n ∈ ns, -60 ≤ n ∧ n ≤ 60 := by
  have key : ∀ (ns : List Int) (B : Int), (∀ n ∈ ns, n ≠ 0) → sumAbs ns ≤ B → (ns.length : Int) ≤ B ∧ ∀ n ∈ ns, -B ≤ n ∧ n ≤ B := by
    intro ns
    induction ns with
    | nil => exact fun B _ h => ⟨by have : sumAbs [] = 0 := rfl; simp; omega, fun n q => nomatch q⟩
    | cons x ns ih =>
      intro B hz h
      have e : sumAbs (x :: ns) = absI x + sumAbs ns := by unfold sumAbs; rw [List.map_cons, List.sum_cons]
      have h1 := absI_pos (hz x (by simp))
      have h2 := ih (B - absI x) (fun n hn => hz n (by simp [hn])) (by omega)
      have h0 : 0 ≤ B - absI x := by have := h2.1; omega
      refine ⟨by rw [List.length_cons]; have := h2.1; omega, fun n hn => ?_⟩
      rcases List.mem_cons.mp hn with rfl | hn
      · unfold absI at h0
        split at h0 <;> omega
      · have := h2.2 n hn
        omega
  exact fun {ns} hz h => key ns 60 hz h
end FR
set_option maxRecDepth 100000
set_option maxHeartbeats 4000000
namespace FR
open PySem PySem.Spec PyProof.Rows L2
section
variable {Y : Vol} {K : PySem.W.Frag} {es : List Ent} {ta tb te : TE} {P : PyData → Prop} {O : Out} {t2 : TS}
theorem inV_strs (x : Str) (ws : List Str) : inV (.str x) (ws.map V.str) = decide (x ∈ ws) := by
  unfold inV
  rw [List.any_map]
  by_cases hx : x ∈ ws
  · rw [decide_eq_true hx]
    exact List.any_eq_true.mpr ⟨x, hx, by simp [eqV]⟩
  · rw [decide_eq_false hx]
    apply List.any_eq_false.mpr
    intro y hy
    show ¬ ((y == x) = true)
    exact fun z => hx (by rw [← eq_of_beq z]; exact hy)
theorem os_notInL {x : Str} {ws : List Str} : OpS Y K (rNotInU K) (.str x) (.list (ws.map .str)) (· = .bool (!decide (x ∈ ws))) := fun Hi H v w p ha hb Q q => by
  obtain ⟨b, vs, rfl, h1, h2⟩ := hb.list p.sub
  have e := h2.strs
  subst e
  rw [ha.str]
  refine .inl (.inl ⟨b, _, rfl, .inl (.inl (.inl h1)), rfl, by rw [List.all_map]; exact List.all_eq_true.mpr fun _ _ => rfl, ?_⟩)
  show Q (.bl (if true = true then !inV _ _ else inV _ _)) H
  rw [if_pos rfl, inV_strs]
  exact q _ _ Hi H (Fr.refl p) (.bl _) rfl
theorem os_inT {x : Str} {ws : List Str} : OpS Y K (rInU K) (.str x) (.tuple (ws.map .str)) (· = .bool (decide (x ∈ ws))) := fun Hi H v w p ha hb Q q => by
  obtain ⟨b, vs, rfl, h1, _, h2⟩ := hb.tup p.sub
  have e := h2.strs
  subst e
  rw [ha.str]
  refine .inl (.inl ⟨b, _, rfl, .inr h1, rfl, by rw [List.all_map]; exact List.all_eq_true.mpr fun _ _ => rfl, ?_⟩)
  show Q (.bl (if false = true then !inV _ _ else inV _ _)) H
  rw [if_neg Bool.false_ne_true, inV_strs]
  exact q _ _ Hi H (Fr.refl p) (.bl _) rfl
theorem memS {x : List Nat} {ws : List (List Nat)} : decide (SX.S x ∈ ws.map SX.S) = decide (x ∈ ws) := by
  by_cases h : x ∈ ws
  · rw [decide_eq_true h, decide_eq_true (List.mem_map.mpr ⟨x, h, rfl⟩)]
  · rw [decide_eq_false h, decide_eq_false fun q => ?_]
    obtain ⟨y, hy, e⟩ := List.mem_map.mp q
    exact h (SX.S_inj e ▸ hy)
theorem mapS (ws : List (List Nat)) : (ws.map fun y => dS y) = (ws.map SX.S).map PyData.str := by rw [List.map_map]; rfl
theorem os_notInL' {x : List Nat} {ws : List (List Nat)} : OpS Y K (rNotInU K) (dS x) (.list (ws.map fun y => dS y)) (· = .bool (!decide (x ∈ ws))) := by
  rw [mapS]
  exact os_notInL.mono fun d e => by rw [e, memS]
theorem os_inT' {x : List Nat} {ws : List (List Nat)} : OpS Y K (rInU K) (dS x) (.tuple (ws.map fun y => dS y)) (· = .bool (decide (x ∈ ws))) := by
  rw [mapS]
  exact os_inT.mono fun d e => by rw [e, memS]
/-- a, b = e, [] -/
theorem ss_parOwn {i j : Nat} (hij : i ≠ j) (h : EvD Y K es te P) (k : ∀ d, P d → O.nx ((es.set i (.dat d)).set j (.own []))) : StS Y K es (tPar i j (tCons te (tCons (tLst tNil) tNil))) O := fun H0i H0 Hi H σ s Dn n b c r =>
  h H0i H0 Hi H σ s _ fun v d Hi' H' f hd p => ⟨Nat.zero_le _, fun q hq => ⟨v, .ref q, rfl, n Hi' _ _ _ f.hi (((s.step f).setDat hd).setOwn hq .nil) (k d p)⟩⟩
theorem qs_parOwn {i j : Nat} (hij : i ≠ j) (h : EvD Y K es te P) (k : ∀ d, P d → StS Y K ((es.set i (.dat d)).set j (.own [])) t2 O) : StS Y K es (tSeq (tPar i j (tCons te (tCons (tLst tNil) tNil))) t2) O :=
  ss_seq (M := fun e => ∃ d, P d ∧ e = (es.set i (.dat d)).set j (.own [])) (ss_parOwn hij h fun d p => ⟨d, p, rfl⟩) fun e ⟨d, p, e1⟩ => e1 ▸ k d p
theorem ss_last {z : List Nat} (hz : z.length ≤ 1000000) : SlS Y K (rSlU K) (dS z) (some (-1)) none (· = dS (z.drop (z.length - 1))) := fun Hi H v p ha Q q => ss_S (by rw [SX.S_len]; exact hz) Hi H v p ha Q fun u d Hi' H' f hd e => q u d Hi' H' f hd (by
  rw [e]
  cases z with
  | nil => rfl
  | cons a r => rw [SX.slice_last (by simp)])
end
section
variable {Y : Vol} {K : PySem.W.Frag} {es : List Ent} {ta tb : TE}
theorem ev_andVx {Pb Pc : Bool → Prop} (h1 : EvD Y K es ta (fun d => ∃ b, d = .bool b ∧ Pb b)) (h2 : Pb true → EvD Y K es tb (fun d => ∃ c, d = .bool c ∧ Pc c)) : EvD Y K es (tAndV ta tb) (fun d => ∃ b c, d = .bool (b && c) ∧ Pb b ∧ (b = true → Pc c)) := fun H0i H0 Hi H σ s Q q =>
  h1 H0i H0 Hi H σ s _ fun v d Hi1 H1 f1 hd ⟨b, e, pb⟩ => by
    subst e
    cases hd
    refine ⟨b, rfl, ?_⟩
    cases b with
    | true =>
      show tb σ H1 Q
      exact h2 pb H0i H0 Hi1 H1 σ (s.step f1) Q fun v d Hi2 H2 f2 p2 ⟨c, e2, pc⟩ => q v d Hi2 H2 (f1.trans f2) p2 ⟨true, c, e2, pb, fun _ => pc⟩
    | false =>
      show Q (.bl false) H1
      exact q _ _ Hi1 H1 f1 (.bl false) ⟨false, true, rfl, pb, fun z => by cases z⟩
theorem ints_lay : ∀ g : List Int, PyData.canLayAll0 (g.map .int) = true
  | [] => rfl
  | n :: g => by
    show (true && PyData.canLayAll0 (g.map .int)) = true
    rw [ints_lay g]
    rfl
theorem ints_depth : ∀ g : List Int, PyData.depthAll (g.map .int) = 0
  | [] => rfl
  | n :: g => by
    show max 0 (PyData.depthAll (g.map .int)) = 0
    rw [ints_depth g]
    rfl
theorem shaped_ints (g : List Int) : SeqAt.shaped (.list (g.map .int)) = true := by
  show (PyData.canLayAll0 (g.map .int) && decide (PyData.depthAll (g.map .int) + 1 ≤ 64)) = true
  rw [ints_lay, ints_depth]
  rfl
/-- is a list of ints empty -/
theorem os_eqE (g : List Int) : OpS Y K (rEqU K) (.list (g.map .int)) (.list []) (· = .bool (decide (g = []))) := by
  refine (os_eqD ?_ (by decide)).mono fun d e => ?_
  · exact shaped_ints g
  · rw [e]
    cases g <;> rfl
theorem last_int (p : List Int) (v : Int) : atI ((p ++ [v]).map PyData.int) (-1) = some (.int v) := by
  have ix : ixN ((p ++ [v]).map PyData.int).length (-1) = some p.length := by
    rw [List.length_map, List.length_append]
    unfold ixN
    rw [if_neg (by decide), if_pos (by show -((p.length + 1 : Nat) : Int) ≤ -1; omega)]
    congr 1
    show (-1 + ((p.length + 1 : Nat) : Int)).toNat = p.length
    omega
  unfold atI
  rw [ix]
  show ((p ++ [v]).map PyData.int)[p.length]? = some (.int v)
  rw [List.getElem?_map, List.getElem?_append_right (Nat.le_refl _), Nat.sub_self]
  rfl
end
/-! prefixes of words -/
theorem WOk.pre {w : List Nat} (h : WOk w) : ∀ k, WOk (w.take k) := by
  induction h with
  | nil => intro k; rw [List.take_nil]; exact .nil
  | @snoc w c hw hc ih =>
    intro k
    by_cases hk : k ≤ w.length
    · rw [List.take_append_of_le_length hk]
      exact ih k
    · rw [List.take_of_length_le (by rw [List.length_append]; show w.length + 1 ≤ k; omega)]
      exact .snoc hw hc
theorem WOk.sgn {w : List Nat} (h : WOk w) {k c : Nat} (hc : w[k]? = some c) : okC (w.take k).getLast? c = true := by
  induction h with
  | nil => simp at hc
  | @snoc w x hw hx ih =>
    by_cases hk : k < w.length
    · rw [List.getElem?_append_left hk] at hc
      rw [List.take_append_of_le_length (Nat.le_of_lt hk)]
      exact ih hc
    · have hl := (List.getElem?_eq_some_iff.mp hc).1
      rw [List.length_append] at hl
      have e : k = w.length := by simp at hl; omega
      subst e
      rw [List.getElem?_append_right (Nat.le_refl _), Nat.sub_self] at hc
      have e2 : x = c := by simpa using hc
      subst e2
      rw [List.take_left']
      · exact hx
      · rfl
theorem take_last {w : List Nat} {k : Nat} (h : k < w.length) (h0 : 0 < k) : (w.take k).getLast? = some (w.getD (k - 1) 0) := by
  rw [List.getLast?_eq_getElem?, List.length_take, Nat.min_eq_left (Nat.le_of_lt h), List.getElem?_take_of_lt (by omega), List.getElem?_eq_getElem (by omega)]
  simp [List.getD, List.getElem?_eq_getElem (show k - 1 < w.length by omega)]
theorem okC_cases {p : Option Nat} {c : Nat} (h : okC p c = true) : c = 98 ∨ c = 102 ∨ (c = 111 ∧ (p = some 98 ∨ p = some 111)) := by
  unfold okC at h
  simp only [Bool.or_eq_true, Bool.and_eq_true, beq_iff_eq] at h
  rcases h with (h | h) | h
  · exact .inl h
  · exact .inr (.inl h)
  · exact .inr (.inr h)
end FR
namespace FR
open PySem
theorem wsInj {a b : List (List Nat)} (h : PyData.list (a.map fun y => dS y) = .list (b.map fun y => dS y)) : a = b := by
  injection h with h
  have key : ∀ (a b : List (List Nat)), a.map (fun y => dS y) = b.map (fun y => dS y) → a = b := by
    intro a
    induction a with
    | nil => intro b h; cases b with
      | nil => rfl
      | cons x b => cases h
    | cons x a ih =>
      intro b h
      cases b with
      | nil => cases h
      | cons y b =>
        rw [List.map_cons, List.map_cons] at h
        injection h with h1 h2
        injection h1 with h1
        rw [SX.S_inj h1, ih b h2]
  exact key a b h
theorem dS_inj {a b : List Nat} (h : dS a = dS b) : a = b := by
  injection h with h
  exact SX.S_inj h
end FR
set_option maxRecDepth 100000
set_option maxHeartbeats 4000000
namespace FR
open PySem PySem.Spec PyProof.Rows L2
/-! ### lambdas handed to a def that calls them -/
structure Vol.Lam (Y : Vol) (T : List (Addr × Str)) : Prop where
  tab : ∀ H, Y.I H → LamX.Tabs T H
  put : ∀ H H1, LamX.ExtN H H1 → LamX.Tabs T H1 → Y.I H → Y.I H1
/-- the answer of _law_caught where nothing is raised: ['told', repr(v)] -/
def TTc (K : PySem.W.Frag) : (XK → Hp → VK → Prop) → Hp → VK → Prop := fun tl H Q => ∀ f : Addr, tl E0 H fun v H' => (tLst (tCons (tC (.str "told")) (tCons (tCB (rRepr K) (tCons (tVar 2) tNil)) tNil))) [some (.ref f), none, some v, none] H' Q
/-- what may be shown -/
structure Shn (d : PyData) : Prop where
  sh : d.showable = true
  nd : NoDc d
  dp : d.depth ≤ 60
  ln : d.shown.length ≤ 1000000
def toldD (d : PyData) : PyData := .list [dS [116, 111, 108, 100], .str d.shown]
section
variable {Y : Vol} {K : PySem.W.Frag} {es : List Ent} {T : List (Addr × Str)} {t : XK → TE} {P : PyData → Prop}
theorem Fr.lam {Hi H H1 : Hp} (p : Pre Y Hi H) (hL : Y.Lam T) (e : LamX.ExtN H H1) (hT : LamX.Tabs T H1) : Fr Y Hi H Hi H1 := by
  refine ⟨Same.refl _, fun b o h => e b o (p.sub b o h) fun ps z => ?_, hL.put _ _ e hT p.inv, p.out, fun b o h _ ht => e b o h fun ps z => ht ⟨ps, z⟩, fun b o h => .inl h⟩
  exact (p.out b o h).2 ⟨ps, z⟩
theorem ev_caught (hL : Y.Lam T) (h : EvD Y K es (t E0) P) (hp : ∀ d, P d → Shn d) : EvD Y K es (LamX.tLam T (TTc K) t) (fun r => ∃ d, P d ∧ r = toldD d) := fun H0i H0 Hi H σ s Q q => by
  refine ⟨hL.tab _ s.fr.inv, fun H1 e1 t1 ff => ?_⟩
  have f1 : Fr Y Hi H Hi H1 := Fr.lam s.pre hL e1 t1
  refine h H0i H0 Hi H1 σ (s.step f1) _ fun v d Hi2 H2 f2 hd pd => ?_
  have sh := hp d pd
  refine ⟨v, rfl, v, d, rfl, Da.mono f2.sub _ _ hd, sh.sh, sh.nd, sh.dp, Nat.le_trans sh.ln (show 1000000 ≤ sizeLine by decide), (show 2 ≤ sizeLine by decide), fun p hp => ?_⟩
  have f := (f1.trans f2).trans (Fr.alloc f2.pre hp (o := .lst [.str "told", .str d.shown]) not_tb_lst)
  exact q (.ref p) (toldD d) _ _ f (.lst upd_same (.cons (.str _) (.cons (.str _) .nil))) ⟨d, pd, rfl⟩
theorem ev_caughtd {d : PyData} (hL : Y.Lam T) (h : EvD Y K es (t E0) (· = d)) (hp : Shn d) : EvD Y K es (LamX.tLam T (TTc K) t) (· = toldD d) :=
  (ev_caught hL h fun _ e => e ▸ hp).mono fun r ⟨x, e1, e2⟩ => by rw [e2, e1]
/-- == of two such lists -/
theorem toldShaped {d : PyData} (h : SeqAt.shaped (.str d.shown) = true) : SeqAt.shaped (toldD d) = true := by
  have h1 := (Bool.and_eq_true_iff.mp h).1
  show (PyData.canLayAll0 [dS [116, 111, 108, 100], .str d.shown] && decide (PyData.depthAll [dS [116, 111, 108, 100], .str d.shown] + 1 ≤ 64)) = true
  have e1 : PyData.canLayAll0 [dS [116, 111, 108, 100], .str d.shown] = (PyData.canLay0 (dS [116, 111, 108, 100]) && (PyData.canLay0 (.str d.shown) && true)) := rfl
  have e2 : PyData.depthAll [dS [116, 111, 108, 100], .str d.shown] = 0 := rfl
  have e3 : PyData.canLay0 (dS [116, 111, 108, 100]) = true := by
    show PyData.strOk (SX.S [116, 111, 108, 100]) = true
    decide +kernel
  rw [e1, h1, e2, e3]
  rfl
end
/-! keyword calls of a def of the top -/
section
variable {X : Cx} {k : Nat} {ps : List Str} {sp : Sp} {x : Str} {p pos : Pos} {st : Stmt} {kws : List Keyword} {tk : TA} {ks : List Str} {g : List Value → List Value} {gV : List V → List V}
theorem pe_callNK (h : Kn X.prog X.w X.K X.mg X.base k x ps sp) (D : Dn X.K X.mg x st ps) (hr : Room k X.A) (hkw : PK X kws tk)
    (hb : ∀ (kV doc pm : Value) (an : Option Addr) (cdv ct : Value) (ws : List Value), ws.length = ps.length → bindArgs (PySem.W.fnOf x x (defArgs st) (defBody st) (defScope st) .none kV doc pm an cdv ct) ⟨[], ks.zip ws⟩ = pure (ps.zip (g ws)))
    (hlen : ∀ ws : List Value, (g ws).length = ws.length) (hrel : ∀ (zs : List V) (ws : List Value), Vals zs ws → Vals (gV zs) (g ws)) (hg : Gl X x := by rfl) (c1 : (backToKw pos (keywordEach kws X.env)).all (·.1.isSome) = true := by rfl) (c2 : (backToKw pos (keywordEach kws X.env)).filterMap (·.1) = ks := by rfl)
    (c3 : ((backTo pos (starEach [] X.env)).any (·.1) || (backToKw pos (keywordEach kws X.env)).any (·.1.isNone)) = false := by rfl) (hdb : (x == ("__debug__" : Str)) = false := by decide) : PE X (.Call (.Name x p) [] kws pos) (fun σ H Q => tk σ H fun zs H1 => sp (gV zs) H1 Q E0) := by
  obtain ⟨f, fd, F, m1, kp, b, oc, od, osl, l1⟩ := h
  obtain ⟨f', fd', F', m2, _⟩ := D
  obtain ⟨oc', od', kV, doc, pm, an, cdv, ct, osl', e1, l2, _⟩ := F'.ex
  have ef : f = f' := by
    have := m1.symm.trans m2
    cases this
    rfl
  subst ef
  have efd : fd = fd' := by
    have := l1.symm.trans l2
    cases this
    rfl
  subst efd
  subst e1
  refine ⟨fun pins s σ H Q I h => ?_⟩
  apply wpAny_Call_Name_kw
  refine ld_glob I hg m1 ?_ hdb
  refine PySem.W.callWith_KW0 (h₀ := X.base) I.ok.mod.kin kp c1 ?_ c3
  refine thn (hkw.run pos pins s σ H _ I h) fun ws s2 ⟨zs, H2, I2, rz, q2⟩ => ⟨I2.kIn, ?_⟩
  rw [c2]
  have r2 := hrel zs ws rz
  have hl := F.len _ _ _ _ q2
  rw [r2.length] at hl
  refine wpAny_call (codeAny_mono (F.run X.A X.stack s2 H2 ⟨[], ks.zip ws⟩ (g ws) (gV zs) Q E0 hr I2.env0 (.of_eq (hb _ _ _ _ _ _ ws (by rw [← hlen]; exact hl))) r2 q2) fun r s' hq => ?_)
  match r, hq with
  | .error e, hq => exact False.elim hq
  | .ok (.ret u), hq => exact I2.after hq
  | .ok .next, hq => exact False.elim hq
  | .ok .brk, hq => exact False.elim hq
  | .ok .cont, hq => exact False.elim hq
end
end FR
set_option maxRecDepth 100000
set_option maxHeartbeats 4000000
namespace FR
open PySem PySem.Spec PyProof.Rows L2 PySem.Builtin PySem.Builtin.Str
/-! the text of data has signs that are signs -/
def SgOk (x : PySem.Str) : Prop := ∀ c ∈ x.cps.toList, c < 0x110000
theorem sg_app {a b : PySem.Str} (h1 : SgOk a) (h2 : SgOk b) : SgOk (a ++ b) := by
  intro c hc
  have e : (a ++ b).cps.toList = a.cps.toList ++ b.cps.toList := TL.tl_append a b
  rw [e] at hc
  rcases List.mem_append.mp hc with q | q
  · exact h1 c q
  · exact h2 c q
theorem sg_iff {x : PySem.Str} : PyData.strOk x = true ↔ SgOk x := by
  unfold PyData.strOk SgOk
  rw [← Array.all_toList, List.all_eq_true]
  constructor
  · intro h c hc
    exact of_decide_eq_true (h c hc)
  · intro h c hc
    exact decide_eq_true (h c hc)
theorem chr_lt (c : Char) : c.toNat < 0x110000 := by
  have := c.valid
  rcases this with h | ⟨_, h⟩
  · show c.val.toNat < _
    have : c.val.toNat < 0xd800 := h
    omega
  · exact h
theorem reprChar_ok {q c : Nat} (hq : q < 0x110000) (hc : c < 0x110000) : ∀ z ∈ reprChar q c, z < 0x110000 := by
  have hex : ∀ n : Nat, ∀ z ∈ List.replicate n 48 ++ (Nat.toDigits 16 c).map Char.toNat, z < 0x110000 := fun n z hz => by
    rcases List.mem_append.mp hz with h | h
    · rw [List.eq_of_mem_replicate h]
      decide
    · obtain ⟨ch, _, rfl⟩ := List.mem_map.mp h
      exact chr_lt ch
  have two : ∀ a b : Nat, a < 0x110000 → b < 0x110000 → ∀ z ∈ [a, b], z < 0x110000 := fun a b h1 h2 z hz => by
    simp at hz
    rcases hz with rfl | rfl <;> assumption
  intro z hz
  unfold reprChar at hz
  simp only at hz
  split at hz
  · exact two _ _ (by decide) hc z hz
  · split at hz
    · exact two _ _ (by decide) (by decide) z hz
    · split at hz
      · exact two _ _ (by decide) (by decide) z hz
      · split at hz
        · exact two _ _ (by decide) (by decide) z hz
        · split at hz
          · rw [List.mem_singleton.mp hz]
            exact hc
          · split at hz
            · rcases List.mem_append.mp hz with h | h
              · exact two _ _ (by decide) (by decide) z h
              · exact hex _ z h
            · split at hz
              · rcases List.mem_append.mp hz with h | h
                · exact two _ _ (by decide) (by decide) z h
                · exact hex _ z h
              · rcases List.mem_append.mp hz with h | h
                · exact two _ _ (by decide) (by decide) z h
                · exact hex _ z h
theorem fold_ok {q : Nat} (hq : q < 0x110000) : ∀ (l : List Nat) (acc : Array Nat), (∀ c ∈ l, c < 0x110000) → (∀ c ∈ acc.toList, c < 0x110000) → ∀ c ∈ (l.foldl (fun out c => out ++ (reprChar q c).toArray) acc).toList, c < 0x110000
  | [], acc, _, h => h
  | a :: l, acc, hl, h => by
    rw [List.foldl_cons]
    refine fold_ok hq l _ (fun c hc => hl c (by simp [hc])) fun c hc => ?_
    rw [Array.toList_append] at hc
    rcases List.mem_append.mp hc with z | z
    · exact h c z
    · exact reprChar_ok hq (hl a (by simp)) c (by simpa using z)
theorem sg_repr {x : PySem.Str} (h : SgOk x) : SgOk (reprText x) := by
  have hq : reprQuote x < 0x110000 := by
    unfold reprQuote
    split <;> decide
  intro c hc
  unfold reprText at hc
  simp only [Array.toList_push, ← Array.foldl_toList] at hc
  rcases List.mem_append.mp hc with z | z
  · refine fold_ok hq _ _ h (fun c hc => ?_) c z
    simp at hc
    rw [hc]
    exact hq
  · rw [List.mem_singleton.mp z]
    exact hq
theorem sg_int (i : Int) : SgOk ((toString i : String) : PySem.Str) := by
  intro c hc
  by_cases h : c < 0x110000
  · exact h
  · exact absurd hc (int_text_free' c ⟨by omega, by omega⟩ i)
theorem sg_from : ∀ (ts : List PySem.Str) (k : Nat) (acc : PySem.Str), (∀ t ∈ ts, SgOk t) → SgOk acc → SgOk (textFrom k acc ts)
  | [], k, acc, _, h => h
  | t :: r, k, acc, ht, h => by
    refine sg_from r (k + 1) _ (fun u hu => ht u (by simp [hu])) ?_
    refine sg_app (sg_app h ?_) (ht t (by simp))
    split
    · intro c hc
      have : c ∈ [44, 32] := hc
      simp at this
      rcases this with rfl | rfl <;> decide
    · intro c hc
      have : c ∈ ([] : List Nat) := hc
      simp at this
theorem sg_lit {s : PySem.Str} (h : PyData.strOk s = true := by decide +kernel) : SgOk s := sg_iff.mp h
theorem sg_list {ts : List PySem.Str} (h : ∀ t ∈ ts, SgOk t) : SgOk (listText ts) := sg_app (sg_from ts 0 _ h sg_lit) sg_lit
theorem sg_joinL {s : List Nat} (hs : ∀ c ∈ s, c < 0x110000) : ∀ l : List (List Nat), (∀ t ∈ l, ∀ c ∈ t, c < 0x110000) → ∀ c ∈ TL.joinL s l, c < 0x110000
  | [], _, c, hc => by cases hc
  | [p], h, c, hc => h p (by simp) c hc
  | p :: q :: r, h, c, hc => by
    have hc : c ∈ p ++ (s ++ TL.joinL s (q :: r)) := hc
    rcases List.mem_append.mp hc with z | z
    · exact h p (by simp) c z
    · rcases List.mem_append.mp z with z | z
      · exact hs c z
      · exact sg_joinL hs (q :: r) (fun t ht => h t (by simp at ht ⊢; exact .inr ht)) c z
theorem sg_tuple {ts : List PySem.Str} (h : ∀ t ∈ ts, SgOk t) : SgOk (tupleText ts) := by
  unfold tupleText
  refine sg_app (sg_app sg_lit ?_) ?_
  · intro c hc
    have e : (PySem.Str.join ", " ts).cps.toList = TL.joinL (TL.tl ", ") (ts.map TL.tl) := TL.tl_join ", " ts
    rw [e] at hc
    refine sg_joinL (fun c hc => ?_) _ (fun t ht c hc => ?_) c hc
    · have : c ∈ [44, 32] := hc
      simp at this
      rcases this with rfl | rfl <;> decide
    · obtain ⟨u, hu, rfl⟩ := List.mem_map.mp ht
      exact h u hu c hc
  · split
    · exact sg_lit
    · exact sg_lit
mutual
theorem sg_shown : ∀ d : PyData, d.canLay0 = true → SgOk d.shown
  | .none, _ => by
    show SgOk (PyData.shown .none)
    simp only [PyData.shown]
    exact sg_lit
  | .bool b, _ => by
    simp only [PyData.shown]
    cases b
    · exact sg_lit
    · exact sg_lit
  | .int i, _ => by
    simp only [PyData.shown]
    exact sg_int i
  | .str x, h => by
    simp only [PyData.shown]
    exact sg_repr (sg_iff.mp h)
  | .list xs, h => by
    simp only [PyData.shown]
    exact sg_list (sg_shownAll xs h)
  | .tuple xs, h => by
    simp only [PyData.shown]
    exact sg_tuple (sg_shownAll xs h)
  | .dict _, h => by cases h
theorem sg_shownAll : ∀ ds : List PyData, PyData.canLayAll0 ds = true → ∀ t ∈ PyData.shownAll ds, SgOk t
  | [], _, t, ht => by simp only [PyData.shownAll] at ht; cases ht
  | d :: ds, h, t, ht => by
    simp only [PyData.shownAll] at ht
    have h2 : d.canLay0 = true ∧ PyData.canLayAll0 ds = true := Bool.and_eq_true_iff.mp h
    rcases List.mem_cons.mp ht with rfl | ht
    · exact sg_shown d h2.1
    · exact sg_shownAll ds h2.2 t ht
end
theorem shaped_shown {d : PyData} (h : d.canLay0 = true) : SeqAt.shaped (.str d.shown) = true := by
  have e : PyData.strOk d.shown = true := sg_iff.mpr (sg_shown d h)
  show (PyData.strOk d.shown && decide (0 ≤ 64)) = true
  rw [e]
  rfl
end FR
set_option maxRecDepth 100000
set_option maxHeartbeats 4000000
namespace FR
open PySem PySem.Spec PyProof.Rows L2
/-! ### defs that make lambdas -/
def LmD (K : PySem.W.Frag) (mg : Str → Option Value) (base : Heap) (x : Str) (P0 : Addr) : Prop := ∀ (f c : Addr) (fd : FuncData), mg x = some (.ref f) → Lk K f fd → fd.code = .ref c → LamX.TabB base mg c P0
def spL1 (K : PySem.W.Frag) (T : List (Addr × Str)) (P : PyData → Prop) (R : PyData → PyData → Prop) : Sp := fun vs H Q _ =>
  ∃ (Y : Vol) (v : V) (Hi : Hp) (d : PyData), vs = [v] ∧ Y.Lam T ∧ Pre Y Hi H ∧ Da K Hi v d ∧ P d ∧ ∀ u e Hi' H', Fr Y Hi H Hi' H' → Da K Hi' u e → R d e → Q u H'
def spLW (K : PySem.W.Frag) (T : List (Addr × Str)) (R : PyData → Prop) : Sp := fun vs H Q _ =>
  ∃ (Y : Vol) (a : Addr) (Hi : Hp), vs = [.ref a] ∧ Y.Well a ∧ Y.Lam T ∧ Pre Y Hi H ∧ ∀ u e Hi' H', Fr Y Hi H Hi' H' → Da K Hi' u e → R e → Q u H'
section
variable {Pg : Program} {w : World} {K : PySem.W.Frag} {mg : Str → Option Value} {base : Heap} {k : Nat} {x : Str} {N : List Str} {st : Stmt} {p1 : Str} {T : List (Addr × Str)} {P0 : Addr}
theorem kng_ofL1 {P : PyData → Prop} {R : PyData → PyData → Prop} (D : Dn K mg x st [p1]) (S : FnScope N [p1] (defScope st)) (hN : 1 ≤ N.length) (lm : LmD K mg base x P0)
    (body : ∀ (f c : Addr) (cdv : Value) (A : Around) (outer : List Env) (s : Shared) (H : Hp) (E : XK), (A.deeper (envOfC x (defScope st) s.heap.objs.size f cdv)).guards = some [] → Room k (A.deeper (envOfC x (defScope st) s.heap.objs.size f cdv)) → (A.deeper (envOfC x (defScope st) s.heap.objs.size f cdv)).units + 64 < cLine → cdv = .ref c → LamX.TabB base mg c P0 →
      ∃ t, PSs (cxOf CX0 Pg w K mg base N x (defScope st) f cdv A outer s H E).nox (defBody st) t ∧ ∀ (Y : Vol) (d : PyData), Y.Lam T → P d → StS Y K (.dat d :: List.replicate (N.length - 1) .unk) t { nx := fun _ => R d .none, rt := R d }) :
    KnG Pg w K mg base (k + 1) x [p1] (spL1 K T P R) := by
  obtain ⟨f, fd, F, g, b⟩ := D
  have lk := lk_of F
  refine ⟨f, fd, fun_okG F S (fun vs H Q E h => by obtain ⟨_, _, _, _, e, _⟩ := h; rw [e]; rfl) (fun cdv A outer s H vs Q E hG hr hcd hlk h => ?_), g, F.kp, b, lk⟩
  obtain ⟨c, ec⟩ := He.codeIn_ref hcd
  obtain ⟨oc, od, an, kV, doc, pm, ct, osl, l2⟩ := hlk
  have tb : LamX.TabB base mg c P0 := lm f c _ g ⟨oc, od, osl, l2⟩ ec
  obtain ⟨t, ht, hs⟩ := body f c cdv A outer s H E hG hr (by have := hr.un; omega) ec tb
  obtain ⟨Y, v, Hi, d, rfl, hL, p, hd, hp, q⟩ := h
  refine ⟨t, ht.nox, hs Y d hL hp Hi H Hi H _ (st0 (vs := [_]) p hN ?_ fun i e hi => ?_) _ (fun Hi' H' σ' es' _ s' o => q _ _ Hi' H' s'.fr .non o) (fun _ _ _ _ _ _ o => o.elim) (fun _ _ _ _ _ _ o => o.elim) (fun v d Hi' H' f hv o => q v d Hi' H' f hv o)⟩
  · rw [List.length_cons, List.length_replicate]
    omega
  · cases i with
    | zero =>
      cases hi
      exact .inr ⟨v, rfl, .inl ⟨d, rfl, hd⟩⟩
    | succ i =>
      rw [List.getElem?_cons_succ] at hi
      obtain ⟨_, e⟩ := List.getElem?_eq_some_iff.mp hi
      rw [List.getElem_replicate] at e
      exact .inl e.symm
theorem kng_ofLW {R : PyData → Prop} (D : Dn K mg x st [p1]) (S : FnScope N [p1] (defScope st)) (hN : 1 ≤ N.length)
    (body : ∀ (f : Addr) (cdv : Value) (A : Around) (outer : List Env) (s : Shared) (H : Hp) (E : XK), (A.deeper (envOfC x (defScope st) s.heap.objs.size f cdv)).guards = some [] → Room k (A.deeper (envOfC x (defScope st) s.heap.objs.size f cdv)) → (A.deeper (envOfC x (defScope st) s.heap.objs.size f cdv)).units + 64 < cLine →
      ∃ t, PSs (cxOf CX0 Pg w K mg base N x (defScope st) f cdv A outer s H E).nox (defBody st) t ∧ ∀ (Y : Vol) (a : Addr), Y.Well a → Y.Lam T → StS Y K (.raw (.ref a) :: List.replicate (N.length - 1) .unk) t { nx := fun _ => R .none, rt := R }) :
    KnG Pg w K mg base (k + 1) x [p1] (spLW K T R) := by
  obtain ⟨f, fd, F, g, b⟩ := D
  have lk := lk_of F
  refine ⟨f, fd, fun_okG F S (fun vs H Q E h => by obtain ⟨_, _, _, e, _⟩ := h; rw [e]; rfl) (fun cdv A outer s H vs Q E hG hr hcd hlk h => ?_), g, F.kp, b, lk⟩
  obtain ⟨t, ht, hs⟩ := body f cdv A outer s H E hG hr (by have := hr.un; omega)
  obtain ⟨Y, a, Hi, rfl, hW, hL, p, q⟩ := h
  refine ⟨t, ht.nox, hs Y a hW hL Hi H Hi H _ (st0 (vs := [_]) p hN ?_ fun i e hi => ?_) _ (fun Hi' H' σ' es' _ s' o => q _ _ Hi' H' s'.fr .non o) (fun _ _ _ _ _ _ o => o.elim) (fun _ _ _ _ _ _ o => o.elim) (fun v d Hi' H' f hv o => q v d Hi' H' f hv o)⟩
  · rw [List.length_cons, List.length_replicate]
    omega
  · cases i with
    | zero =>
      cases hi
      exact .inr ⟨_, rfl, .inr rfl⟩
    | succ i =>
      rw [List.getElem?_cons_succ] at hi
      obtain ⟨_, e⟩ := List.getElem?_eq_some_iff.mp hi
      rw [List.getElem_replicate] at e
      exact .inl e.symm
end
section
variable {Y : Vol} {K : PySem.W.Frag} {es : List Ent} {ta : TE} {T : List (Addr × Str)} {E : XK}
theorem ev_cL1 {P : PyData → Prop} {R : PyData → PyData → Prop} {Pa : PyData → Prop} (hL : Y.Lam T) (ha : EvD Y K es ta Pa) (hp : ∀ x, Pa x → P x) : EvD Y K es (tCall (spL1 K T P R) [] E (tCons ta tNil)) (fun e => ∃ d, Pa d ∧ R d e) := fun H0i H0 Hi H σ s Q q =>
  ha H0i H0 Hi H σ s _ fun v d Hi1 H1 f1 hd pd => ⟨Y, v, Hi1, d, rfl, hL, f1.pre, hd, hp d pd, fun u e Hi' H' f hu r => q u e Hi' H' (f1.trans f) hu ⟨d, pd, r⟩⟩
theorem ev_cLW {R : PyData → Prop} {i : Nat} {a : Addr} (hi : es[i]? = some (.raw (.ref a))) (hW : Y.Well a) (hL : Y.Lam T) : EvD Y K es (tCall (spLW K T R) [] E (tCons (tVar i) tNil)) R := fun H0i H0 Hi H σ s Q q => by
  obtain ⟨x, e1, hx⟩ := s.env i _ hi
  cases hx
  exact ⟨.ref a, e1, Y, a, Hi, rfl, hW, hL, s.pre, fun u e Hi' H' f hu r => q u e Hi' H' f hu r⟩
end
/-! a lambda handed to _law_caught -/
section
variable {X : Cx}
theorem pe_cgt {T : List (Addr × Str)} {st : Stmt} {Ng : List Str} {c P0 : Addr} {k : Nat} {params : Arguments} {body : Expr} {scope : Scope} {t : XK → TE} {p lpos pos : Pos} {TT : (XK → Hp → VK → Prop) → Hp → VK → Prop} (D : Dn X.K X.mg "_law_caught" st ["act"]) (Sg : FnScope Ng (["act"] : List Str) (defScope st)) (hva : Vis (defScope st) "act")
    (gives : ∀ (g : Addr) (cdg : Value), LamX.GivesTo X Ng "_law_caught" (defScope st) g cdg (defBody st) "act" (X.env.qual ++ "<lambda>") TT) (TB : LamX.TabB X.base X.mg c P0) (hcode : X.env.code = .ref c) (hmT : (P0, X.env.qual ++ "<lambda>") ∈ T) (hu : ∀ p ∈ T, p.1 = P0 → p.2 = X.env.qual ++ "<lambda>") (hr : Room (k + 2) X.A)
    (L : LamX.LamS X.env.scope scope) (hdef : defaultsOf params X.env = ([], []))
    (hbind : ∀ (q : Str) (cl : List (Str × Addr)) (pm cv ctv : Value), bindArgs (PySem.W.kla_fn "<lambda>" q params body scope cl pm cv ctv) ⟨[], []⟩ = pure [])
    (hbody : ∀ (A : Around) (outer : List Env) (s : Shared) (H : Hp) (E : XK) (f c' : Addr), Room k (A.deeper (LamX.lamEnv X scope s.heap.objs.size f c')) → PE (LamX.lamCx X A outer s H E scope f c') body (t E)) (hg : Gl X "_law_caught" := by rfl) :
    PE X (.Call (.Name "_law_caught" p) [.Lambda params body scope lpos] [] pos) (LamX.tLam T TT t) := by
  obtain ⟨f, fd, F, g, b⟩ := D
  obtain ⟨oc, od, kV, doc, pm, an, cdv, ct, osl, rfl, lk, hcd⟩ := F.ex
  have hN0 : Ng[0]? = some ("act" : Str) := by
    have h := Sg.pre
    cases Ng with
    | nil => cases h
    | cons a r =>
      have h : a :: r.take 0 = (["act"] : List Str) := h
      injection h with h1 _
      rw [h1]
      rfl
  exact LamX.pe_lamcall (dV := .none) hg g F.kp lk hcd b Sg hN0 hva (gives f cdv) TB hcode hmT hu hr L hdef hbind hbody
end
/-! ### the law's last row: each well's own answer -/
def addW (Y : Vol) (ws : List Addr) (h : ∀ a ∈ ws, ¬ Y.W a) : Vol where
  W := fun b => Y.W b ∨ b ∈ ws
  I := fun H => Y.I H ∧ ∀ a ∈ ws, ∃ o, H a = some o ∧ IsWO o
  stable := fun H H' e i => ⟨Y.stable H H' (fun b o q z => e b o q (by rcases z with z | z; exact .inl (.inl z); exact .inr z)) i.1, fun a ha => by
    obtain ⟨o, h1, h2⟩ := i.2 a ha
    exact ⟨o, e a o h1 (.inl (.inr ha)), h2⟩⟩
  there := fun H b z i => by
    rcases z with z | z
    · exact Y.there H b z i.1
    · obtain ⟨o, h1, _⟩ := i.2 b z
      rw [h1]
      exact fun q => nomatch q
theorem isWO_lst {o : HO} (h : IsWO o) : ∃ xs, o = .lst xs := by
  obtain ⟨s, d, c, e, _⟩ := h
  exact ⟨_, e⟩
theorem addW_well {Y : Vol} {ws : List Addr} {h : ∀ a ∈ ws, ¬ Y.W a} {a : Addr} (ha : a ∈ ws) : (addW Y ws h).Well a where
  w := .inr ha
  is_ := fun H i => i.2 a ha
  put := fun H o ho i => by
    obtain ⟨o0, h0, w0⟩ := i.2 a ha
    obtain ⟨xs, rfl⟩ := isWO_lst w0
    refine ⟨Y.stable H _ (fun b u q z => ?_) i.1, fun b hb => ?_⟩
    · have hne : b ≠ a := fun e => by
        subst e
        rw [h0] at q
        cases q
        rcases z with z | z | ⟨_, z⟩
        · exact h b ha z
        · exact not_tb_lst z
        · cases z
      rw [upd_ne hne]
      exact q
    · by_cases e : b = a
      · subst e
        exact ⟨o, upd_same, ho⟩
      · rw [upd_ne e]
        exact i.2 b hb
theorem addW_lam {Y : Vol} {ws : List Addr} {h : ∀ a ∈ ws, ¬ Y.W a} {T : List (Addr × Str)} (hL : Y.Lam T) : (addW Y ws h).Lam T where
  tab := fun H i => hL.tab H i.1
  put := fun H H1 e t i => ⟨hL.put H H1 e t i.1, fun a ha => by
    obtain ⟨o, h1, h2⟩ := i.2 a ha
    obtain ⟨xs, rfl⟩ := isWO_lst h2
    exact ⟨_, e a _ h1 (fun ps z => by cases z), h2⟩⟩
theorem setRaw {j : Nat} {Y : Vol} {K : PySem.W.Frag} {H0i H0 Hi H : Hp} {σ : L2.St} {es : List Ent} (s : StIs Y K H0i H0 Hi H (σ.set j none) (es.set j .unk)) {v : V} (hj : j < (σ.set j none).length) : StIs Y K H0i H0 Hi H ((wipe σ [j]).set j (some v)) (es.set j (.raw v)) := by
  have hle : j < es.length := by
    have := s.len
    rw [List.length_set, List.length_set] at this
    rw [List.length_set] at hj
    omega
  refine ⟨s.fr, ?_, fun i e h => ?_, fun i k a ds ds' hik h1 h2 h3 => ?_⟩
  · have := s.len
    show ((σ.set j none).set j (some v)).length = _
    rw [List.length_set, this, List.length_set, List.length_set]
  · by_cases hi : j = i
    · subst hi
      rw [List.getElem?_set_self hle] at h
      cases h
      refine ⟨some v, ?_, rfl⟩
      show ((σ.set j none).set j (some v))[j]? = _
      rw [List.getElem?_set_self hj]
    · rw [List.getElem?_set_ne hi] at h
      have := s.env i e (by rw [List.getElem?_set_ne hi]; exact h)
      obtain ⟨x, h4, h5⟩ := this
      refine ⟨x, ?_, h5⟩
      show ((σ.set j none).set j (some v))[i]? = _
      rw [List.getElem?_set_ne hi]
      exact h4
  · have ne1 : j ≠ i := fun q => by
      subst q
      rw [List.getElem?_set_self hle] at h1
      cases h1
    have ne2 : j ≠ k := fun q => by
      subst q
      rw [List.getElem?_set_self hle] at h2
      cases h2
    rw [List.getElem?_set_ne ne1] at h1
    rw [List.getElem?_set_ne ne2] at h2
    have h3 : ((σ.set j none).set j (some v))[i]? = some (some (.ref a)) := h3
    rw [List.getElem?_set_ne ne1] at h3
    show ((σ.set j none).set j (some v))[k]? ≠ _
    rw [List.getElem?_set_ne ne2]
    exact s.dis i k a ds ds' hik (by rw [List.getElem?_set_ne ne1]; exact h1) (by rw [List.getElem?_set_ne ne2]; exact h2) h3
def wellD (d : PyData) : Prop := ∃ s t c : Int, d = .list [.int s, .int t, .int c] ∧ 0 ≤ s ∧ s < 2147483629 ∧ 0 ≤ t ∧ 0 ≤ c
theorem ret_wells {Y : Vol} {K : PySem.W.Frag} {H0i H0 Hi H : Hp} {σ : L2.St} {es : List Ent} {T : List (Addr × Str)} {tw : TE} {j : Nat} {E : XK} {Dn : Ends} (s : StIs Y K H0i H0 Hi H σ es) (hj : j < σ.length) (hL : Y.Lam T)
    (hw : EvD Y K es tw (fun d => ∃ ds, d = .list ds ∧ ds.length ≤ 100 ∧ ∀ x ∈ ds, wellD x)) (hrt : ∀ H', Dn.rt (.bl true) H') : tRet (tCB (rAll K) (tCons (tLc (iSeqU K tw) (gName j) tYes (tCall (spLW K T (· = .bool true)) [] E (tCons (tVar j) tNil)) [j]) tNil)) Dn σ H := by
  refine .inl (.inl ?_)
  refine hw H0i H0 Hi H σ s _ fun v d Hi1 H1 f1 hv ⟨ds, e, hl, hds⟩ => ?_
  subst e
  cases hv with
  | @lst La xs _ ha hxs =>
    -- the wells' places
    have wat : ∀ x ∈ xs, ∃ a, x = .ref a ∧ ∃ o, Hi1 a = some o ∧ IsWO o := fun x hx => by
      obtain ⟨i, hi⟩ := List.getElem?_of_mem hx
      obtain ⟨d, h1, h2⟩ := hxs.get' hi
      obtain ⟨sv, tv, cv, rfl, g1, g2, g3, g4⟩ := hds d (List.mem_of_getElem? h1)
      cases h2 with
      | @lst a ys _ ha hys =>
        have e2 : ys = ([sv, tv, cv] : List Int).map V.int := DaAll.ints (ns := [sv, tv, cv]) hys
        exact ⟨a, rfl, _, ha, sv, tv, cv, by rw [e2]; rfl, g1, g2, g3, g4⟩
    obtain ⟨ws, hws⟩ : ∃ ws : List Addr, xs = ws.map V.ref := by
      clear ha hxs
      induction xs with
      | nil => exact ⟨[], rfl⟩
      | cons x xs ih =>
        obtain ⟨a, rfl, _⟩ := wat x (by simp)
        obtain ⟨ws, rfl⟩ := ih fun y hy => wat y (by simp [hy])
        exact ⟨a :: ws, rfl⟩
    subst hws
    have wat2 : ∀ a ∈ ws, ∃ o, Hi1 a = some o ∧ IsWO o := fun a h => by
      obtain ⟨a', e, o, h1, h2⟩ := wat (.ref a) (List.mem_map.mpr ⟨a, h, rfl⟩)
      cases e
      exact ⟨o, h1, h2⟩
    have noW : ∀ a ∈ ws, ¬ Y.W a := fun a h => by
      obtain ⟨o, h1, _⟩ := wat2 a h
      exact (f1.out a o h1).1
    have LaW : La ∉ ws := fun h => by
      obtain ⟨o, h1, s0, d0, c0, h2, _⟩ := wat2 La h
      rw [ha] at h1
      cases h1
      cases ws with
      | nil => cases h
      | cons a r =>
        rw [List.map_cons] at h2
        injection h2 with h2
        injection h2 with h2
        cases h2
    have LaY : ¬ (addW Y ws noW).W La := fun z => by
      rcases z with z | z
      · exact (f1.out La _ ha).1 z
      · exact LaW z
    -- what stands, without the wells
    have pre : Pre (addW Y ws noW) (fun b => if b ∈ ws then none else Hi1 b) H1 := by
      refine ⟨fun b o h => ?_, ⟨f1.inv, fun a h => ?_⟩, fun b o h => ?_⟩
      · have h : (if b ∈ ws then none else Hi1 b) = some o := h
        split at h
        · cases h
        · exact f1.sub b o h
      · obtain ⟨o, h1, h2⟩ := wat2 a h
        exact ⟨o, f1.sub a o h1, h2⟩
      · have h : (if b ∈ ws then none else Hi1 b) = some o := h
        split at h
        · cases h
        · rename_i hb
          refine ⟨fun z => ?_, (f1.out b o h).2⟩
          rcases z with z | z
          · exact (f1.out b o h).1 z
          · exact hb z
    have st : StIs (addW Y ws noW) K (fun b => if b ∈ ws then none else Hi1 b) H1 (fun b => if b ∈ ws then none else Hi1 b) H1 σ (List.replicate σ.length .unk) := by
      refine ⟨Fr.refl pre, by rw [List.length_replicate], fun i e h => ?_, fun i j a ds ds' _ h1 _ _ => ?_⟩
      · have hi : i < σ.length := by
          have := (List.getElem?_eq_some_iff.mp h).1
          rwa [List.length_replicate] at this
        obtain ⟨_, e2⟩ := List.getElem?_eq_some_iff.mp h
        rw [List.getElem_replicate] at e2
        subst e2
        exact ⟨_, List.getElem?_eq_getElem hi, trivial⟩
      · obtain ⟨_, e2⟩ := List.getElem?_eq_some_iff.mp h1
        rw [List.getElem_replicate] at e2
        cases e2
    refine ⟨La, rfl, ⟨_, .inl (.inl (f1.sub _ _ ha))⟩, fun Dl hD => ?_⟩
    refine lc_list (xs := ws.map V.ref) (fun k H' => LcW (addW Y ws noW) K (fun b => if b ∈ ws then none else Hi1 b) H1 Dl (fun ys => ys = List.replicate k (.bool true)) H') (LcW.init pre hD rfl) (fun k H' _ ⟨Hi', vs, ys, f, _⟩ => .inl (.inl (f.keep _ _ (f1.sub _ _ ha) LaY not_tb_lst))) (fun k x H' hx w => ⟨wipe1 σ _, ?_⟩) (fun H' w => ?_)
    · obtain ⟨a, hm, rfl⟩ : ∃ a, a ∈ ws ∧ x = .ref a := by
        obtain ⟨a, h1, h2⟩ := List.mem_map.mp (List.mem_of_getElem? hx)
        exact ⟨a, h1, h2.symm⟩
      have hk : k < 100 := by
        have := (List.getElem?_eq_some_iff.mp hx).1
        have h2 := hxs.len
        omega
      exact LcW.turn (n := k) (es' := (List.replicate σ.length Ent.unk).set j (.raw (.ref a))) st hD w (fun ys e => by rw [e, List.length_replicate]; exact Nat.le_refl _) (by omega) (Same.refl _)
        (fun Hi' sm f => by
          have s3 := (st.step f).setUnk (i := j) (x := none)
          exact setRaw s3 (by rw [List.length_set]; exact hj)) (fun Hi' f => f.hi) tb_yes (fun _ => ev_cLW (by rw [List.getElem?_set_self (by rw [List.length_replicate]; exact hj)]) (addW_well hm) (addW_lam hL))
        (fun ys y e _ ey => by rw [e, ey, List.replicate_succ']) (fun ys e q => by cases q)
    · obtain ⟨Hi', vs, ys, f, d1, d2, d3, rr⟩ := w
      subst rr
      have e2 : (List.replicate (ws.map V.ref).length (PyData.bool true)) = (List.replicate (ws.map V.ref).length true).map PyData.bool := by rw [List.map_replicate]
      rw [e2] at d3
      have e3 := DaAll.bools d3
      subst e3
      refine ⟨Dl, _, rfl, .inl (.inl d2), ?_⟩
      have e4 : (List.replicate (ws.map V.ref).length true).all id = true := by
        apply List.all_eq_true.mpr
        intro b hb
        rw [List.eq_of_mem_replicate hb]
        rfl
      rw [e4]
      exact hrt H'
end FR
set_option maxRecDepth 100000
set_option maxHeartbeats 4000000
namespace FR
open PySem PySem.Spec PyProof.Rows L2 PySem.Builtin PySem.Builtin.Str
/-! ### the lambdas of this law -/
def lamT (P1 P2 : Addr) : List (Addr × Str) := [(P1, "_law_lettered.<locals>.<lambda>"), (P2, "law.<locals>.<lambda>")]
section
variable {P1 P2 : Addr}
theorem lamT_1 : (P1, ("_law_lettered.<locals>." : Str) ++ "<lambda>") ∈ lamT P1 P2 := by
  have e : ("_law_lettered.<locals>." : Str) ++ "<lambda>" = "_law_lettered.<locals>.<lambda>" := by decide
  rw [e]
  exact .head _
theorem lamT_2 : (P2, ("law.<locals>." : Str) ++ "<lambda>") ∈ lamT P1 P2 := by
  have e : ("law.<locals>." : Str) ++ "<lambda>" = "law.<locals>.<lambda>" := by decide
  rw [e]
  exact .tail _ (.head _)
theorem lamT_o1 (h : P1 ≠ P2) : ∀ p ∈ lamT P1 P2, p.1 = P1 → p.2 = ("_law_lettered.<locals>." : Str) ++ "<lambda>" := by
  intro p hp e
  rcases List.mem_cons.mp hp with rfl | hp
  · show ("_law_lettered.<locals>.<lambda>" : Str) = _
    decide
  · rw [List.mem_singleton.mp hp] at e
    exact absurd e.symm h
theorem lamT_o2 (h : P1 ≠ P2) : ∀ p ∈ lamT P1 P2, p.1 = P2 → p.2 = ("law.<locals>." : Str) ++ "<lambda>" := by
  intro p hp e
  rcases List.mem_cons.mp hp with rfl | hp
  · exact absurd e h
  · rw [List.mem_singleton.mp hp]
    show ("law.<locals>.<lambda>" : Str) = _
    decide
end
/-! ### words that may be shown -/
def WsOk (n : Nat) (ws : List (List Nat)) : Prop := ∀ v ∈ ws, WOk v ∧ v.length ≤ n
theorem okC_sign {l : Option Nat} {c : Nat} (h : okC l c = true) : c = 98 ∨ c = 111 ∨ c = 102 := by
  unfold okC at h
  simp only [Bool.or_eq_true, Bool.and_eq_true, beq_iff_eq] at h
  rcases h with (h | h) | ⟨h, _⟩
  · exact .inl h
  · exact .inr (.inr h)
  · exact .inr (.inl h)
theorem sgw {u : List Nat} (h : WOk u) : ∀ c ∈ u, c = 98 ∨ c = 111 ∨ c = 102 := by
  induction h with
  | nil => intro c hc; cases hc
  | snoc _ hc ih =>
    intro x hx
    rcases List.mem_append.mp hx with z | z
    · exact ih x z
    · rw [List.mem_singleton.mp z]
      exact okC_sign hc
theorem lay_dS {u : List Nat} (h : ∀ c ∈ u, c = 98 ∨ c = 111 ∨ c = 102) : (dS u).canLay0 = true := by
  show PyData.strOk (SX.S u) = true
  refine sg_iff.mpr fun c hc => ?_
  have hc : c ∈ u := by simpa [SX.S] using hc
  rcases h c hc with rfl | rfl | rfl <;> decide
theorem shn_dS {u : List Nat} (h : ∀ c ∈ u, c = 98 ∨ c = 111 ∨ c = 102) (hl : u.length ≤ 1000) : Shn (dS u) := by
  refine ⟨?_, .inl rfl, (by show 0 ≤ 60; omega), ?_⟩
  · show PyData.showable (.str (SX.S u)) = true
    simp only [PyData.showable]
  · have := StrLaws.reprText_len (SX.S u) fun c hc => ?_
    · have e1 : (SX.S u).length = u.length := SX.S_len u
      have e2 : (PyData.shown (.str (SX.S u))) = reprText (SX.S u) := by simp only [PyData.shown]
      show (PyData.shown (.str (SX.S u))).length ≤ _
      rw [e2]
      exact Nat.le_trans this (by rw [e1]; omega)
    · have hc : c ∈ u := by simpa [SX.S] using hc
      rcases h c hc with rfl | rfl | rfl <;> decide
theorem told_shaped {u : List Nat} (h : ∀ c ∈ u, c = 98 ∨ c = 111 ∨ c = 102) : SeqAt.shaped (toldD (dS u)) = true := toldShaped (shaped_shown (lay_dS h))
theorem told_eqv {u : List Nat} (h : ∀ c ∈ u, c = 98 ∨ c = 111 ∨ c = 102) : PyData.eqv (toldD (dS u)) (toldD (dS u)) = true := SeqAt.eqv_refl _ (Bool.and_eq_true_iff.mp (told_shaped h)).1
theorem word_signs {ns : List Int} : ∀ c ∈ wordOf ns, c = 98 ∨ c = 111 ∨ c = 102 := by
  intro c hc
  obtain ⟨l, hl, hc⟩ := List.mem_flatten.mp hc
  obtain ⟨n, _, rfl⟩ := List.mem_map.mp hl
  unfold pieceW at hc
  split at hc
  · rcases List.mem_cons.mp hc with z | z
    · exact .inl z
    · exact .inr (.inl (List.eq_of_mem_replicate z))
  · exact .inr (.inr (List.eq_of_mem_replicate hc))
end FR
set_option maxRecDepth 100000
set_option maxHeartbeats 4000000
namespace FR
open PySem PySem.Spec PyProof.Rows L2
/-! ### what a law is entered with: the script, the tables of its lambdas -/
def lawVol (T : List (Addr × Str)) (o : Option (Addr × HO)) : Vol where
  W := fun b => ∃ u, o = some (b, u)
  I := fun H => LamX.Tabs T H ∧ ∀ p, o = some p → H p.1 = some p.2
  stable := fun H H' e i => ⟨fun p hp => by
    obtain ⟨ps, h1, h2, h3⟩ := i.1 p hp
    refine ⟨ps, e _ _ h1 (.inr (.inl ⟨ps, rfl⟩)), h2, fun pos cv hc => ?_⟩
    obtain ⟨c, e1, e2⟩ := h3 pos cv hc
    exact ⟨c, e1, e _ _ e2 (.inr (.inr ⟨_, rfl⟩))⟩, fun p hp => e _ _ (i.2 p hp) (.inl ⟨p.2, hp⟩)⟩
  there := fun H b ⟨u, hu⟩ i => by
    have := i.2 _ hu
    have this : H b = some u := this
    rw [this]
    exact fun q => nomatch q
theorem lawVol_lam {T : List (Addr × Str)} {o : Option (Addr × HO)} (ho : ∀ p, o = some p → ∀ ps, p.2 ≠ .tbl ps) : (lawVol T o).Lam T where
  tab := fun H i => i.1
  put := fun H H1 e t i => ⟨t, fun p hp => e _ _ (i.2 p hp) (ho p hp)⟩
def spLaw (K : PySem.W.Frag) (T : List (Addr × Str)) : Sp := fun vs H Q _ => ∃ (a : Addr) (ns : List Int), vs = [.ref a] ∧ ns.length ≤ 63 ∧ (∀ p ∈ T, H p.1 = some (.tbl #[])) ∧ SqL K H a (ns.map V.int) ∧ ∀ H', Q (.bl true) H'
theorem law_start {K : PySem.W.Frag} {T : List (Addr × Str)} {H : Hp} {a : Addr} {ns : List Int} (hT : ∀ p ∈ T, H p.1 = some (.tbl #[])) (hS : SqL K H a (ns.map V.int)) : ∃ Y : Vol, Y.Lam T ∧ Y.Scr K a ns ∧ Pre Y (fun _ => none) H := by
  have hTb : LamX.Tabs T H := fun p hp => ⟨#[], hT p hp, by trivial, fun pos cv hc => by cases hc⟩
  have case1 : ∀ u : HO, H a = some u → (∀ ps, u ≠ .tbl ps) → (∀ H', H' a = some u → SqL K H' a (ns.map V.int)) → ∃ Y : Vol, Y.Lam T ∧ Y.Scr K a ns ∧ Pre Y (fun _ => none) H := fun u hu hn hs =>
    ⟨lawVol T (some (a, u)), lawVol_lam (fun p hp ps e => by cases hp; exact hn ps e), fun H' i => hs H' (i.2 _ rfl), ⟨fun _ _ z => (nomatch z), ⟨hTb, fun p hp => by cases hp; exact hu⟩, fun _ _ z => (nomatch z)⟩⟩
  rcases hS with h | h
  · rcases h with h | ⟨o, h⟩
    · exact case1 _ h (fun _ z => nomatch z) fun H' h' => .inl (.inl h')
    · exact case1 _ h (fun _ z => nomatch z) fun H' h' => .inl (.inr ⟨o, h'⟩)
  · exact ⟨lawVol T none, lawVol_lam (fun p hp => nomatch hp), fun H' i => .inr h, ⟨fun _ _ z => (nomatch z), ⟨hTb, fun p hp => (nomatch hp)⟩, fun _ _ z => (nomatch z)⟩⟩
theorem law_read {Y : Vol} {K : PySem.W.Frag} {T : List (Addr × Str)} {H : Hp} {a : Addr} {N : List Str} {Q : VK} {nx : L2.St → Hp → Prop} {bk ct : L2.St → Hp → Prop} {t1 : TS} {tw : TE} {j : Nat} {E : XK} (hN : 1 ≤ N.length) (hj : j < N.length) (hL : Y.Lam T) (p : Pre Y (fun _ => none) H)
    (hl : StS Y K (.raw (.ref a) :: List.replicate (N.length - 1) .unk) t1 { nx := fun e => EvD Y K e tw (fun d => ∃ ds, d = .list ds ∧ ds.length ≤ 100 ∧ ∀ x ∈ ds, wellD x) ∧ e.length = N.length, rt := fun _ => False }) (hQ : ∀ H', Q (.bl true) H') :
    tSeq t1 (tRet (tCB (rAll K) (tCons (tLc (iSeqU K tw) (gName j) tYes (tCall (spLW K T (· = .bool true)) [] E (tCons (tVar j) tNil)) [j]) tNil))) { nx := nx, bk := bk, ct := ct, rt := Q } (L2.start N [.ref a]) H := by
  refine hl (fun _ => none) H (fun _ => none) H _ (st0 (vs := [_]) p hN ?_ fun i e hi => ?_) _ (fun Hi' H' σ' es' _ s' ⟨o, hle⟩ => ret_wells s' (by rw [s'.len, hle]; exact hj) hL o hQ) (fun _ _ _ _ _ _ o => o.elim) (fun _ _ _ _ _ _ o => o.elim) (fun _ _ _ _ _ _ o => o.elim)
  · rw [List.length_cons, List.length_replicate]
    omega
  · match i, hi with
    | 0, hi =>
      cases hi
      exact .inr ⟨_, rfl, .inr rfl⟩
    | i + 1, hi =>
      rw [List.getElem?_cons_succ] at hi
      obtain ⟨_, e⟩ := List.getElem?_eq_some_iff.mp hi
      rw [List.getElem_replicate] at e
      exact .inl e.symm
/-! ### the end: a law whose def is told that nothing guards a repr -/
section
variable {P : Program} {w : World} {K : PySem.W.Frag} {mg mb : Str → Option Value} {k : Nat} {fa a : Addr} {cs : List (Addr × Addr)} {fd : FuncData} {x : Str} {sp : Sp} {s₁ : Shared} {vs : List Value} {ns : List Int}
/-- what is tracked when the law is entered -/
def entH (K : PySem.W.Frag) (cs : List (Addr × Addr)) (a : Addr) (vs : List Value) (ns : List Int) : Hp := fun b => if b ∈ cs.map (·.2) then some (.tbl #[]) else if b = a ∧ K.lookup a = none then some (.frz { cls := .type "list", data := .seq vs.toArray } (.lst (ns.map V.int))) else none
theorem entH_cases {b : Addr} {u : HO} (h : entH K cs a vs ns b = some u) : (b ∈ cs.map (·.2) ∧ u = .tbl #[]) ∨ (b = a ∧ K.lookup a = none ∧ u = .frz { cls := .type "list", data := .seq vs.toArray } (.lst (ns.map V.int))) := by
  unfold entH at h
  split at h
  · next hb => cases h; exact .inl ⟨hb, rfl⟩
  · split at h
    · next hb => cases h; exact .inr ⟨hb.1, hb.2, rfl⟩
    · cases h
theorem callG (KX : K.In s₁.heap) (hns : s₁.heap.Ns mainGlobals mg) (hb : s₁.heap.Ns builtinsNs mb) (hbb : ∀ x : Str, x ≠ "__name__" → mb x = bootBuiltins x) (hlim : s₁.heap.NoLimit) (hg : s₁.gens = #[])
    (hT : ∀ p ∈ cs, s₁.heap.get? p.2 = some { cls := .none, data := .fields #[] }) (nT : ∀ p ∈ cs, K.lookup p.2 = none) (C : ∀ p ∈ cs, PySem.W.CodeHd s₁.heap p.1 p.2)
    (hbm : ∃ (bm : Addr) (ob : Obj), mg "__builtins__" = some (.ref bm) ∧ bm ≠ builtinsNs ∧ s₁.heap.get? bm = some ob ∧ ob.cls = .type "module" ∧ ob.dict = some builtinsNs ∧ ob.data = .plain)
    (ha : s₁.heap.get? a = some { cls := .type "list", data := .seq vs.toArray }) (hi : IntsAre vs ns) (hl : ns.length ≤ sizeLine) (hr : Room k callerA)
    (F : ∀ base : Heap, K.In base → base.Ns mainGlobals mg → (∀ p ∈ cs, LamX.TabB base mg p.1 p.2) → FnG P w K mg base CX0 k fa fd [x] sp) (hbind : ∀ (s : Shared) (u : Value), BindsTo s fd ⟨[u], []⟩ [(x, u)])
    (hsp : ∀ H : Hp, (∀ p ∈ cs, H p.2 = some (.tbl #[])) → SqL K H a (ns.map V.int) → sp [.ref a] H (fun v _ => v = .bl true) fun _ _ _ => False) :
    codeAny (model P w) callerA (.call (.ref fa) ⟨[.ref a], []⟩) (fun r s' => r = .ok (.ret (.bool true)) ∧ OldK s₁.heap s'.heap ∧ s'.os = s₁.os ∧ AllBare s'.gens) s₁ := by
  have rv := vals_ints hi
  have tab : ∀ b, b ∈ cs.map (·.2) → ∃ p ∈ cs, p.2 = b := fun b hb => List.mem_map.mp hb
  have aT : a ∉ cs.map (·.2) := fun z => by
    obtain ⟨p, hp, e⟩ := tab a z
    have q := hT p hp
    rw [e, ha] at q
    have z' : Data.seq vs.toArray _ = Data.fields #[] := congrArg Obj.data (Option.some.inj q)
    cases z'
  generalize hHd : entH K cs a vs ns = H
  have hc : ∀ {b u}, H b = some u → (b ∈ cs.map (·.2) ∧ u = .tbl #[]) ∨ (b = a ∧ K.lookup a = none ∧ u = .frz { cls := .type "list", data := .seq vs.toArray } (.lst (ns.map V.int))) := fun {b u} h => entH_cases (hHd ▸ h)
  have hH : ∀ p ∈ cs, H p.2 = some (.tbl #[]) := fun p hp => hHd ▸ if_pos (List.mem_map.mpr ⟨p, hp, rfl⟩)
  have hS : SqL K H a (ns.map V.int) := by
    cases hk : K.lookup a with
    | some o =>
      have e := KX a o hk
      rw [ha] at e
      cases e
      exact .inr ⟨_, vs.toArray, _, hk, rfl, rfl, rfl, by rw [List.size_toArray, hi.length]; exact hl, by simpa using rv⟩
    | none =>
      refine .inl (.inr ⟨{ cls := .type "list", data := .seq vs.toArray }, ?_⟩)
      rw [← hHd]
      show (if a ∈ cs.map (·.2) then _ else _) = _
      rw [if_neg aT, if_pos ⟨rfl, hk⟩]
  have hok : HOk P w H s₁.heap := fun b u z => by
    rcases hc z with ⟨h1, rfl⟩ | ⟨rfl, _, rfl⟩
    · obtain ⟨p, hp, e⟩ := tab b h1
      rw [← e]
      exact hT p hp
    · exact ⟨ha, by rw [List.length_map]; exact hl, vs, _, rv, ha⟩
  -- what is neither a list nor an empty table is not tracked
  have free : ∀ {b : Addr} {o : Obj}, s₁.heap.get? b = some o → (∀ vs n, o.data ≠ .seq vs n) → o.data ≠ .fields #[] → H b = none := fun {b o} e h1 h2 => by
    cases q : H b with
    | none => rfl
    | some u =>
      rcases hc q with ⟨h3, _⟩ | ⟨h3, _⟩
      · obtain ⟨p, hp, e'⟩ := tab b h3
        have := hT p hp
        rw [e', e] at this
        cases this
        exact (h2 rfl).elim
      · subst h3
        rw [ha] at e
        cases e
        exact (h1 _ _ rfl).elim
  have ns_hid : ∀ {b : Addr} {m : Str → Option Value}, s₁.heap.Ns b m → (hidT s₁.heap H).Ns b m := fun {b m} ⟨o, es, ep, e, d, r⟩ => ⟨o, es, ep, hidT_get e (free e (fun vs n z => by rw [d] at z; cases z) fun z => by rw [d] at z; cases z), d, r⟩
  have kin : K.In (hidT s₁.heap H) := fun b o e => hidT_get (KX b o e) (by
    cases q : H b with
    | none => rfl
    | some u =>
      rcases hc q with ⟨h3, _⟩ | ⟨h3, h4, _⟩
      · obtain ⟨p, hp, e'⟩ := tab b h3
        have := nT p hp
        rw [e', e] at this
        cases this
      · rw [h3, h4] at e
        cases e)
  have TB : ∀ p ∈ cs, LamX.TabB (hidT s₁.heap H) mg p.1 p.2 := fun p hp => by
    have hTp := hT p hp
    obtain ⟨go, ges, gep, ge, gd, _⟩ := hns
    constructor
    · obtain ⟨o, us, file, tf, flags, tg, inF, text, tt, e1, r1, r2, r3, rest⟩ := C p hp
      exact ⟨o, us, file, tf, flags, tg, inF, text, tt, hidT_get e1 (free e1 (fun vs n z => by rw [r2] at z; cases z) fun z => by
        rw [r2] at z
        cases z
        simp at r3), r1, r2, r3, rest⟩
    · obtain ⟨bm, ob, b1, b2, b3, b4, b5, b6⟩ := hbm
      refine ⟨bm, ob, b1, b2, fun q => ?_, fun q => ?_, hidT_get b3 (free b3 (fun vs n z => by rw [b6] at z; cases z) fun z => by rw [b6] at z; cases z), b4, b5, b6⟩
      · rw [q, ge] at b3
        cases b3
        rw [gd] at b6
        cases b6
      · rw [q, hTp] at b3
        cases b3
        cases b6
    · intro z
      rw [z, hTp] at ge
      cases ge
      cases gd
  have e0 : Env0 P w K mg (hidT s₁.heap H) callerA [] s₁ H := by
    refine ⟨rfl, ⟨kin, ns_hid hns, ⟨mb, ns_hid hb, hbb⟩, ?_⟩, fun b o e => of_hidT e, Nat.le_of_eq (hidT_size _ _), trivial, fun b hb => (nomatch hb), hok, .of_eq hg⟩
    obtain ⟨mc, h1, h2⟩ := hlim
    exact ⟨mc, ns_hid h1, h2⟩
  apply codeAny_mono ((F _ kin (ns_hid hns) TB).go callerA rfl hr [] s₁ H ⟨[.ref a], []⟩ [.ref a] [.ref a] _ _ e0 (hbind s₁ (.ref a)) (.cons rfl .nil) (hsp H hH hS))
  intro r s' h
  match r, h with
  | .error e, h => exact (show False from h).elim
  | .ok .next, h => exact False.elim h
  | .ok .brk, h => exact False.elim h
  | .ok .cont, h => exact False.elim h
  | .ok (.ret u), ⟨v, H', os, bare, un, hok', r', q⟩ =>
    have q : v = .bl true := q
    subst q
    obtain rfl : u = Value.bool true := r'
    have more : ∀ p ∈ cs, ∃ more : Array Value, s'.heap.get? p.2 = some { cls := .none, data := .fields more } := fun p hp => by
      obtain ⟨m, z⟩ := un.tbls p.2 #[] (hH p hp)
      exact ⟨_, hok' p.2 _ z⟩
    have key : ∀ b o, s₁.heap.get? b = some o → b ∉ cs.map (·.2) → s'.heap.get? b = some o := fun b o e nb => by
      cases q : H b with
      | none => exact un.keep b o e q (fun z => nomatch z) (by simp)
      | some u =>
        rcases hc q with ⟨h3, _⟩ | ⟨_, _, rfl⟩
        · exact absurd h3 nb
        · obtain ⟨e1, _⟩ := hok b _ q
          obtain ⟨e2, _⟩ := hok' b _ (un.frzs b _ _ q)
          rw [e] at e1
          cases e1
          exact e2
    refine ⟨rfl, ⟨fun b o e => ?_, fun b o e => ?_⟩, os, bare⟩
    · by_cases hb : b ∈ cs.map (·.2)
      · obtain ⟨p, hp, rfl⟩ := tab b hb
        obtain ⟨m, hm⟩ := more p hp
        rw [hT p hp] at e
        cases e
        exact .inr (.inl ⟨((C p hp).tab (hT p hp)).isCodeTable, rfl, #[], m, rfl, by rw [Array.empty_append]; exact hm⟩)
      · exact .inl (key b o e hb)
    · by_cases hb : b ∈ cs.map (·.2)
      · obtain ⟨p, hp, rfl⟩ := tab b hb
        obtain ⟨m, hm⟩ := more p hp
        exact ⟨_, hm⟩
      · exact ⟨o, key b o e hb⟩
end
/-- what is known of the law's def at the head's heap -/
def AtG (P : Program) (w : World) (K : PySem.W.Frag) (k : Nat) (x : Str) (mg : Str → Option Value) (fa : Addr) (h : Heap) : Prop :=
  ∃ (fd : FuncData) (cs : List (Addr × Addr)) (T : List (Addr × Str)), (∀ p ∈ cs, h.get? p.2 = some { cls := .none, data := .fields #[] }) ∧ (∀ p ∈ cs, K.lookup p.2 = none) ∧ (∀ p ∈ cs, PySem.W.CodeHd h p.1 p.2) ∧ (∀ p ∈ T, ∃ c, (c, p.1) ∈ cs) ∧ (∀ (s : Shared) (u : Value), BindsTo s fd ⟨[u], []⟩ [(x, u)]) ∧
    ∀ base : Heap, K.In base → base.Ns mainGlobals mg → (∀ p ∈ cs, LamX.TabB base mg p.1 p.2) → FnG P w K mg base CX0 k fa fd [x] (spLaw K T)
theorem walkG {l : PySem.W.OpenLaw} {n k : Nat} {q : Program} {loose : List Str} {XP : (Str → Option Value) → Heap → Prop} {YP : World → Heap → Prop} {d : DefRec} {x : Str}
    (hn : l.most = some n) (hn2 : n ≤ 63) (hdf : d.params.defaults = []) (hr : Room k callerA)
    (F : ∀ (w : World) (mg : Str → Option Value) (fa : Addr) (h : Heap), YP w h → h.Ns mainGlobals mg → mg d.name = some (.ref fa) → ∃ K : PySem.W.Frag, K.In h ∧ AtG l.prog w K k x mg fa h) :
    PySem.W.WalkO q loose XP YP l.row.toRowW d [] (fun f vs => PySem.call f vs) := by
  apply Att.attach_callB hn hdf
  intro w s₀ s₁ mg mb fa o pm cd doc a vs ns G Y ho hd hcd hmg hobj hints hlen hbits hg
  obtain ⟨K, KX, fd, cs, T, hT, nT, C, hTc, hb, hF⟩ := F w mg fa _ Y G.T.g hmg
  exact callG KX G.T.g G.T.b G.T.builtins G.T.nolimit hg hT nT C G.T.bmain hobj hints (Nat.le_trans hlen (Nat.le_trans hn2 (by decide))) hr hF hb fun H hH hS => ⟨a, ns, rfl, Nat.le_trans hlen hn2, fun p hp => by
    obtain ⟨c, hc⟩ := hTc p hp
    exact hH _ hc, hS, fun _ => rfl⟩
end FR
set_option maxRecDepth 100000
set_option maxHeartbeats 4000000
namespace FR
open PySem PySem.Spec PyProof.Rows L2
/-! ### from the head's facts -/
def ddS (x : Str) (st : Stmt) : He.DefD := ⟨(x, none), x, x, defArgs st, defBody st, defScope st, [], []⟩
theorem fun_of {K : PySem.W.Frag} {x : Str} {st : Stmt} {f : Addr} {fd : FuncData} (F : FunD K x x (defArgs st) (defBody st) (defScope st) [] [] f fd) : Fun K x x st f fd := by
  obtain ⟨oc, od, dV, kV, doc, pm, an, cdv, ct, osl, e, lk, hcd, hd, _⟩ := F.ex
  rcases hd with ⟨_, rfl⟩ | ⟨h, _⟩
  · exact ⟨⟨oc, od, kV, doc, pm, an, cdv, ct, osl, e, lk, hcd⟩, F.kp⟩
  · exact absurd rfl h
section
variable {K : PySem.W.Frag} {h : Heap} {mg : Str → Option Value} {fa : List He.Fa} {fn : List He.DefD} {x : Str} {st : Stmt} {ps : List Str}
theorem dn_at (X : K.In h) (G : h.Ns mainGlobals mg) (c : He.SaysD fa fn K) (hd : ddS x st ∈ fn) (hf : He.Fa.glo x ∈ fa)
    (hb : ∀ (kV doc pm : Value) (an : Option Addr) (cdv ct : Value) (us : List Value), us.length = ps.length → bindArgs (PySem.W.fnOf x x (defArgs st) (defBody st) (defScope st) .none kV doc pm an cdv ct) ⟨us, []⟩ = pure (ps.zip us)) : Dn K mg x st ps := by
  obtain ⟨fd, F⟩ := c.defs hd
  exact ⟨_, fd, fun_of F, He.glo_ok X G (c.facts hf), F.bindsN hb⟩
theorem lm_at {base : Heap} {P0 : Addr} (X : K.In h) (G : h.Ns mainGlobals mg) (c : He.SaysD fa fn K) (hf : He.Fa.glo x ∈ fa) (hT : LamX.TabB base mg (He.cT K (x, none)).1 P0) : LmD K mg base x P0 := fun f c' fd g ⟨oc, od, osl, lk⟩ e => by
  have g2 := He.glo_ok X G (c.facts hf)
  rw [g] at g2
  cases g2
  have e2 : He.codeOf K (x, none) = c' := He.codeOf_eq (p := (x, none)) lk e
  rw [← e2]
  exact hT
theorem atG_of {w : World} {ts : List He.Tab} {tf : List He.Defn} {ex : PySem.W.Frag → Bool} {P : Program} {k : Nat} {fa' : Addr} {T : List (Addr × Str)} {fd : FuncData} (X : K.In h) (c : He.SaysX fa fn ts tf ex w h K) (hT : ∀ p ∈ T, ∃ d ∈ tf, p.1 = (He.cT K d).2)
    (hb : ∀ (s : Shared) (u : Value), BindsTo s fd ⟨[u], []⟩ [(x, u)]) (hF : ∀ base : Heap, K.In base → base.Ns mainGlobals mg → (∀ d ∈ tf, LamX.TabB base mg (He.cT K d).1 (He.cT K d).2) → FnG P w K mg base CX0 k fa' fd [x] (spLaw K T)) : AtG P w K k x mg fa' h := by
  have mem : ∀ p ∈ tf.map (He.cT K), ∃ d ∈ tf, He.cT K d = p := fun p hp => List.mem_map.mp hp
  refine ⟨fd, tf.map (He.cT K), T, fun p hp => ?_, fun p hp => ?_, fun p hp => ?_, fun p hp => ?_, hb, fun base h1 h2 h3 => hF base h1 h2 fun d hd => h3 _ (List.mem_map.mpr ⟨d, hd, rfl⟩)⟩
  · obtain ⟨d, hd, rfl⟩ := mem p hp
    exact c.empty d hd
  · obtain ⟨d, hd, rfl⟩ := mem p hp
    exact c.out d hd
  · obtain ⟨d, hd, rfl⟩ := mem p hp
    exact PySem.W.codeHd_of_K X (c.hd d hd)
  · obtain ⟨d, hd, e⟩ := hT p hp
    exact ⟨(He.cT K d).1, by rw [e]; exact List.mem_map.mpr ⟨d, hd, rfl⟩⟩
end
end FR
set_option maxRecDepth 100000
set_option maxHeartbeats 4000000
namespace FR
open PySem PySem.Spec PyProof.Rows L2
/-! ### a line's word and back -/
theorem last_b (w : List Nat) (m : Nat) : (w ++ 98 :: List.replicate m 111).getLast? = some 98 ∨ (w ++ 98 :: List.replicate m 111).getLast? = some 111 := by
  cases m with
  | zero => exact .inl (getLast_snoc w 98)
  | succ m =>
    have e : w ++ 98 :: List.replicate (m + 1) 111 = (w ++ 98 :: List.replicate m 111) ++ [111] := by rw [rep_snoc, List.append_assoc]; rfl
    rw [e, getLast_snoc]
    exact .inr rfl
theorem grow_pos {w : List Nat} {g : List Int} (hw : WOk w) (hg : piecesOf w = g) : ∀ m : Nat, WOk (w ++ 98 :: List.replicate m 111) ∧ piecesOf (w ++ 98 :: List.replicate m 111) = g ++ [(m : Int) + 1]
  | 0 => by
    refine ⟨.snoc hw (by unfold okC; simp), ?_⟩
    show piecesOf (w ++ [98]) = _
    rw [piecesOf_snoc, hg]
    unfold pStep
    rw [if_pos (.inl rfl), if_neg (by decide), addLast_snoc]
    rfl
  | m + 1 => by
    obtain ⟨h1, h2⟩ := grow_pos hw hg m
    have e : w ++ 98 :: List.replicate (m + 1) 111 = (w ++ 98 :: List.replicate m 111) ++ [111] := by rw [rep_snoc, List.append_assoc]; rfl
    rw [e]
    refine ⟨.snoc h1 ?_, ?_⟩
    · unfold okC
      rcases last_b w m with q | q <;> rw [q] <;> rfl
    · rw [piecesOf_snoc, h2]
      unfold pStep
      rw [if_neg (by omega), if_neg (by decide), addLast_snoc]
      congr 2
theorem grow_neg {w : List Nat} {g : List Int} (hw : WOk w) (hg : piecesOf w = g) (hl : w.getLast? ≠ some 102) : ∀ m : Nat, WOk (w ++ List.replicate (m + 1) 102) ∧ piecesOf (w ++ List.replicate (m + 1) 102) = g ++ [-((m : Int) + 1)]
  | 0 => by
    refine ⟨.snoc hw (by unfold okC; simp), ?_⟩
    show piecesOf (w ++ [102]) = _
    rw [piecesOf_snoc, hg]
    unfold pStep
    rw [if_pos (.inr ⟨rfl, hl⟩), if_pos rfl, addLast_snoc]
    rfl
  | m + 1 => by
    obtain ⟨h1, h2⟩ := grow_neg hw hg hl m
    have e : w ++ List.replicate (m + 1 + 1) 102 = (w ++ List.replicate (m + 1) 102) ++ [102] := by rw [rep_snoc, List.append_assoc]
    have l : (w ++ List.replicate (m + 1) 102).getLast? = some 102 := by rw [rep_snoc, ← List.append_assoc, getLast_snoc]
    rw [e]
    refine ⟨.snoc h1 (by unfold okC; simp), ?_⟩
    rw [piecesOf_snoc, h2]
    unfold pStep
    rw [l, if_neg (by simp), if_pos rfl, addLast_snoc]
    congr 2
theorem word_line : ∀ (k : Nat) (ns : List Int), ns.length = k → LineOk ns → WOk (wordOf ns) ∧ piecesOf (wordOf ns) = ns
  | 0, ns, hk, _ => by
    rw [List.eq_nil_of_length_eq_zero hk]
    exact ⟨.nil, rfl⟩
  | k + 1, ns, hk, h => by
    have hne : ns ≠ [] := fun q => by rw [q] at hk; cases hk
    obtain ⟨g, x, rfl⟩ : ∃ g x, ns = g ++ [x] := ⟨ns.dropLast, ns.getLast hne, (List.dropLast_concat_getLast hne).symm⟩
    have hk : g.length = k := by rw [List.length_append] at hk; exact Nat.succ.inj hk
    obtain ⟨h1, h2⟩ := word_line k g hk h.init
    have hx : x ≠ 0 := h.nz x (by simp)
    rw [wordOf_append, wordOf_one]
    by_cases hp : 0 < x
    · obtain ⟨h3, h4⟩ := grow_pos h1 h2 (x - 1).toNat
      rw [pieceW_pos hp]
      refine ⟨h3, h4.trans ?_⟩
      congr 2
      omega
    · have hn : x < 0 := by omega
      have hl : (wordOf g).getLast? ≠ some 102 := fun q => by
        have pk := pc_ok h1
        rw [h2] at pk
        by_cases he : g = []
        · subst he
          cases q
        · have hs : ∃ y, g.getLast? = some y := ⟨_, List.getLast?_eq_some_getLast he⟩
          obtain ⟨y, hy⟩ := hs
          exact h.last hy ⟨(pk.sign y hy).mp q, hn⟩
      obtain ⟨h3, h4⟩ := grow_neg h1 h2 hl ((-x).toNat - 1)
      have e : (-x).toNat - 1 + 1 = (-x).toNat := by omega
      rw [e] at h3 h4
      rw [pieceW_neg hn]
      refine ⟨h3, h4.trans ?_⟩
      congr 2
      omega
theorem line_word {ns : List Int} (h : lineB ns = true) : WOk (wordOf ns) ∧ piecesOf (wordOf ns) = ns := word_line _ ns rfl (lineB_inv h).1
end FR
set_option maxRecDepth 100000
set_option maxHeartbeats 4000000
namespace FR
open PySem PySem.Spec PyProof.Rows L2 PySem.Builtin PySem.Builtin.Str
/-! ### small data: what may be shown -/
structure Sm (D L : Nat) (d : PyData) : Prop where
  sh : d.showable = true
  lay : d.canLay0 = true
  dp : d.depth ≤ D
  ln : d.shown.length ≤ L
theorem Sm.shn {D L : Nat} {d : PyData} (h : Sm D L d) (h1 : D ≤ 60) (h2 : L ≤ 1000000) : Shn d := ⟨h.sh, .inl (PyData.hasDict_of_canLay d h.lay), Nat.le_trans h.dp h1, Nat.le_trans h.ln h2⟩
theorem Sm.mono {D L D' L' : Nat} {d : PyData} (h : Sm D L d) (h1 : D ≤ D') (h2 : L ≤ L') : Sm D' L' d := ⟨h.sh, h.lay, Nat.le_trans h.dp h1, Nat.le_trans h.ln h2⟩
theorem int_len : ∀ n : Fin 201, ((toString ((n.val : Int) - 100) : String) : PySem.Str).length ≤ 20 := by decide +kernel
theorem sm_int {i : Int} (h1 : -100 ≤ i) (h2 : i ≤ 100) : Sm 0 20 (.int i) := by
  refine ⟨?_, rfl, Nat.le_refl _, ?_⟩
  · show decide (i.natAbs.log2 < 1920) = true
    refine decide_eq_true ?_
    have h3 : i.natAbs ≤ 100 := by omega
    have h4 : i.natAbs.log2 ≤ i.natAbs := Nat.log2_le_self _
    omega
  · have e := int_len ⟨(i + 100).toNat, by omega⟩
    have e2 : (((i + 100).toNat : Int) - 100) = i := by omega
    show (PyData.shown (.int i)).length ≤ 20
    simp only [PyData.shown]
    have e : ((toString (((i + 100).toNat : Int) - 100) : String) : PySem.Str).length ≤ 20 := e
    rw [e2] at e
    exact e
theorem sm_S {u : List Nat} (h : ∀ c ∈ u, c = 98 ∨ c = 111 ∨ c = 102) : Sm 0 (10 * u.length + 2) (dS u) := by
  refine ⟨?_, lay_dS h, Nat.le_refl _, ?_⟩
  · show PyData.showable (.str (SX.S u)) = true
    simp only [PyData.showable]
  · have := StrLaws.reprText_len (SX.S u) fun c hc => ?_
    · have e1 : (SX.S u).length = u.length := SX.S_len u
      have e2 : (PyData.shown (.str (SX.S u))) = reprText (SX.S u) := by simp only [PyData.shown]
      show (PyData.shown (.str (SX.S u))).length ≤ _
      rw [e2]
      exact Nat.le_trans this (by rw [e1]; omega)
    · have hc : c ∈ u := by simpa [SX.S] using hc
      rcases h c hc with rfl | rfl | rfl <;> decide
theorem joinL_len {s : List Nat} {L : Nat} : ∀ l : List (List Nat), (∀ t ∈ l, t.length ≤ L) → (TL.joinL s l).length ≤ l.length * (L + s.length)
  | [], _ => Nat.zero_le _
  | [p], h => by
    show p.length ≤ _
    have := h p (by simp)
    simp
    omega
  | p :: q :: r, h => by
    show (p ++ (s ++ TL.joinL s (q :: r))).length ≤ _
    have h1 := h p (by simp)
    have h2 := joinL_len (s := s) (q :: r) fun t ht => h t (List.mem_cons_of_mem _ ht)
    rw [List.length_append, List.length_append, List.length_cons, Nat.add_mul, Nat.one_mul]
    omega
theorem str_app_len (a b : PySem.Str) : (a ++ b).length = a.length + b.length := by
  show (a.cps ++ b.cps).size = a.cps.size + b.cps.size
  rw [Array.size_append]
theorem tup_len {ts : List PySem.Str} {L : Nat} (h : ∀ t ∈ ts, t.length ≤ L) : (tupleText ts).length ≤ ts.length * (L + 2) + 3 := by
  have hj : (PySem.Str.join ", " ts).length ≤ ts.length * (L + 2) := by
    have e : (PySem.Str.join ", " ts).cps.toList = TL.joinL (TL.tl ", ") (ts.map TL.tl) := TL.tl_join ", " ts
    have h2 := joinL_len (s := TL.tl ", ") (L := L) (ts.map TL.tl) fun t ht => by
      obtain ⟨u, hu, rfl⟩ := List.mem_map.mp ht
      exact h u hu
    rw [← e, List.length_map] at h2
    exact h2
  unfold tupleText
  rw [str_app_len, str_app_len]
  have e1 : ("(" : PySem.Str).length = 1 := rfl
  split
  · have e2 : (",)" : PySem.Str).length = 2 := rfl
    rw [e1, e2]
    omega
  · have e2 : (")" : PySem.Str).length = 1 := rfl
    rw [e1, e2]
    omega
theorem sh_all : ∀ {ds : List PyData}, (∀ d ∈ ds, d.showable = true) → PyData.showableAll ds = true
  | [], _ => by simp only [PyData.showableAll]
  | d :: ds, h => by
    simp only [PyData.showableAll]
    rw [h d (by simp), sh_all fun e he => h e (by simp [he])]
    rfl
theorem lay_all : ∀ {ds : List PyData}, (∀ d ∈ ds, d.canLay0 = true) → PyData.canLayAll0 ds = true
  | [], _ => rfl
  | d :: ds, h => by
    show (d.canLay0 && PyData.canLayAll0 ds) = true
    rw [h d (by simp), lay_all fun e he => h e (by simp [he])]
    rfl
theorem dp_all {D : Nat} : ∀ {ds : List PyData}, (∀ d ∈ ds, d.depth ≤ D) → PyData.depthAll ds ≤ D
  | [], _ => Nat.zero_le _
  | d :: ds, h => by
    show Nat.max d.depth (PyData.depthAll ds) ≤ D
    exact Nat.max_le.mpr ⟨h d (by simp), dp_all fun e he => h e (by simp [he])⟩
theorem shown_all {L : Nat} : ∀ {ds : List PyData}, (∀ d ∈ ds, d.shown.length ≤ L) → (PyData.shownAll ds).length = ds.length ∧ ∀ t ∈ PyData.shownAll ds, t.length ≤ L
  | [], _ => by simp only [PyData.shownAll]; exact ⟨rfl, fun t ht => nomatch ht⟩
  | d :: ds, h => by
    simp only [PyData.shownAll]
    obtain ⟨h1, h2⟩ := shown_all (ds := ds) fun e he => h e (by simp [he])
    refine ⟨by rw [List.length_cons, List.length_cons, h1], fun t ht => ?_⟩
    rcases List.mem_cons.mp ht with rfl | ht
    · exact h d (by simp)
    · exact h2 t ht
theorem sm_tup {D L : Nat} {ds : List PyData} (h : ∀ d ∈ ds, Sm D L d) : Sm (D + 1) (ds.length * (L + 2) + 3) (.tuple ds) := by
  refine ⟨?_, ?_, ?_, ?_⟩
  · simp only [PyData.showable]
    exact sh_all fun d hd => (h d hd).sh
  · show PyData.canLayAll0 ds = true
    exact lay_all fun d hd => (h d hd).lay
  · show PyData.depthAll ds + 1 ≤ D + 1
    exact Nat.succ_le_succ (dp_all fun d hd => (h d hd).dp)
  · simp only [PyData.shown]
    obtain ⟨h1, h2⟩ := shown_all (L := L) fun d hd => (h d hd).ln
    have := tup_len h2
    rw [h1] at this
    exact this
theorem told_shapedD {d : PyData} (h : d.canLay0 = true) : SeqAt.shaped (toldD d) = true := toldShaped (shaped_shown h)
theorem told_eqvD {d : PyData} (h : d.canLay0 = true) : PyData.eqv (toldD d) (toldD d) = true := SeqAt.eqv_refl _ (Bool.and_eq_true_iff.mp (told_shapedD h)).1
/-- a line's tuple -/
theorem sm_dL {ns : List Int} (h : lineB ns = true) : Sm 1 2000 (dL ns) := by
  obtain ⟨hok, hne, hs⟩ := lineB_inv h
  have hb := line_bounds hok.nz hs
  refine (sm_tup (D := 0) (L := 20) (ds := ns.map .int) fun d hd => ?_).mono (Nat.le_refl _) ?_
  · obtain ⟨i, hi, rfl⟩ := List.mem_map.mp hd
    have := hb.2 i hi
    exact sm_int (by omega) (by omega)
  · rw [List.length_map]
    omega
end FR
set_option maxRecDepth 100000
set_option maxHeartbeats 4000000
namespace FR
open PySem PySem.Spec PyProof.Rows L2
/-! ### the rows of a line, the pairs of a word -/
def blk (p n : Int) : List Int := if 0 < n then List.replicate n.toNat p else List.replicate (-n).toNat (-1)
def stB : Int → List Int → List Int
  | _, [] => []
  | p, n :: r => blk p n ++ stB (p + absI n) r
def rowB : Int → List Int → List (Int × Int)
  | _, [] => []
  | p, n :: r => if 0 < n then (p, p + n - 1) :: rowB (p + absI n) r else rowB (p + absI n) r
theorem sum_cons (n : Int) (r : List Int) : sumAbs (n :: r) = absI n + sumAbs r := by unfold sumAbs; rw [List.map_cons, List.sum_cons]
theorem sum_app : ∀ a b : List Int, sumAbs (a ++ b) = sumAbs a + sumAbs b
  | [], b => by show sumAbs b = 0 + sumAbs b; omega
  | n :: a, b => by
    show sumAbs (n :: (a ++ b)) = _
    rw [sum_cons, sum_cons, sum_app a b]
    omega
theorem sum_one (n : Int) : sumAbs [n] = absI n := by rw [sum_cons]; show absI n + 0 = _; omega
theorem stB_app : ∀ (p : Int) (a b : List Int), stB p (a ++ b) = stB p a ++ stB (p + sumAbs a) b
  | p, [], b => by
    show stB p b = stB (p + 0) b
    rw [Int.add_zero]
  | p, n :: a, b => by
    show blk p n ++ stB (p + absI n) (a ++ b) = (blk p n ++ stB (p + absI n) a) ++ stB (p + sumAbs (n :: a)) b
    rw [stB_app, sum_cons, List.append_assoc, Int.add_assoc]
theorem rowB_app : ∀ (p : Int) (a b : List Int), rowB p (a ++ b) = rowB p a ++ rowB (p + sumAbs a) b
  | p, [], b => by
    show rowB p b = rowB (p + 0) b
    rw [Int.add_zero]
  | p, n :: a, b => by
    show (if 0 < n then (p, p + n - 1) :: rowB (p + absI n) (a ++ b) else rowB (p + absI n) (a ++ b)) = (if 0 < n then (p, p + n - 1) :: rowB (p + absI n) a else rowB (p + absI n) a) ++ rowB (p + sumAbs (n :: a)) b
    rw [rowB_app, sum_cons, Int.add_assoc]
    split <;> rfl
theorem stB_one (p n : Int) : stB p [n] = blk p n := List.append_nil _
theorem rowB_one (p n : Int) : rowB p [n] = if 0 < n then [(p, p + n - 1)] else [] := rfl
theorem absI_nn (n : Int) : 0 ≤ absI n := by unfold absI; split <;> omega
theorem sum_nn : ∀ ns : List Int, 0 ≤ sumAbs ns
  | [] => Int.le_refl 0
  | n :: r => by
    rw [sum_cons]
    have := absI_nn n
    have := sum_nn r
    omega
theorem blk_len (p n : Int) : ((blk p n).length : Int) = absI n := by
  unfold blk absI
  split
  · rw [List.length_replicate, if_neg (by omega)]
    omega
  · rw [List.length_replicate]
    split <;> omega
theorem stB_len : ∀ (p : Int) (ns : List Int), ((stB p ns).length : Int) = sumAbs ns
  | _, [] => rfl
  | p, n :: r => by
    show ((blk p n ++ stB (p + absI n) r).length : Int) = _
    rw [List.length_append, Int.natCast_add, blk_len, stB_len, sum_cons]
/-- the pieces of a word grown by one sign -/
theorem step_cases {u : List Nat} {c : Nat} (h : WOk u) (hc : okC u.getLast? c = true) :
    (c = 98 ∧ piecesOf (u ++ [c]) = piecesOf u ++ [1]) ∨ (c = 111 ∧ ∃ p x, 0 < x ∧ piecesOf u = p ++ [x] ∧ piecesOf (u ++ [c]) = p ++ [x + 1]) ∨ (c = 102 ∧ piecesOf (u ++ [c]) = piecesOf u ++ [-1]) ∨ (c = 102 ∧ ∃ p x, x < 0 ∧ piecesOf u = p ++ [x] ∧ piecesOf (u ++ [c]) = p ++ [x - 1]) := by
  have pk := pc_ok h
  rw [piecesOf_snoc]
  generalize piecesOf u = g at pk
  have split_last : g ≠ [] → ∃ p x, g = p ++ [x] := fun hne => ⟨g.dropLast, g.getLast hne, (List.dropLast_concat_getLast hne).symm⟩
  rcases okC_cases hc with rfl | rfl | ⟨rfl, hl⟩
  · refine .inl ⟨rfl, ?_⟩
    unfold pStep
    rw [if_pos (.inl rfl), if_neg (by decide), addLast_snoc]
    rfl
  · by_cases hl : u.getLast? = some 102
    · refine .inr (.inr (.inr ⟨rfl, ?_⟩))
      obtain ⟨p, x, e⟩ := split_last fun q => by
        rw [pk.emp.mp q] at hl
        cases hl
      subst e
      have hx : x < 0 := (pk.sign x (getLast_snoc p x)).mp hl
      refine ⟨p, x, hx, rfl, ?_⟩
      unfold pStep
      rw [hl, if_neg (by simp), if_pos rfl, addLast_snoc]
      rfl
    · refine .inr (.inr (.inl ⟨rfl, ?_⟩))
      unfold pStep
      rw [if_pos (.inr ⟨rfl, hl⟩), if_pos rfl, addLast_snoc]
      rfl
  · refine .inr (.inl ⟨rfl, ?_⟩)
    obtain ⟨p, x, e⟩ := split_last fun q => by
      rw [pk.emp.mp q] at hl
      rcases hl with hl | hl <;> cases hl
    subst e
    have hx : ¬ x < 0 := fun q => by
      have := (pk.sign x (getLast_snoc p x)).mpr q
      rw [this] at hl
      rcases hl with hl | hl <;> cases hl
    have hx0 := pk.ok.nz x (by simp)
    refine ⟨p, x, by omega, rfl, ?_⟩
    unfold pStep
    rw [if_neg (by omega), if_neg (by decide), addLast_snoc]
/-- what _law_starts appends -/
def stSign (f : List Int) (k c : Nat) : Int := if c = 98 then (k : Int) else if c = 111 then f.getD (k - 1) 0 else -1
theorem starts_step {u : List Nat} {c : Nat} (h : WOk u) (hc : okC u.getLast? c = true) : stB 0 (piecesOf (u ++ [c])) = stB 0 (piecesOf u) ++ [stSign (stB 0 (piecesOf u)) u.length c] := by
  have pk := pc_ok h
  have hs : sumAbs (piecesOf u) = (u.length : Int) := by
    have := len_word pk.ok.nz
    rw [pk.word] at this
    omega
  rcases step_cases h hc with ⟨rfl, e⟩ | ⟨rfl, p, x, hx, e1, e2⟩ | ⟨rfl, e⟩ | ⟨rfl, p, x, hx, e1, e2⟩
  · rw [e, stB_app, stB_one, hs]
    show _ ++ List.replicate 1 (0 + (u.length : Int)) = _
    rw [Int.zero_add]
    rfl
  · rw [e2]
    have hl := stB_len 0 (piecesOf u)
    rw [e1] at hl hs ⊢
    rw [stB_app, stB_one, stB_app, stB_one, Int.zero_add] at *
    have b1 : blk (sumAbs p) (x + 1) = blk (sumAbs p) x ++ [sumAbs p] := by
      unfold blk
      rw [if_pos hx, if_pos (by omega)]
      have : (x + 1).toNat = x.toNat + 1 := by omega
      rw [this, List.replicate_succ']
    rw [b1, ← List.append_assoc]
    congr 1
    show [sumAbs p] = [stSign _ _ 111]
    unfold stSign
    rw [if_neg (by decide), if_pos rfl]
    congr 1
    have hk : u.length = (stB 0 p ++ blk (sumAbs p) x).length := by omega
    have b2 : blk (sumAbs p) x = List.replicate (x.toNat - 1) (sumAbs p) ++ [sumAbs p] := by
      unfold blk
      rw [if_pos hx, ← List.replicate_succ']
      congr 1
      omega
    rw [hk, b2, ← List.append_assoc]
    simp [List.getD]
  · rw [e, stB_app, stB_one]
    rfl
  · rw [e2, e1, stB_app, stB_one, stB_app, stB_one, List.append_assoc]
    congr 1
    unfold blk
    rw [if_neg (by omega), if_neg (by omega)]
    have : (-(x - 1)).toNat = (-x).toNat + 1 := by omega
    rw [this, List.replicate_succ']
    rfl
/-- where rows begin -/
def fiW (u : List Nat) : List Nat := (List.range u.length).filter fun k => decide (u.getD k 0 = 98)
theorem fiW_snoc (u : List Nat) (c : Nat) : fiW (u ++ [c]) = fiW u ++ (if c = 98 then [u.length] else []) := by
  unfold fiW
  rw [List.length_append]
  show (List.range (u.length + 1)).filter _ = _
  rw [List.range_succ, List.filter_append]
  congr 1
  · refine List.filter_congr fun k hk => ?_
    have hk := List.mem_range.mp hk
    have e : (u ++ [c]).getD k 0 = u.getD k 0 := by simp [List.getD, List.getElem?_append_left hk]
    rw [e]
  · have e : (u ++ [c]).getD u.length 0 = c := by simp [List.getD]
    rw [List.filter_cons, e]
    by_cases h : c = 98
    · rw [decide_eq_true h, if_pos rfl, if_pos h]
      rfl
    · rw [decide_eq_false h, if_neg Bool.false_ne_true, if_neg h]
      rfl
theorem fi_word {u : List Nat} (h : WOk u) : (fiW u).map (fun k : Nat => (k : Int)) = (rowB 0 (piecesOf u)).map (·.1) := by
  induction h with
  | nil => rfl
  | @snoc u c h hc ih =>
    have pk := pc_ok h
    have hs : sumAbs (piecesOf u) = (u.length : Int) := by
      have := len_word pk.ok.nz
      rw [pk.word] at this
      omega
    rw [fiW_snoc, List.map_append, ih]
    rcases step_cases h hc with ⟨rfl, e⟩ | ⟨rfl, p, x, hx, e1, e2⟩ | ⟨rfl, e⟩ | ⟨rfl, p, x, hx, e1, e2⟩
    · rw [e, rowB_app, rowB_one, if_pos rfl, if_pos (by decide), hs, List.map_append]
      simp
    · rw [e2, e1, rowB_app, rowB_one, rowB_app, rowB_one, if_neg (show ¬ (111 : Nat) = 98 by decide), if_pos hx, if_pos (show 0 < x + 1 by omega)]
      simp
    · rw [e, rowB_app, rowB_one, if_neg (by decide), if_neg (by decide)]
      simp
    · rw [e2, e1, rowB_app, rowB_one, rowB_app, rowB_one, if_neg (show ¬ (102 : Nat) = 98 by decide), if_neg (show ¬ 0 < x by omega), if_neg (show ¬ 0 < x - 1 by omega)]
      simp
theorem st_ge : ∀ (ns : List Int) (p : Int), ∀ z ∈ stB p ns, z = -1 ∨ p ≤ z
  | [], p, z, h => nomatch h
  | n :: r, p, z, h => by
    rcases List.mem_append.mp (show z ∈ blk p n ++ stB (p + absI n) r from h) with h | h
    · unfold blk at h
      split at h
      · exact .inr (by rw [List.eq_of_mem_replicate h]; exact Int.le_refl p)
      · exact .inl (List.eq_of_mem_replicate h)
    · have := absI_nn n
      rcases st_ge r (p + absI n) z h with q | q
      · exact .inl q
      · exact .inr (by omega)
theorem count_none {l : List Int} {a : Int} (h : ∀ z ∈ l, z ≠ a) : l.count a = 0 := List.count_eq_zero.mpr fun q => h a q rfl
theorem row_count : ∀ (ns : List Int) (p : Int), 0 ≤ p → ∀ r ∈ rowB p ns, p ≤ r.1 ∧ (((stB p ns).count r.1 : Nat) : Int) = r.2 - r.1 + 1
  | [], p, _, r, h => nomatch h
  | n :: ns, p, hp, r, h => by
    have ha := absI_nn n
    have ih := row_count ns (p + absI n) (by omega)
    show p ≤ r.1 ∧ (((blk p n ++ stB (p + absI n) ns).count r.1 : Nat) : Int) = _
    rw [List.count_append]
    unfold rowB at h
    split at h
    · rename_i hn
      have hab : absI n = n := by unfold absI; rw [if_neg (by omega)]
      rcases List.mem_cons.mp h with rfl | h
      · refine ⟨Int.le_refl _, ?_⟩
        have e1 : (blk p n).count p = n.toNat := by unfold blk; rw [if_pos hn, List.count_replicate_self]
        have e2 : (stB (p + absI n) ns).count p = 0 := count_none fun z hz q => by
          rcases st_ge ns _ z hz with w | w <;> omega
        rw [e1, e2]
        show ((n.toNat + 0 : Nat) : Int) = p + n - 1 - p + 1
        omega
      · obtain ⟨h1, h2⟩ := ih r h
        have e1 : (blk p n).count r.1 = 0 := count_none fun z hz q => by
          unfold blk at hz
          rw [if_pos hn] at hz
          have := List.eq_of_mem_replicate hz
          omega
        rw [e1]
        refine ⟨by omega, ?_⟩
        rw [Nat.zero_add]
        exact h2
    · rename_i hn
      obtain ⟨h1, h2⟩ := ih r h
      have e1 : (blk p n).count r.1 = 0 := count_none fun z hz q => by
        unfold blk at hz
        rw [if_neg hn] at hz
        have := List.eq_of_mem_replicate hz
        omega
      rw [e1]
      refine ⟨by omega, ?_⟩
      rw [Nat.zero_add]
      exact h2
theorem row_bounds : ∀ (ns : List Int) (p : Int), ∀ r ∈ rowB p ns, p ≤ r.1 ∧ p ≤ r.2 ∧ r.1 ≤ p + sumAbs ns ∧ r.2 ≤ p + sumAbs ns
  | [], p, r, h => nomatch h
  | n :: ns, p, r, h => by
    have ha := absI_nn n
    have hs := sum_nn ns
    have ih := row_bounds ns (p + absI n)
    rw [sum_cons]
    unfold rowB at h
    split at h
    · rename_i hn
      have hab : absI n = n := by unfold absI; rw [if_neg (by omega)]
      rcases List.mem_cons.mp h with rfl | h
      · show p ≤ p ∧ p ≤ p + n - 1 ∧ p ≤ _ ∧ p + n - 1 ≤ _
        omega
      · have := ih r h
        omega
    · have := ih r h
      omega
theorem row_len : ∀ (ns : List Int) (p : Int), (rowB p ns).length ≤ ns.length
  | [], _ => Nat.le_refl _
  | n :: ns, p => by
    have := row_len ns (p + absI n)
    unfold rowB
    split
    · rw [List.length_cons, List.length_cons]; omega
    · rw [List.length_cons]; omega
def dP (r : Int × Int) : PyData := .tuple [.int r.1, .int r.2]
def dR (rs : List (Int × Int)) : PyData := .tuple (rs.map dP)
theorem sm_dR {ns : List Int} (h : lineB ns = true) : Sm 2 4000 (dR (rowB 0 ns)) := by
  obtain ⟨hok, hne, hs⟩ := lineB_inv h
  have hb := line_bounds hok.nz hs
  refine (sm_tup (D := 1) (L := 47) (ds := (rowB 0 ns).map dP) fun d hd => ?_).mono (Nat.le_refl _) ?_
  · obtain ⟨r, hr, rfl⟩ := List.mem_map.mp hd
    have hrb := row_bounds ns 0 r hr
    refine (sm_tup (D := 0) (L := 20) (ds := [.int r.1, .int r.2]) fun d hd => ?_).mono (Nat.le_refl _) (Nat.le_refl _)
    rcases List.mem_cons.mp hd with rfl | hd
    · exact sm_int (by omega) (by omega)
    · rw [List.mem_singleton.mp hd]
      exact sm_int (by omega) (by omega)
  · rw [List.length_map]
    have := row_len ns 0
    omega
/-- the pairs that a word's law makes are the line's rows -/
theorem pairs_word {u : List Nat} (h : WOk u) : ((fiW u).map fun k : Nat => ((k : Int), (k : Int) + (((stB 0 (piecesOf u)).count (k : Int) : Nat) : Int) - 1)) = rowB 0 (piecesOf u) := by
  have e := fi_word h
  have c := row_count (piecesOf u) 0 (Int.le_refl _)
  generalize rowB 0 (piecesOf u) = R at e c
  generalize fiW u = F at e
  generalize stB 0 (piecesOf u) = S at c
  induction F generalizing R with
  | nil =>
    cases R with
    | nil => rfl
    | cons r R => cases e
  | cons k F ih =>
    cases R with
    | nil => cases e
    | cons r R =>
      rw [List.map_cons, List.map_cons] at e
      injection e with e1 e2
      rw [List.map_cons, ih R e2 fun q hq => c q (by simp [hq])]
      congr 1
      obtain ⟨_, h2⟩ := c r (by simp)
      obtain ⟨a, b⟩ := r
      show ((k : Int), _) = (a, b)
      have e1 : (k : Int) = a := e1
      have h2 : ((S.count a : Nat) : Int) = b - a + 1 := h2
      rw [e1, h2]
      congr 1
      omega
end FR
set_option maxRecDepth 100000
set_option maxHeartbeats 4000000
namespace FR
open PySem PySem.Spec PyProof.Rows L2
section
variable {X : Cx} {K : PySem.W.Frag}
theorem km_lcount (h : X.K = K) : MtR X "list.count" (rCntI K) := h ▸ mt_lcount
end
section
variable {Y : Vol} {K : PySem.W.Frag}
theorem mt_cntL {ns : List Int} {k : Int} : MtS Y K "list" (rCntI K) (.list (ns.map .int)) [.int k] (· = .int ((ns.count k : Nat) : Int)) := fun Hi H v vs p hv h Q q => by
  obtain ⟨a, ws, rfl, h1, h2⟩ := hv.list p.sub
  have e2 := DaAll.ints h2
  subst e2
  obtain ⟨w, rfl, hw⟩ := pair1 h
  exact ⟨a, ns, k, rfl, by rw [hw.int], .inl (.inl h1), q _ _ Hi H (Fr.refl p) (.int _) rfl⟩
end
end FR
namespace FR
open PySem PySem.Spec PyProof.Rows L2
/-! ### the tables of two or three lambdas -/
section
variable {P1 P2 P3 : Addr} {q q1 q2 q3 : Str}
def lam2 (q1 q2 : Str) (P1 P2 : Addr) : List (Addr × Str) := [(P1, q1), (P2, q2)]
def lam3 (q1 q2 q3 : Str) (P1 P2 P3 : Addr) : List (Addr × Str) := [(P1, q1), (P2, q2), (P3, q3)]
theorem lam2_m1 (e : q = q1) : (P1, q) ∈ lam2 q1 q2 P1 P2 := e ▸ .head _
theorem lam2_m2 (e : q = q2) : (P2, q) ∈ lam2 q1 q2 P1 P2 := e ▸ .tail _ (.head _)
theorem lam3_m1 (e : q = q1) : (P1, q) ∈ lam3 q1 q2 q3 P1 P2 P3 := e ▸ .head _
theorem lam3_m2 (e : q = q2) : (P2, q) ∈ lam3 q1 q2 q3 P1 P2 P3 := e ▸ .tail _ (.head _)
theorem lam3_m3 (e : q = q3) : (P3, q) ∈ lam3 q1 q2 q3 P1 P2 P3 := e ▸ .tail _ (.tail _ (.head _))
theorem lam2_c {p : Addr × Str} (h : p ∈ lam2 q1 q2 P1 P2) : p = (P1, q1) ∨ p = (P2, q2) := by
  rcases List.mem_cons.mp h with h | h
  · exact .inl h
  · exact .inr (List.mem_singleton.mp h)
theorem lam3_c {p : Addr × Str} (h : p ∈ lam3 q1 q2 q3 P1 P2 P3) : p = (P1, q1) ∨ p = (P2, q2) ∨ p = (P3, q3) := by
  rcases List.mem_cons.mp h with h | h
  · exact .inl h
  · exact .inr (lam2_c h)
theorem lam2_o1 (h : P1 ≠ P2) (e : q1 = q) : ∀ p ∈ lam2 q1 q2 P1 P2, p.1 = P1 → p.2 = q := fun p hp z => by
  rcases lam2_c hp with rfl | rfl
  · exact e
  · exact absurd z.symm h
theorem lam2_o2 (h : P1 ≠ P2) (e : q2 = q) : ∀ p ∈ lam2 q1 q2 P1 P2, p.1 = P2 → p.2 = q := fun p hp z => by
  rcases lam2_c hp with rfl | rfl
  · exact absurd z h
  · exact e
theorem lam3_o1 (h : P1 ≠ P2) (h2 : P1 ≠ P3) (e : q1 = q) : ∀ p ∈ lam3 q1 q2 q3 P1 P2 P3, p.1 = P1 → p.2 = q := fun p hp z => by
  rcases lam3_c hp with rfl | rfl | rfl
  · exact e
  · exact absurd z.symm h
  · exact absurd z.symm h2
theorem lam3_o2 (h : P1 ≠ P2) (h2 : P2 ≠ P3) (e : q2 = q) : ∀ p ∈ lam3 q1 q2 q3 P1 P2 P3, p.1 = P2 → p.2 = q := fun p hp z => by
  rcases lam3_c hp with rfl | rfl | rfl
  · exact absurd z h
  · exact e
  · exact absurd z.symm h2
theorem lam3_o3 (h : P1 ≠ P3) (h2 : P2 ≠ P3) (e : q3 = q) : ∀ p ∈ lam3 q1 q2 q3 P1 P2 P3, p.1 = P3 → p.2 = q := fun p hp z => by
  rcases lam3_c hp with rfl | rfl | rfl
  · exact absurd z h
  · exact absurd z h2
  · exact e
end
end FR
set_option maxRecDepth 100000
set_option maxHeartbeats 4000000
namespace FR
open PySem PySem.Spec PySem.Calls PyProof.Rows L2 PySem.Builtin PySem.Builtin.Str
/-! ### xs[i] op= n; a list's truth; a chain; a text in a text -/
section
variable {X : Cx} {K : PySem.W.Frag}
theorem get_list : PGet X (rIxL X.K) := by
  intro pins s σ H x y v u Q I rx ry h
  obtain ⟨p, xs, i, z, rfl, rfl, hq, he, q⟩ := h
  cases rx
  obtain ⟨t, rfl⟩ := ry
  obtain ⟨its, r, pl, hz⟩ := I.list hq
  obtain ⟨j, h1, h2, _, h4, h5⟩ := atI_get he
  obtain ⟨w, ew, rw'⟩ := r.get h2
  have hl := r.length
  have hn := line63
  have done : EP X pins σ Q w s := ⟨z, H, I, rw', q⟩
  by_cases h0 : 0 ≤ i
  · rw [seqIndex_of h0 h5] at h1
    have hj : i.toNat = j := Option.some.inj h1
    exact wpAny_getItem_list pl.isList h0 (by omega) (by rw [hj]; simpa using ew) done
  · rw [seqIndex_neg (by omega) h4] at h1
    have hj : (i + (its.toArray.size : Int)).toNat = j := by
      rw [List.size_toArray, ← hl]
      exact Option.some.inj h1
    exact wpAny_getItem_list_neg pl.isList (by omega) (by rw [List.size_toArray] <;> omega) (by omega) (by rw [hj]; simpa using ew) done
theorem kget (h : X.K = K) : PGet X (rIxL K) := h ▸ get_list
def tTru (K : PySem.W.Frag) (ta : TE) : TT := fun σ H Q => ta σ H fun x H' => ∃ k, TruV K x H' k ∧ Q k H'
theorem kpt_tru (h : X.K = K) {a : Expr} {ta : TE} (ha : PE X a ta) (he : ∀ whole, isTrue a X.env whole = (do let v ← whole; standAt a.pos; holding [v] (truthy v))) : PT X a (tTru K ta) := h ▸ pt_truth ha he
end
section
variable {Y : Vol} {K : PySem.W.Frag} {es : List Ent} {ta tb tc te : TE} {O : Out} {a b c : PyData}
theorem tb_truOwn {i : Nat} {ds : List PyData} (hi : es[i]? = some (.own ds)) : TsB Y K es (tTru K (tVar i)) (· = !ds.isEmpty) := fun H0i H0 Hi H σ s Q q => by
  obtain ⟨x, e1, a, vs, rfl, h1, h2, h3, h4, h5⟩ := s.env i _ hi
  refine ⟨.ref a, e1, !vs.isEmpty, .inl ⟨vs, .inl (.inl h4), rfl⟩, q _ _ _ (Fr.refl s.pre) ?_⟩
  cases h5 <;> rfl
theorem ss_augOwn {i j : Nat} {g : Int → Int → Int} {ds : List PyData} {z n m : Int} (hi : es[i]? = some (.own ds)) (hx : EvD Y K es tb (· = .int z)) (hj : ixN ds.length z = some j) (hn : ds[j]? = some (.int n)) (h : EvD Y K es te (· = .int m)) (k : O.nx (es.set i (.own (ds.set j (.int (g n m)))))) : StS Y K es (tAugS (tVar i) tb te (rIxL K) (ipI g) rSetL) O := fun H0i H0 Hi H σ s Dn nn bb cc r => by
  obtain ⟨x, e1, a, vs, rfl, h1, h2, h3, h4, h5⟩ := s.env i _ hi
  refine ⟨.ref a, e1, hx H0i H0 Hi H σ s _ fun w d Hi1 H1 f1 hd p => ?_⟩
  subst p
  cases hd
  obtain ⟨v, hv, dv⟩ := h5.get hn
  cases dv
  have h41 : H1 a = some (.lst vs) := f1.keep _ _ h4 h3 not_tb_lst
  have hat : atI vs z = some (.int n) := by
    unfold atI
    rw [h5.len, hj]
    exact hv
  refine ⟨a, vs, z, .int n, rfl, rfl, .inl (.inl h41), hat, h H0i H0 Hi1 H1 σ (s.step f1) _ fun w d Hi2 H2 f2 hd p => ?_⟩
  subst p
  cases hd
  have f := f1.trans f2
  have h42 : H2 a = some (.lst vs) := f.keep _ _ h4 h3 not_tb_lst
  exact ⟨n, m, rfl, rfl, a, vs, z, j, rfl, rfl, h42, by rw [h5.len]; exact hj, nn Hi2 _ _ _ f.hi ((s.step f).putOwn hi e1 ((DaAll.mono f.hi _ _ h5).set (.int _) j)) k⟩
theorem ev_chaind {r r' : R2} {k1 k2 : Bool} (ha : EvT Y K es ta (· = a)) (hb : EvT Y K es tb (· = b)) (hr : OpS Y K r a b (· = .bool k1)) (hc : EvT Y K es tc (· = c)) (hr' : OpS Y K r' b c (· = .bool k2)) : EvD Y K es (tChain r r' ta tb tc) (· = .bool (k1 && k2)) := fun H0i H0 Hi H σ s Q q =>
  ha H0i H0 Hi H σ s _ fun v d Hi1 H1 f1 vd e1 => hb H0i H0 Hi1 H1 σ (s.step f1) _ fun w d2 Hi2 H2 f2 wd e2 => by
    subst e1 e2
    refine hr Hi2 H2 v w f2.pre (vd.step f2) wd _ fun u d3 Hi3 H3 f3 ud e3 => ?_
    subst e3
    cases ud
    have f := (f1.trans f2).trans f3
    refine ⟨k1, rfl, ?_⟩
    cases k1 with
    | false => exact q _ _ Hi3 H3 f (.bl false) rfl
    | true =>
      refine hc H0i H0 Hi3 H3 σ (s.step f) _ fun w2 d4 Hi4 H4 f4 w2d e4 => ?_
      subst e4
      exact hr' Hi4 H4 w w2 f4.pre ((wd.step f3).step f4) w2d _ fun u d5 Hi5 H5 f5 ud e5 => q u d5 Hi5 H5 ((f.trans f4).trans f5) ud (by rw [e5]; rfl)
theorem os_notInSub {x y : PySem.Str} : OpS Y K (rNotInU K) (.str x) (.str y) (· = .bool (!(!(Builtin.Str.occurrences y x 0 y.length 1).isEmpty))) := fun Hi H v w p ha hb Q q => by
  have e1 : v = .str x := ha.str
  have e2 : w = .str y := hb.str
  subst e1 e2
  exact .inl (.inr ⟨x, y, rfl, rfl, q _ _ Hi H (Fr.refl p) (.bl _) rfl⟩)
/-- two signs that no text of ours holds -/
theorem os_notIn2 {y : List Nat} {p q : Nat} (h : ∀ i, y[i]? = some p → y[i + 1]? = some q → False) : OpS Y K (rNotInU K) (dS [p, q]) (dS y) (· = .bool true) := os_notInSub.mono fun d e => by
  rw [e]
  congr 1
  have : ¬ (!(Builtin.Str.occurrences (SX.S y) (SX.S [p, q]) 0 (SX.S y).length 1).isEmpty) = true := fun z => by
    obtain ⟨i, h1, h2⟩ := (StrLaws.found_iff _ _).mp z
    have l1 : (SX.S y).length = y.length := SX.S_len y
    have l2 : (SX.S [p, q]).length = 2 := SX.S_len [p, q]
    rw [l1, l2] at h1
    unfold Builtin.Str.subAt at h2
    rw [l2] at h2
    have h3 : (SX.S y).cps.extract i (i + 2) = (SX.S [p, q]).cps := beq_iff_eq.mp h2
    have h4 : (y.drop i).take 2 = [p, q] := by
      have := congrArg Array.toList h3
      rw [Array.toList_extract] at this
      simpa [SX.S, List.extract] using this
    refine h i ?_ ?_
    · have h5 := congrArg (fun l => l[0]?) h4
      simpa [List.getElem?_take, List.getElem?_drop] using h5
    · have h5 := congrArg (fun l => l[1]?) h4
      simpa [List.getElem?_take, List.getElem?_drop] using h5
  cases e3 : (!(Builtin.Str.occurrences (SX.S y) (SX.S [p, q]) 0 (SX.S y).length 1).isEmpty) with
  | true => exact absurd e3 this
  | false => rfl
end
/-- a word holds no second place of a row behind filling -/
theorem no_fo {u : List Nat} (h : WOk u) (i : Nat) (h1 : u[i]? = some 102) (h2 : u[i + 1]? = some 111) : False := by
  have hi : i + 1 < u.length := (List.getElem?_eq_some_iff.mp h2).1
  have ok := h.sgn h2
  rw [take_last hi (by omega)] at ok
  have e : u.getD (i + 1 - 1) 0 = 102 := by
    rw [Nat.add_sub_cancel]
    simp [List.getD, h1]
  rw [e] at ok
  cases ok
theorem last_ix (p : List Int) (v : Int) : ixN ((p ++ [v]).map PyData.int).length (-1) = some p.length := by
  rw [List.length_map, List.length_append]
  unfold ixN
  rw [if_neg (by decide), if_pos (by show -((p.length + 1 : Nat) : Int) ≤ -1; omega)]
  congr 1
  show (-1 + ((p.length + 1 : Nat) : Int)).toNat = p.length
  omega
theorem last_at (p : List Int) (v : Int) : ((p ++ [v]).map PyData.int)[p.length]? = some (.int v) := by
  rw [List.getElem?_map, List.getElem?_append_right (Nat.le_refl _), Nat.sub_self]
  rfl
theorem last_set (p : List Int) (v y : Int) : ((p ++ [v]).map PyData.int).set p.length (.int y) = (p ++ [y]).map PyData.int := by
  rw [List.map_append, List.set_append_right _ _ (by rw [List.length_map]; exact Nat.le_refl _), List.length_map, Nat.sub_self, List.map_append]
  rfl
/-- behind filling that begins there is no filling -/
theorem fill_new {u : List Nat} (h : WOk u) (e : piecesOf (u ++ [102]) = piecesOf u ++ [-1]) {p : List Int} {x : Int} (hp : piecesOf u = p ++ [x]) : ¬ x < 0 := fun hx => by
  have pk := pc_ok h
  rw [hp] at pk
  have hl := (pk.sign x (getLast_snoc p x)).mpr hx
  rw [piecesOf_snoc, hp] at e
  unfold pStep at e
  rw [hl, if_neg (by simp), if_pos rfl, addLast_snoc] at e
  have := congrArg List.length e
  simp at this
section
variable {Pg : Program} {w : World} {K : PySem.W.Frag} {mg : Str → Option Value} {base : Heap} {k : Nat} {x : Str} {N : List Str} {st : Stmt} {p1 : Str} {T : List (Addr × Str)} {P0 : Addr}
theorem kng_ofLWl {R : PyData → Prop} (D : Dn K mg x st [p1]) (S : FnScope N [p1] (defScope st)) (hN : 1 ≤ N.length) (lm : LmD K mg base x P0)
    (body : ∀ (f c : Addr) (cdv : Value) (A : Around) (outer : List Env) (s : Shared) (H : Hp) (E : XK), (A.deeper (envOfC x (defScope st) s.heap.objs.size f cdv)).guards = some [] → Room k (A.deeper (envOfC x (defScope st) s.heap.objs.size f cdv)) → (A.deeper (envOfC x (defScope st) s.heap.objs.size f cdv)).units + 64 < cLine → cdv = .ref c → LamX.TabB base mg c P0 →
      ∃ t, PSs (cxOf CX0 Pg w K mg base N x (defScope st) f cdv A outer s H E).nox (defBody st) t ∧ ∀ (Y : Vol) (a : Addr), Y.Well a → Y.Lam T → StS Y K (.raw (.ref a) :: List.replicate (N.length - 1) .unk) t { nx := fun _ => R .none, rt := R }) :
    KnG Pg w K mg base (k + 1) x [p1] (spLW K T R) := by
  obtain ⟨f, fd, F, g, b⟩ := D
  have lk := lk_of F
  refine ⟨f, fd, fun_okG F S (fun vs H Q E h => by obtain ⟨_, _, _, e, _⟩ := h; rw [e]; rfl) (fun cdv A outer s H vs Q E hG hr hcd hlk h => ?_), g, F.kp, b, lk⟩
  obtain ⟨c, ec⟩ := He.codeIn_ref hcd
  obtain ⟨oc, od, an, kV, doc, pm, ct, osl, l2⟩ := hlk
  have tb : LamX.TabB base mg c P0 := lm f c _ g ⟨oc, od, osl, l2⟩ ec
  obtain ⟨t, ht, hs⟩ := body f c cdv A outer s H E hG hr (by have := hr.un; omega) ec tb
  obtain ⟨Y, a, Hi, rfl, hW, hL, p, q⟩ := h
  refine ⟨t, ht.nox, hs Y a hW hL Hi H Hi H _ (st0 (vs := [_]) p hN ?_ fun i e hi => ?_) _ (fun Hi' H' σ' es' _ s' o => q _ _ Hi' H' s'.fr .non o) (fun _ _ _ _ _ _ o => o.elim) (fun _ _ _ _ _ _ o => o.elim) (fun v d Hi' H' f hv o => q v d Hi' H' f hv o)⟩
  · rw [List.length_cons, List.length_replicate]
    omega
  · match i, hi with
    | 0, hi =>
      cases hi
      exact .inr ⟨_, rfl, .inr rfl⟩
    | i + 1, hi =>
      rw [List.getElem?_cons_succ] at hi
      obtain ⟨_, e⟩ := List.getElem?_eq_some_iff.mp hi
      rw [List.getElem_replicate] at e
      exact .inl e.symm
end
end FR
set_option maxRecDepth 100000
set_option maxHeartbeats 4000000
namespace FR
open PySem PySem.Spec PySem.Calls PyProof.Rows L2
/-! ### try: .. except (A, B, C) as n: .. -/
/-- what that clause wishes of an exception of the body, which is of one of the three -/
def wAs3 (K : PySem.W.Frag) (c1 c2 c3 : Value) (i : Nat) (ts : Addr → Value → Option Addr → TS) (D : Ends) : WX := fun cls d σ H =>
  PySem.W.exmAny K cls [c1, c2, c3] = some true ∧ ∀ a, H a = none → ts a cls d { nx := fun ρ G => D.nx (ρ.set i none) G, rt := D.rt, bk := fun ρ G => D.bk (ρ.set i none) G, ct := fun ρ G => D.ct (ρ.set i none) G } (σ.set i (some (.ref a))) H
theorem flies_on {base h g : Heap} {l : List Env} {e : Addr} {Z : Obj → Prop} (f : HandSPX.FlyingZ base l e Z h) (k : ∀ b o, h.get? b = some o → g.get? b = some o) : HandSPX.FlyingZ base l e Z g := by
  obtain ⟨f1, f2, f3, oe, vs, T, oT, ts, t1, t2, t3, t4, t5, t6, t7, t8, t9⟩ := f
  exact ⟨fun b o q => k b o (f1 b o q), f2, f3.of_keeps fun b o q _ => ⟨o, k b o q, rfl⟩, oe, vs, T, oT, ts, k _ _ t1, t2, t3, t4, t5, t6, k _ _ t7, t8, t9⟩
section
variable {X : Cx} {x1 x2 x3 n : Str} {c1 c2 c3 : Value} {i : Nat} {body suite : List Stmt} {b₀ : Stmt} {p1 p2 p3 tp pos pos' : Pos} {tb : WX → TS} {ts : Addr → Value → Option Addr → TS}
theorem ps_try_as3 {cx} (hs : X.stack = X.env :: X.outer) (hf : X.env.frame = some X.env.locals) (hN : X.N.Nodup) (hi : X.N[i]? = some n) (hln : X.env.kindOf n = some .local) (h1 : Names X x1 c1) (h2 : Names X x2 c2) (h3 : Names X x3 c3)
    (hb : ∀ (W : WX) (pn : List (Addr × Obj)) (xe : Value → Shared → Prop), Takes (X.tr pn xe) W → PassesOwn (model X.prog X.w) X.A X.env xe → PSs (X.tr pn xe) body (tb W))
    (hsu : ∀ (a : Addr) (oe : Obj) (cls : Value) (d : Option Addr) (pn : List (Addr × Obj)), Zc cls d oe → (∃ vs, oe.data = .fields vs) → PSs (X.suite a ((a, oe) :: pn)) (b₀ :: suite) (ts a cls d)) :
    PS X (.Try body [.ExceptHandler (some (.Tuple [.Name x1 p1, .Name x2 p2, .Name x3 p3] cx tp)) (some n) (b₀ :: suite) pos'] [] [] pos) (fun D σ H => tb (wAs3 X.K c1 c2 c3 i ts D) D σ H) := by
  constructor
  intro pins s σ H D I h
  have okX := I.ok
  have frX : X.A.frames = some (X.env :: X.outer) := okX.frames.trans (by rw [hs])
  apply wpAny_Try_except
  refine wpAny_mono ((hb (wAs3 X.K c1 c2 c3 i ts D) (X.pn ++ pins) (fun e t1 => wpAny (model X.prog X.w) X.A (noteFrame e X.env) (fun _ t2 => wpAny (model X.prog X.w) X.A (setFlight e none) (fun _ t3 => wpAny (model X.prog X.w) X.A (handleBy e X.env [.ExceptHandler (some (.Tuple [.Name x1 p1, .Name x2 p2, .Name x3 p3] cx tp)) (some n) (b₀ :: suite) pos']) (SP X pins D) X.xe t3) X.xe t2) X.xe t1)
    (fun u s' xx => ?_) PassesOwn.looking).run [] s σ H D (I.toTry _) h) (fun f t1 hsp => ?_) (fun e t1 q => q)
  · obtain ⟨a, B, t0, qs, ρ, G, cls, d, rfl, J0, nb, u1, sk, nG, eo, eg, hany, hyes⟩ := xx
    have J := J0.ofTry okX
    have sk2 : Sky B (X.env :: X.outer) a (Zc cls d) X.env.locals s'.heap := hs ▸ sk
    show wpAny (model X.prog X.w) X.A (noteFrame (.ref a) X.env) _ _ _
    apply Sky.land Zc.steady frX hf sk2
    intro g3 fl u2
    have J3 : Inv X pins ρ G { s' with heap := g3 } := J.landed nb fl.1 (u1.trans u2) eo eg
    obtain ⟨o3, v3, e3, z3, d3⟩ := fl.there
    have nfr : a ∉ frs (X.env :: X.outer) := fun hm => by
      obtain ⟨_, o', e', hnf⟩ := fl.2.2.1.mem hm
      rw [e3] at e'
      cases e'
      exact hnf _ d3
    have nL : a ≠ X.env.locals := fun z => nfr (List.mem_filterMap.mpr ⟨_, List.mem_cons_self, hf.trans (by rw [z])⟩)
    have nF : a ∉ X.fs := fun hm => by
      obtain ⟨e, he, q⟩ := List.mem_filterMap.mp hm
      exact nfr (List.mem_filterMap.mpr ⟨e, .tail _ he, q⟩)
    have S3 := J3.suite e3 d3 nG nL nF
    have named : ∀ {x : Str} {c : Value} {p : Pos} {Q : Value → Shared → Prop} {E : Value → Shared → Prop}, Names X x c → Q c { s' with heap := g3 } → wpAny (model X.prog X.w) (X.A.mark (some (.ref a))) (eval (.Name x p) X.env) Q E { s' with heap := g3 } := fun {x c p Q E} hc q => by
      rcases hc with ⟨hg, hdb, hm | ⟨hm, hv, hnn⟩⟩
      · exact ld_glob (X := X.suite a ((a, o3) :: (X.pn ++ pins))) S3 hg hm q hdb
      · exact ld_blt (X := X.suite a ((a, o3) :: (X.pn ++ pins))) S3 hg hm hv q hnn hdb
    apply wpAny_handleBy_cons (codeAny_handlers_test ?_) (by intro q; cases q)
    apply wpAny_Tuple_spliced
    show wpAny _ _ (spliced [(false, eval (.Name x1 p1) X.env), (false, eval (.Name x2 p2) X.env), (false, eval (.Name x3 p3) X.env)]) _ _ _
    refine Calls.spliced_cons (named h1 (Calls.spliced_cons (named h2 (Calls.spliced_cons (named h3 (Calls.spliced_nil ⟨by show 3 ≤ sizeLine; rw [sizeLine_eq]; decide, ?_⟩))))))
    -- one more tuple
    have kp : ∀ b o, g3.get? b = some o → (g3.push { cls := .type "tuple", data := .seq [c1, c2, c3].toArray }).get? b = some o := fun b o e => Heap.get?_push_of_some _ e
    have fl' := flies_on fl kp
    have e3' := kp _ _ e3
    have u3 := u2.trans (Heap.UpToSlots.of_keeps kp)
    have J3' : Inv X pins ρ G { s' with heap := g3.push { cls := .type "tuple", data := .seq [c1, c2, c3].toArray } } := J.landed nb fl'.1 (u1.trans u3) eo eg
    have LT : PySem.W.Looks (model X.prog X.w) (g3.push { cls := .type "tuple", data := .seq [c1, c2, c3].toArray }) (typeOf (.ref a)) cls := fun A Q E s k q => wpAny_typeOf_ref (k _ _ e3') (by rw [z3.1]; exact q)
    refine (PySem.W.exm_tup3 (M := model X.prog X.w) J3'.kIn LT (Heap.get?_push_size _ rfl) hany).here ?_
    apply codeAny_handlers_suite_as
    apply HandSPX.lands_againZ fl'
    intro g4 fl4 u4
    have J4 : Inv X pins ρ G { s' with heap := g4 } := J.landed nb fl4.1 (u1.trans (u3.trans u4)) eo eg
    obtain ⟨o4, v4, e4, z4, d4⟩ := fl4.there
    apply store_ok (X := X.suite a ((a, o4) :: (X.pn ++ pins))) (v := .ref a) (J4.suite e4 d4 nG nL nF) hN hi (.inl hln) rfl (fun s5 S5 => ?_) (.inr hln)
    refine wpAny_mono ((hsu a o4 cls d (X.pn ++ pins) z4 ⟨_, d4⟩).run [] s5 _ G _ S5 (hyes a nG)) (fun f s6 r6 => ?_) (fun _ _ z => z.elim)
    have leave : ∀ {ρ6 : L2.St} {G6 : Hp} {Q : Shared → Prop}, Inv (X.suite a ((a, o4) :: (X.pn ++ pins))) [] ρ6 G6 s6 → (∀ s7, Inv X pins (ρ6.set i none) G6 s7 → Q s7) → wpAny (model X.prog X.w) X.A (do bindName X.env n .none; unbindBehindTheSuite X.env n pos') (fun _ s7 => Q s7) X.xe s6 := fun {ρ6 G6 Q} S6 hq => gone_ok (S6.unsuite okX) hN hi hln hq
    match f, r6 with
    | .next, ⟨_, _, S6, q6⟩ => exact leave S6 fun s7 J7 => ⟨_, _, J7, q6⟩
    | .brk, ⟨_, _, S6, q6⟩ => exact leave S6 fun s7 J7 => ⟨_, _, J7, q6⟩
    | .cont, ⟨_, _, S6, q6⟩ => exact leave S6 fun s7 J7 => ⟨_, _, J7, q6⟩
    | .ret u, ⟨_, _, _, S6, rv6, q6⟩ => exact leave S6 fun s7 J7 => ⟨_, _, _, J7, rv6, q6⟩
  · match f, hsp with
    | .next, ⟨_, _, J1, q⟩ => exact wpAny_execs_nil ⟨_, _, J1.ofTry okX, q⟩
    | .brk, ⟨_, _, J1, q⟩ => exact ⟨_, _, J1.ofTry okX, q⟩
    | .cont, ⟨_, _, J1, q⟩ => exact ⟨_, _, J1.ofTry okX, q⟩
    | .ret u, ⟨_, _, _, J1, r, q⟩ => exact ⟨_, _, _, J1.ofTry okX, r, q⟩
end
end FR
set_option maxRecDepth 100000
set_option maxHeartbeats 4000000
namespace FR
open PySem PySem.Spec PySem.Calls PyProof.Rows L2 L2H
/-! ### an exception that is held: p = (where, what); its class D, its dict d -/
/-- the exception's dict is as it was made: a field n of the value v (or there is none) -/
def XdAt (H : Hp) (d : Option Addr) : Prop := d = none ∨ ∃ dd fs, d = some dd ∧ H dd = some (.xd fs)
def rIsP (K : PySem.W.Frag) (D : Addr) (d : Option Addr) (a : Addr) : List V → Hp → VK → Prop := fun xs H Q => XdAt H d ∧ ∃ (c : V) (cv : Value) (b : Bool), xs = [.ref a, c] ∧ (∀ u, RelV c u → u = cv) ∧ PySem.W.kitOne K (.ref D) cv = some b ∧ Q (.bl b) H
theorem inst_at {P : Program} {w : World} {H : Hp} {h : Heap} {p : Addr × Obj} {D : Addr} {d : Option Addr} (hok : HOk P w H h) (hg : h.get? p.1 = some p.2) (hz : Zc (.ref D) d p.2) (hf : ∃ vs, p.2.data = .fields vs) (hx : XdAt H d) : ∃ od, PySem.W.InstAt h p.1 p.2 D od := by
  obtain ⟨vs, hv⟩ := hf
  rcases hx with rfl | ⟨dd, fs, rfl, hd⟩
  · exact ⟨none, hg, hz.1, by unfold PySem.W.notCls; rw [hv] <;> rfl, by rw [hz.2]; trivial⟩
  · have x : ObjOk P w H h dd (.xd fs) := hok dd _ hd
    obtain ⟨mA, hns, _⟩ := x
    obtain ⟨od, ho, _⟩ := lookIn_ns hns
    exact ⟨some od, hg, hz.1, by unfold PySem.W.notCls; rw [hv] <;> rfl, by rw [hz.2]; exact ho⟩
theorem call_isP {X : Cx} {p : Addr × Obj} {D : Addr} {d : Option Addr} {K : PySem.W.Frag} (hK : X.K = K) (hp : p ∈ X.pn) (C : ExcC K D) (hz : Zc (.ref D) d p.2) (hf : ∃ vs, p.2.data = .fields vs) : CallR X (.builtin "isinstance") (rIsP K D d p.1) := by
  subst hK
  intro pins s σ H xs us Q I r h
  obtain ⟨hx, c, cv, b, rfl, hcv, e, q⟩ := h
  match r with
  | .cons rx (.cons rt .nil) =>
    cases rx
    have ec := hcv _ rt
    subst ec
    obtain ⟨od, J⟩ := inst_at I.hok (I.pin p (List.mem_append_left _ hp)).1 hz hf hx
    have hcl : (PySem.W.clsIn X.K D).isSome = true := by
      obtain ⟨cd, hc, _⟩ := PySem.W.any_some C.hd
      rw [hc]
      rfl
    exact PySem.W.kia_one (PySem.W.kitx_exc hcl C.hg C.hk C.hs C.ha C.hn C.ht C.hm) I.kIn J e (fun z => nomatch z) fun tk => ⟨.bl b, H, I.kept (t' := tk) fun _ _ z => z, rfl, q⟩
/-- e.n, of the exception that is held -/
def tXp (a D : Addr) (d : Option Addr) (f : Str) (te : TE) : TE := fun σ H Q => te σ H fun x H1 => x = .ref a ∧ ∃ (dd : Addr) (fs : List (Str × V)) (v : V), d = some dd ∧ H1 dd = some (.xd fs) ∧ fs.lookup f = some v ∧ Q v H1
theorem pe_xp {X : Cx} {p : Addr × Obj} {D : Addr} {d : Option Addr} {e : Expr} {te : TE} {pos : Pos} {n : Str} (hp : p ∈ X.pn) (T : XfC X.K D) (hno : PySem.W.findIn X.K (.ref D) n = some none) (hz : Zc (.ref D) d p.2) (hf : ∃ vs, p.2.data = .fields vs) (he : PE X e te)
    (hb : attributeBase e n X.env (eval e X.env) = eval e X.env := by rfl) : PE X (.Attribute e n pos) (tXp p.1 D d n te) := by
  constructor
  intro pins s σ H Q I h
  apply attr_of hb
  refine thn (he.run pins s σ H _ I h) fun u s1 ⟨x, H1, I1, rx, ex, dd, fs, v, ed, ea, l, q⟩ => ?_
  subst ex ed
  obtain rfl : u = Value.ref p.1 := rx
  obtain ⟨vs, hd⟩ := hf
  have hx : ObjOk X.prog X.w H1 s1.heap dd (.xd fs) := I1.hok dd _ ea
  obtain ⟨mA, hns, hr⟩ := hx
  obtain ⟨od, ho, hl⟩ := lookIn_ns hns
  obtain ⟨u, hu, ru⟩ := RelO.some_of (v := v) (o := mA n) (by rw [← l]; exact hr n)
  have J : PySem.W.InstAt s1.heap p.1 p.2 D (some od) := ⟨(I1.pin p (List.mem_append_left _ hp)).1, hz.1, by unfold PySem.W.notCls; rw [hd] <;> rfl, by rw [hz.2]; exact ho⟩
  exact HandSPX.exc_get I1.kIn J T.ga T.gg T.exC (PySem.W.findObj_own T.hdC hno rfl (by rw [hl, hu])) (handed_of ru) ⟨v, H1, I1.tok _, ru, q⟩
/-! ### defs called where an exception is held, told of it -/
abbrev SpP := Addr → Value → Option Addr → Sp
structure FnP (P : Program) (w : World) (K : PySem.W.Frag) (mg : Str → Option Value) (base : Heap) (k : Nat) (f : Addr) (fd : FuncData) (ps : List Str) (sp : SpP) : Prop where
  len : ∀ a cls d vs H Q E, sp a cls d vs H Q E → vs.length = ps.length
  go : ∀ (A : Around) (outer : List Env) (s : Shared) (H : Hp) (args : Args) (us : List Value) (vs : List V) (Q : VK) (E : XK) (p : Addr × Obj) (cls : Value) (d : Option Addr), A.guards = some [] → RoomH k A → Zc cls d p.2 → (∃ vs, p.2.data = .fields vs) → PinOk outer H s p → Env0 P w K mg base A outer s H → BindsTo s fd args (ps.zip us) → Vals vs us → sp p.1 cls d vs H Q E →
    codeAny (model P w) A (.call (.ref f) args) (CR CX0 outer P w H s Q E) s
section
variable {P : Program} {w : World} {K : PySem.W.Frag} {mg : Str → Option Value} {base : Heap} {k : Nat} {f : Addr} {fd : FuncData} {x : Str} {st : Stmt} {N ps : List Str} {sp : SpP}
theorem fn_ofP (F : Fun K x x st f fd) (S : FnScope N ps (defScope st)) (len : ∀ a cls d vs H Q E, sp a cls d vs H Q E → vs.length = ps.length)
    (body : ∀ (cdv : Value) (A : Around) (outer : List Env) (s : Shared) (H : Hp) (vs : List V) (Q : VK) (E : XK) (p : Addr × Obj) (cls : Value) (d : Option Addr), (A.deeper (envOfC x (defScope st) s.heap.objs.size f cdv)).guards = some [] → RoomH k (A.deeper (envOfC x (defScope st) s.heap.objs.size f cdv)) → Zc cls d p.2 → (∃ vs, p.2.data = .fields vs) → sp p.1 cls d vs H Q E →
      ∃ t, PSs (cxH CX0 P w K mg base N x (defScope st) f cdv A outer s H E p) (defBody st) t ∧ t { nx := fun _ H' => Q .non H', rt := Q } (L2.start N vs) H) : FnP P w K mg base (k + 1) f fd ps sp := by
  obtain ⟨oc, od, kV, doc, pm, an, cdv, ct, osl, rfl, lk, hcd⟩ := F.ex
  refine ⟨len, fun A outer s H args us vs Q E p cls d hg hr hz hf hpin e0 hb r hsp => ?_⟩
  have old : ∀ b o, base.get? b = some o → s.heap.get? b = some o := fun b o e => (e0.bs b o e).1
  have par : ∀ y ∈ ps.zip us, (defScope st).names.lookup y.1 = some .local ∨ ((defScope st).names.lookup y.1 = some .cell ∧ ((cellsFrom (s.heap.objs.size + 1) (defScope st).names []).lookup y.1).isSome = true) := by
    rintro ⟨a, b⟩ hy
    cases S.par a (List.of_mem_zip hy).1 with
    | inl q => exact .inl q
    | inr q => exact .inr ⟨q, PySem.W.cellsFrom_some _ _ _ (.inl q)⟩
  apply codeAny_call_function hr.depth (e0.mod.kin.keeps old _ _ lk) rfl S.co S.gen rfl (PySem.W.codeRec_of (e0.mod.kin.keeps old) hcd)
  apply hb
  apply wpAny_newFunctionEnv_cells S.kind par
  intro env he s1 xx
  subst he
  refine ⟨(e0.mod.nolimit.keeps old).keeps xx.toInCall.keep, codeAny_func ?_⟩
  obtain ⟨t, ht, q⟩ := body cdv A outer s H vs Q E p cls d hg (hr.deeper _) hz hf hsp
  apply wpAny_mono (ht.run [] s1 _ H _ (inv_startH S hpin e0 (len _ _ _ _ _ _ _ hsp) r xx) q)
  · intro fl s' hs
    match fl, hs with
    | .ret u, ⟨v, σ', H', J, rv, z⟩ => exact ⟨v, H', J.os, J.bare, J.base, J.hok, rv, z⟩
    | .next, ⟨σ', H', J, z⟩ => exact ⟨V.non, H', J.os, J.bare, J.base, J.hok, rfl, z⟩
    | .brk, ⟨_, _, _, z⟩ => exact z.elim
    | .cont, ⟨_, _, _, z⟩ => exact z.elim
  · exact fun e s' hs => hs
end
def KnP (P : Program) (w : World) (K : PySem.W.Frag) (mg : Str → Option Value) (base : Heap) (k : Nat) (x : Str) (ps : List Str) (sp : SpP) : Prop :=
  ∃ f fd, FnP P w K mg base k f fd ps sp ∧ mg x = some (.ref f) ∧ PySem.W.keepIn K (.ref f) = true ∧ Binds K fd ps []
section
variable {X : Cx} {k : Nat} {ps : List Str} {sp : SpP} {x : Str} {q pos : Pos} {e : Expr} {es : List Expr} {t : TA} {p : Addr × Obj} {cls : Value} {d : Option Addr}
theorem run_P {f : Addr} {fd : FuncData} {pins : List (Addr × Obj)} {σ : L2.St} {H : Hp} {s : Shared} {Q : VK} {us : List Value} {vs : List V} (F : FnP X.prog X.w X.K X.mg X.base k f fd ps sp) (hG : X.A.guards = some []) (hr : RoomH k X.A) (hp : p ∈ X.pn) (hz : Zc cls d p.2) (hf : ∃ vs, p.2.data = .fields vs) (hb : Binds X.K fd ps [])
    (I : Inv X pins σ H s) (r : Vals vs us) (h : sp p.1 cls d vs H Q E0) : wpAny (model X.prog X.w) X.A (call (.ref f) us) (EP X pins σ Q) X.xe s := by
  have hl : us.length = ps.length := by rw [← r.length]; exact F.len _ _ _ _ _ _ _ h
  have b := hb s us I.kIn (by rw [List.append_nil]; exact hl)
  rw [List.append_nil] at b
  have P1 := I.pin p (List.mem_append_left _ hp)
  have hpin : PinOk X.stack H s p := ⟨P1.1, P1.2.1, fun hm => (List.mem_cons.mp (I.stkSub p.1 hm)).elim P1.2.2.1 P1.2.2.2.1, P1.2.2.2.2⟩
  apply wpAny_call
  apply codeAny_mono (F.go X.A X.stack s H ⟨us, []⟩ us vs Q E0 p cls d hG hr hz hf hpin I.env0 b r h)
  intro r' s' hq
  match r', hq with
  | .error e, hq => exact (show False from hq).elim
  | .ok (.ret u), hq => exact I.after hq
  | .ok .next, hq => exact False.elim hq
  | .ok .brk, hq => exact False.elim hq
  | .ok .cont, hq => exact False.elim hq
def tCallP (sp : SpP) (a : Addr) (cls : Value) (d : Option Addr) (t : TA) : TE := fun σ H Q => t σ H fun vs H1 => sp a cls d vs H1 Q E0
theorem pe_callP (h : KnP X.prog X.w X.K X.mg X.base k x ps sp) (hG : X.A.guards = some []) (hr : RoomH k X.A) (hp : p ∈ X.pn) (hz : Zc cls d p.2) (hf : ∃ vs, p.2.data = .fields vs) (ha : PA X (e :: es) t) (hg : Gl X x := by rfl) (hdb : (x == ("__debug__" : Str)) = false := by decide)
    (he : starEach (e :: es) X.env = (false, eval e X.env) :: starEach es X.env := by rfl) (hpl : (backTo pos (starEach es X.env)).any (·.1) = false := by rfl) : PE X (.Call (.Name x q) (e :: es) [] pos) (tCallP sp p.1 cls d t) := by
  obtain ⟨f, fd, F, m, kp, b⟩ := h
  constructor
  intro pins s σ H Q I h
  apply wpAny_Call_Name_kw
  refine ld_glob I hg m ?_ hdb
  refine PySem.W.callWith_K (h₀ := X.base) I.ok.mod.kin kp ?_ he hpl
  exact thn (ha.run pos pins s σ H _ I h) fun us s1 ⟨vs, H1, I1, r, q⟩ => ⟨I1.kIn, run_P F hG hr hp hz hf b I1 r q⟩
theorem pe_callP0 (h : KnP X.prog X.w X.K X.mg X.base k x ps sp) (hG : X.A.guards = some []) (hr : RoomH k X.A) (hp : p ∈ X.pn) (hz : Zc cls d p.2) (hf : ∃ vs, p.2.data = .fields vs) (hg : Gl X x := by rfl) (hdb : (x == ("__debug__" : Str)) = false := by decide) : PE X (.Call (.Name x q) [] [] pos) (tCallP sp p.1 cls d tNil) := by
  obtain ⟨f, fd, F, m, kp, b⟩ := h
  constructor
  intro pins s σ H Q I h
  apply wpAny_Call_Name_kw
  refine ld_glob I hg m ?_ hdb
  exact PySem.W.callWith_K0 I.kIn kp (run_P F hG hr hp hz hf b I .nil h)
end
end FR
set_option maxRecDepth 100000
set_option maxHeartbeats 4000000
namespace FR
open PySem PySem.Spec PySem.Calls PyProof.Rows L2 L2H
/-! ### count and index of flat items -/
def rCntF (K : PySem.W.Frag) : V → List V → Hp → VK → Prop := fun x xs H Q => ∃ (a : Addr) (ys : List V) (y : V), x = .ref a ∧ xs = [y] ∧ SqL K H a ys ∧ flatV y = true ∧ ys.all flatV = true ∧ Q (.int ((ys.countP fun z => eqV z y : Nat) : Int)) H
theorem count_eqU {y : V} : ∀ {ys : List V} {us : List Value}, Vals ys us → ys.all flatV = true → us.countP (eqU y) = ys.countP fun z => eqV z y
  | _, _, .nil, _ => rfl
  | z :: ys, u :: us, .cons r t, f => by
    rw [List.all_cons, Bool.and_eq_true] at f
    rw [List.countP_cons, List.countP_cons, count_eqU t f.2, eqU_of r f.1]
section
variable {X : Cx} {K : PySem.W.Frag}
theorem mt_lcountF : MtR X "list.count" (rCntF X.K) := by
  intro pins s σ H x xs v us Q I rx rxs h
  obtain ⟨a, ys, y, rfl, rfl, hs, fy, fys, q⟩ := h
  cases rx
  match rxs with
  | .cons (b := uy) ry .nil =>
    obtain ⟨its, rv, ⟨⟨cls, dd, data, sl⟩, n, ho, hc, hdn, hd⟩, _⟩ := I.list hs
    simp only at hc hd
    subst hc hd
    refine call_meets PySem.F.slot_list_count ⟨_, ho, rfl⟩ PySem.F.entry_list_count (PySem.F.args_list_count_2 _ _) (SeqAt.list_countAt a its.toArray n dd sl _ (eqU y)) ⟨ho, fun u hu => mem_eqAt ry fy rv fys u (by simpa using hu), ?_⟩
    refine ⟨.int ((ys.countP fun z => eqV z y : Nat) : Int), H, I.tok _, ⟨s.toks, ?_⟩, q⟩
    show Value.int ((its.toArray.toList.countP (eqU y) : Nat) : Int) s.toks = _
    rw [← count_eqU rv fys]
theorem km_lcountF (h : X.K = K) : MtR X "list.count" (rCntF K) := h ▸ mt_lcountF
theorem km_index (h : X.K = K) : MtR X "list.index" (rIndex K) := h ▸ mt_index
end
theorem flat_bools (bs : List Bool) : (bs.map V.bl).all flatV = true := by
  rw [List.all_map]
  exact List.all_eq_true.mpr fun _ _ => rfl
section
variable {Y : Vol} {K : PySem.W.Frag} {es : List Ent}
theorem mt_cntB {bs : List Bool} : MtS Y K "list" (rCntF K) (.list (bs.map .bool)) [.bool true] (· = .int ((bs.count true : Nat) : Int)) := fun Hi H v vs p hv h Q q => by
  obtain ⟨a, ws, rfl, h1, h2⟩ := hv.list p.sub
  have e2 := DaAll.bools h2
  subst e2
  obtain ⟨w, rfl, hw⟩ := pair1 h
  refine ⟨a, bs.map V.bl, .bl true, rfl, by rw [hw.bool], .inl (.inl h1), rfl, flat_bools bs, ?_⟩
  have e : (bs.map V.bl).countP (fun z => eqV z (.bl true)) = bs.count true := by
    rw [List.countP_map]
    exact List.countP_congr fun b _ => by cases b <;> simp [eqV]
  rw [e]
  exact q _ _ Hi H (Fr.refl p) (.int _) rfl
theorem mt_idxB {bs : List Bool} {j : Nat} (hj : bs[j]? = some true) (hn : ∀ m, m < j → bs[m]? = some false) : MtS Y K "list" (rIndex K) (.list (bs.map .bool)) [.bool true] (· = .int (j : Int)) := fun Hi H v vs p hv h Q q => by
  obtain ⟨a, ws, rfl, h1, h2⟩ := hv.list p.sub
  have e2 := DaAll.bools h2
  subst e2
  obtain ⟨w, rfl, hw⟩ := pair1 h
  refine ⟨a, bs.map V.bl, .bl true, j, .bl true, rfl, by rw [hw.bool], .inl (.inl h1), rfl, flat_bools bs, by rw [List.getElem?_map, hj]; rfl, rfl, fun m z hm hz => ?_, q _ _ Hi H (Fr.refl p) (.int _) rfl⟩
  rw [List.getElem?_map, hn m hm] at hz
  cases hz
  rfl
end
/-! ### the caught error's dict stays -/
def addX (Y : Vol) (dd : Addr) (fs : List (Str × V)) : Vol where
  W := fun b => Y.W b ∨ b = dd
  I := fun H => Y.I H ∧ H dd = some (.xd fs)
  stable := fun H H' e i => ⟨Y.stable H H' (fun b o q z => e b o q (by rcases z with z | z; exact .inl (.inl z); exact .inr z)) i.1, e _ _ i.2 (.inl (.inr rfl))⟩
  there := fun H b z i => by
    rcases z with z | z
    · exact Y.there H b z i.1
    · rw [z, i.2]
      exact fun q => nomatch q
section
variable {Y : Vol} {K : PySem.W.Frag} {Hi H Hi' H' : Hp} {dd : Addr} {fs : List (Str × V)}
theorem Pre.addX (p : Pre Y Hi H) (hd : H dd = some (.xd fs)) (hn : Hi dd = none) : Pre (addX Y dd fs) Hi H := by
  refine ⟨p.sub, ⟨p.inv, hd⟩, fun b o h => ⟨fun z => ?_, (p.out b o h).2⟩⟩
  rcases z with z | z
  · exact (p.out b o h).1 z
  · rw [z, hn] at h
    cases h
theorem Fr.ofX (f : Fr (addX Y dd fs) Hi H Hi' H') (hd : H dd = some (.xd fs)) : Fr Y Hi H Hi' H' where
  hi := f.hi
  sub := f.sub
  inv := f.inv.1
  out := fun b o h => ⟨fun z => (f.out b o h).1 (.inl z), (f.out b o h).2⟩
  keep := fun b o h hw ht => by
    by_cases e : b = dd
    · subst e
      rw [hd] at h
      cases h
      exact f.inv.2
    · exact f.keep b o h (fun z => by rcases z with z | z; exact hw z; exact e z) ht
  new := f.new
end
section
variable {Y : Vol} {K : PySem.W.Frag} {es : List Ent} {i : Nat} {a D dd : Addr} {fs : List (Str × V)} {c : V} {cv : Value} {b : Bool}
theorem ev_isP (hi : es[i]? = some (.raw (.ref a))) (hX : ∀ H, Y.I H → H dd = some (.xd fs)) (hk : PySem.W.kitOne K (.ref D) cv = some b) (hcv : ∀ u, RelV c u → u = cv) : EvD Y K es (tCB (rIsP K D (some dd) a) (tCons (tVar i) (tCons (tC c) tNil))) (· = .bool b) := fun H0i H0 Hi H σ s Q q => by
  obtain ⟨x, e1, hx⟩ := s.env i _ hi
  cases hx
  exact ⟨.ref a, e1, .inr ⟨dd, fs, rfl, hX _ s.fr.inv⟩, c, cv, b, rfl, hcv, hk, q _ _ _ _ (Fr.refl s.pre) (.bl b) rfl⟩
end
/-! ### the classes of the errors -/
def clsN : List Str := ["InvalidLine", "InvalidPlan", "InvalidKind", "InvalidNumber", "InvalidIndex", "InvalidText", "InvalidName", "InvalidWish", "NotAProgram", "InvalidLayers", "InvalidChanges", "WrongRow", "UnknownName", "InUse", "NothingToUndo", "Broken", "TooMany"]
def basN : List Str := ["WrongValue", "WrongName", "NoAnswer"]
def bltN : List String := ["ValueError", "LookupError", "ArithmeticError"]
def inB (j : Nat) : List Bool := [decide ((j : Int) < 12), decide ((11 : Int) < j) && decide ((j : Int) < 14), decide ((13 : Int) < j)]
/-- the module's names of the classes, the built-in ones -/
structure ClsG (K : PySem.W.Frag) (mg : Str → Option Value) : Prop where
  own : ∀ n, n ∈ clsN ++ basN → mg n = some (.ref (He.ga K n))
  blt : ∀ n, n ∈ bltN.map Str.ofString → mg n = none
/-- the class at D is the j-th -/
structure ErrF (K : PySem.W.Frag) (D : Addr) (j : Nat) : Prop where
  lt : j < 17
  ex : ExcC K D
  xf : XfC K D
  ng : PySem.W.findIn K (.ref D) "given" = some none
  own : ∀ (i : Nat) (n : Str), clsN[i]? = some n → PySem.W.kitOne K (.ref D) (.ref (He.ga K n)) = some (decide (i = j))
  bas : ∀ (i : Nat) (n : Str) (b : Bool), basN[i]? = some n → (inB j)[i]? = some b → PySem.W.kitOne K (.ref D) (.ref (He.ga K n)) = some b
  blt : ∀ (i : Nat) (n : String) (b : Bool), bltN[i]? = some n → (inB j)[i]? = some b → PySem.W.kitOne K (.ref D) (.type n) = some b
theorem bt_ve : bootBuiltins "ValueError" = some (.type "ValueError") := by decide +kernel
theorem bt_le : bootBuiltins "LookupError" = some (.type "LookupError") := by decide +kernel
theorem bt_ae : bootBuiltins "ArithmeticError" = some (.type "ArithmeticError") := by decide +kernel
def spTag (K : PySem.W.Frag) (j : Nat) (nm : PyData) : SpP := fun a cls d vs H Q _ => ∃ (Y : Vol) (Hi : Hp) (D dd : Addr) (fs : List (Str × V)), cls = .ref D ∧ d = some dd ∧ vs = [.ref a] ∧ H dd = some (.xd fs) ∧ Hi dd = none ∧ Pre Y Hi H ∧ ErrF K D j ∧ ∀ u Hi' H', Fr Y Hi H Hi' H' → Da K Hi' u nm → Q u H'
def spNms (K : PySem.W.Frag) (r : PyData) : SpP := fun _ _ _ vs H Q _ => vs = [] ∧ ∃ (Y : Vol) (Hi : Hp), Pre Y Hi H ∧ ∀ u Hi' H', Fr Y Hi H Hi' H' → Da K Hi' u r → Q u H'
section
variable {P : Program} {w : World} {K : PySem.W.Frag} {mg : Str → Option Value} {base : Heap} {k : Nat} {x : Str} {st : Stmt} {N ps : List Str} {sp : SpP}
theorem knp_of (D : Dn K mg x st ps) (S : FnScope N ps (defScope st)) (len : ∀ a cls d vs H Q E, sp a cls d vs H Q E → vs.length = ps.length)
    (body : ∀ (f : Addr) (cdv : Value) (A : Around) (outer : List Env) (s : Shared) (H : Hp) (vs : List V) (Q : VK) (E : XK) (p : Addr × Obj) (cls : Value) (d : Option Addr), (A.deeper (envOfC x (defScope st) s.heap.objs.size f cdv)).guards = some [] → RoomH k (A.deeper (envOfC x (defScope st) s.heap.objs.size f cdv)) → (A.deeper (envOfC x (defScope st) s.heap.objs.size f cdv)).units + 64 < cLine → Zc cls d p.2 → (∃ vs, p.2.data = .fields vs) → sp p.1 cls d vs H Q E →
      ∃ t, PSs (cxH CX0 P w K mg base N x (defScope st) f cdv A outer s H E p) (defBody st) t ∧ t { nx := fun _ H' => Q .non H', rt := Q } (L2.start N vs) H) : KnP P w K mg base (k + 1) x ps sp := by
  obtain ⟨f, fd, F, g, b⟩ := D
  exact ⟨f, fd, fn_ofP F S len fun cdv A outer s H vs Q E p cls d hg hr hz hf h => body f cdv A outer s H vs Q E p cls d hg hr (by have := hr.un; omega) hz hf h, g, F.kp, b⟩
end
section
variable {Y : Vol} {K : PySem.W.Frag} {es : List Ent} {a : Addr} {cls : Value} {d : Option Addr} {r nm : PyData}
theorem ev_nms : EvD Y K es (tCallP (spNms K r) a cls d tNil) (· = r) := fun H0i H0 Hi H σ s Q q =>
  ⟨rfl, Y, Hi, s.pre, fun u Hi' H' f hu => q u r Hi' H' f hu rfl⟩
end
end FR
namespace FR
open PySem PySem.Spec PySem.Calls PyProof.Rows L2 L2H
theorem StS.run {Y : Vol} {K : PySem.W.Frag} {Hi H : Hp} {N : List Str} {vs : List V} {es : List Ent} {t : TS} {Q : VK} {nx bk ct : L2.St → Hp → Prop} {r : PyData} (p : Pre Y Hi H) (h : StS Y K es t { nx := fun _ => False, rt := fun d => d = r }) (hl : es.length = N.length) (he : ∀ (i : Nat) (e : Ent), es[i]? = some e → (e = .unk ∨ ∃ v, vs[i]? = some v ∧ ((∃ d, e = .dat d ∧ Da K Hi v d) ∨ e = .raw v)))
    (q : ∀ u Hi' H', Fr Y Hi H Hi' H' → Da K Hi' u r → Q u H') (hN : vs.length ≤ N.length := by decide) : t { nx := nx, bk := bk, ct := ct, rt := Q } (L2.start N vs) H :=
  h Hi H Hi H _ (st0 p hN hl he) _ (fun _ _ _ _ _ _ o => o.elim) (fun _ _ _ _ _ _ o => o.elim) (fun _ _ _ _ _ _ o => o.elim) (fun v d Hi' H' f hv e => q v Hi' H' f (e ▸ hv))
end FR
set_option maxRecDepth 100000
set_option maxHeartbeats 4000000
namespace FR
open PySem PySem.Spec PySem.Calls PyProof.Rows L2 L2H
theorem bools_lay : ∀ g : List Bool, PyData.canLayAll0 (g.map .bool) = true
  | [] => rfl
  | b :: g => by
    show (PyData.canLay0 (.bool b) && PyData.canLayAll0 (g.map .bool)) = true
    rw [bools_lay g]
    rfl
theorem bools_depth : ∀ g : List Bool, PyData.depthAll (g.map .bool) = 0
  | [] => rfl
  | b :: g => by
    show Nat.max 0 (PyData.depthAll (g.map .bool)) = 0
    rw [bools_depth g]
    rfl
theorem shaped_bools (g : List Bool) : SeqAt.shaped (.list (g.map .bool)) = true := by
  show (PyData.canLayAll0 (g.map .bool) && decide (PyData.depthAll (g.map .bool) + 1 ≤ 64)) = true
  rw [bools_lay, bools_depth]
  rfl
theorem eqv_bools (g : List Bool) : PyData.eqv (.list (g.map .bool)) (.list (g.map .bool)) = true := SeqAt.eqv_refl _ (bools_lay g)
def bsJ (j : Nat) : List Bool := [decide (0 = j), decide (1 = j), decide (2 = j), decide (3 = j), decide (4 = j), decide (5 = j), decide (6 = j), decide (7 = j), decide (8 = j), decide (9 = j), decide (10 = j), decide (11 = j), decide (12 = j), decide (13 = j), decide (14 = j), decide (15 = j), decide (16 = j)]
theorem bsJ_count : ∀ j : Fin 17, (bsJ j.val).count true = 1 := by decide
theorem bsJ_at : ∀ j : Fin 17, (bsJ j.val)[j.val]? = some true := by decide
theorem bsJ_lt : ∀ (j m : Fin 17), m.val < j.val → (bsJ j.val)[m.val]? = some false := by decide
section
variable {Y : Vol} {K : PySem.W.Frag} {es : List Ent} {i : Nat} {a D dd C : Addr} {fs : List (Str × V)} {b : Bool} {n : String}
theorem ev_isO (hi : es[i]? = some (.raw (.ref a))) (hX : ∀ H, Y.I H → H dd = some (.xd fs)) (hk : PySem.W.kitOne K (.ref D) (.ref C) = some b) : EvD Y K es (tCB (rIsP K D (some dd) a) (tCons (tVar i) (tCons (tC (.ref C)) tNil))) (· = .bool b) := ev_isP hi hX hk fun _ r => r
theorem ev_isT (hi : es[i]? = some (.raw (.ref a))) (hX : ∀ H, Y.I H → H dd = some (.xd fs)) (hk : PySem.W.kitOne K (.ref D) (.type n) = some b) : EvD Y K es (tCB (rIsP K D (some dd) a) (tCons (tVar i) (tCons (tC (.ty n)) tNil))) (· = .bool b) := ev_isP hi hX hk fun _ r => r
end
theorem pe_never {X : Cx} {e : Expr} : PE X e (fun _ _ _ => False) := ⟨fun _ _ _ _ _ _ z => z.elim⟩
/-- e's field given, of an error that is held -/
def spField (K : PySem.W.Frag) (j : Nat) : SpP := fun a cls d vs H Q _ => ∃ (Y : Vol) (Hi : Hp) (D dd : Addr) (v : V) (d0 : PyData), cls = .ref D ∧ d = some dd ∧ vs = [.ref a, .str (clsN.getD j "")] ∧ H dd = some (.xd [("given", v)]) ∧ Hi dd = none ∧ Pre Y Hi H ∧ ErrF K D j ∧ Da K Hi v d0 ∧ ∀ u Hi' H', Fr Y Hi H Hi' H' → Da K Hi' u d0 → Q u H'
end FR
set_option maxRecDepth 100000
set_option maxHeartbeats 4000000
namespace FR
open PySem PySem.Spec PySem.Calls PyProof.Rows L2 L2H
/-! ### _law_caught, both its ways: told, or the error's tag and what it keeps -/
def suiteT (K : PySem.W.Frag) (j : Nat) (a : Addr) (cls : Value) (d : Option Addr) : TS := tSeq (tAsg (tCallP (spTag K j (.str (clsN.getD j ""))) a cls d (tCons (tVar 1) tNil)) (gName 3)) (tRet (tLst (tCons (tVar 3) (tCons (tCB (rRepr K) (tCons (tCallP (spField K j) a cls d (tCons (tVar 1) (tCons (tVar 3) tNil))) tNil)) tNil))))
def wishE (K : PySem.W.Frag) (j : Nat) (Q : VK) : XK := fun cls d H => PySem.W.exmAny K cls [.ref (He.ga K "WrongValue"), .ref (He.ga K "WrongName"), .ref (He.ga K "NoAnswer")] = some true ∧ ∀ (a : Addr) (σ : L2.St) (D : Ends), σ.length = 4 → D.rt = Q → H a = none → suiteT K j a cls d D (σ.set 1 (some (.ref a))) H
def TTe (K : PySem.W.Frag) (j : Nat) : (XK → Hp → VK → Prop) → Hp → VK → Prop := fun tl H Q => ∀ f : Addr, tl (wishE K j Q) H fun v H' => (tLst (tCons (tC (.str "told")) (tCons (tCB (rRepr K) (tCons (tVar 2) tNil)) tNil))) [some (.ref f), none, some v, none] H' Q
theorem takes_len {X : Cx} {W : WX} {n : Nat} (tk : Takes X W) (hn : X.N.length = n) : Takes X (fun cls d σ H => σ.length = n → W cls d σ H) := fun u s' ⟨a, B, sI, pins, σ, H, cls, d, e, I, nb, up, sky, na, os, ag, w⟩ =>
  tk u s' ⟨a, B, sI, pins, σ, H, cls, d, e, I, nb, up, sky, na, os, ag, w (I.len.trans hn)⟩
/-! the error's way, read -/
structure Raised (Y : Vol) (K : PySem.W.Frag) (j : Nat) (d0 : PyData) (Hi H : Hp) (cls : Value) (d : Option Addr) (Hi' H' : Hp) : Prop where
  fr : Fr Y Hi H Hi' H'
  ex : ∃ (D dd : Addr) (v : V), cls = .ref D ∧ d = some dd ∧ H' dd = some (.xd [("given", v)]) ∧ Hi' dd = none ∧ ¬ Y.W dd ∧ ErrF K D j ∧ Da K Hi' v d0
  exm : PySem.W.exmAny K cls [.ref (He.ga K "WrongValue"), .ref (He.ga K "WrongName"), .ref (He.ga K "NoAnswer")] = some true
def badD (j : Nat) (d : PyData) : PyData := .list [.str (clsN.getD j ""), .str d.shown]
section
variable {Y : Vol} {K : PySem.W.Frag} {j : Nat} {d0 : PyData}
/-- what the suite makes of it -/
theorem suite_read {Hi H Hi' H' : Hp} {cls : Value} {d : Option Addr} {Q : VK} (R : Raised Y K j d0 Hi H cls d Hi' H') (sh : Shn d0) (q : ∀ u Hi2 H2, Fr Y Hi H Hi2 H2 → Da K Hi2 u (badD j d0) → Q u H2) : wishE K j Q cls d H' := by
  obtain ⟨Dc, dd, v, rfl, rfl, hd, hn, nw, EF, hv⟩ := R.ex
  refine ⟨R.exm, fun a σ D hl hD na => ?_⟩
  subst hD
  have f0 := R.fr
  have keep : ∀ {Hi2 H2 : Hp}, Fr Y Hi' H' Hi2 H2 → H2 dd = some (.xd [("given", v)]) ∧ Hi2 dd = none := fun {Hi2 H2} f => by
    refine ⟨f.keep dd _ hd nw fun ⟨_, e⟩ => (nomatch e), ?_⟩
    cases e : Hi2 dd with
    | none => rfl
    | some o =>
      rcases f.new dd o e with z | z
      · rw [hn] at z
        cases z
      · obtain ⟨_, e2⟩ := z _ hd
        cases e2
  refine ⟨.ref a, by rw [List.getElem?_set_self (by omega)], Y, Hi', Dc, dd, _, rfl, rfl, rfl, hd, hn, f0.pre, EF, fun u Hi2 H2 f2 hu => ?_⟩
  cases hu
  obtain ⟨hd2, hn2⟩ := keep f2
  refine ⟨.str (clsN.getD j ""), by rw [List.getElem?_set_self (by rw [List.length_set]; omega)], ?_⟩
  refine ⟨.ref a, by rw [List.getElem?_set_ne (by decide), List.getElem?_set_self (by omega)], ?_⟩
  refine ⟨.str (clsN.getD j ""), by rw [List.getElem?_set_self (by rw [List.length_set]; omega)], Y, Hi2, Dc, dd, v, d0, rfl, rfl, rfl, hd2, hn2, f2.pre, EF, Da.mono f2.hi _ _ hv, fun u Hi3 H3 f3 hu => ?_⟩
  refine ⟨u, d0, rfl, Da.mono f3.sub _ _ hu, sh.sh, sh.nd, sh.dp, Nat.le_trans sh.ln (show 1000000 ≤ sizeLine by decide), (show 2 ≤ sizeLine by decide), fun p hp => ?_⟩
  have f := ((f0.trans f2).trans f3).trans (Fr.alloc f3.pre hp (o := .lst [.str (clsN.getD j ""), .str d0.shown]) not_tb_lst)
  exact q (.ref p) _ _ f (.lst upd_same (.cons (.str _) (.cons (.str _) .nil)))
end
end FR
set_option maxRecDepth 100000
set_option maxHeartbeats 4000000
namespace FR
open PySem PySem.Spec PySem.Calls PyProof.Rows L2 L2H
/-! ### an own error is made: C(given) -/
def spIni (D : Addr) : Sp := fun vs H Q _ => ∃ (a : Addr) (v : V), vs = [.ref a, v] ∧ H a = some (exo a D none) ∧ ∀ dx, H dx = none → dx ≠ a → Q .non (upd (upd H dx (exd dx [("given", v)])) a (exo a D (some dx)))
section
variable {Y : Vol} {K : PySem.W.Frag} {j : Nat} {d0 : PyData} {D : Addr} {Hi H : Hp} {v : V}
/-- what is left when C(v) was made: a new dict -/
theorem made_read {σ : L2.St} {ta : TA} {Q : XK} (p : Pre Y Hi H) (EF : ErrF K D j) (hx : PySem.W.exmAny K (.ref D) [.ref (He.ga K "WrongValue"), .ref (He.ga K "WrongName"), .ref (He.ga K "NoAnswer")] = some true) (hv : Da K Hi v d0) (hta : ∀ R : List V → Hp → Prop, R [v] H → ta σ H R)
    (q : ∀ d H', Raised Y K j d0 Hi H (.ref D) d Hi H' → Q (.ref D) d H') : tMkO D (spIni D) [] ta σ H Q := by
  refine hta _ ⟨(by show 1 ≤ 1000; omega), fun a na => ⟨a, v, rfl, upd_same, fun dx n1 ne => ⟨rfl, dx, [("given", v)], upd_same, by rw [upd_ne ne, upd_same], ?_, ?_⟩⟩⟩
  · rw [upd_ne ne] at n1
    exact n1
  · rw [upd_ne ne] at n1
    have look : ∀ b, b ≠ a → b ≠ dx → upd (del (upd (upd (upd H a (exo a D none)) dx (exd dx [("given", v)])) a (exo a D (some dx))) a) dx (.xd [("given", v)]) b = H b := fun b h1 h2 => by
      rw [upd_ne h2, del_ne h1, upd_ne h1, upd_ne h2, upd_ne h1]
    have keep : ∀ b o, H b = some o → upd (del (upd (upd (upd H a (exo a D none)) dx (exd dx [("given", v)])) a (exo a D (some dx))) a) dx (.xd [("given", v)]) b = some o := fun b o h => by
      rw [look b (fun e => by rw [e, na] at h; cases h) (fun e => by rw [e, n1] at h; cases h)]
      exact h
    have hi : Hi dx = none := p.sub.free n1
    refine q _ _ ⟨⟨Same.refl _, fun b o h => keep b o (p.sub b o h), Y.stable _ _ (fun b o h _ => keep b o h) p.inv, p.out, fun b o h _ _ => keep b o h, fun b o h => .inl h⟩, ⟨D, dx, v, rfl, rfl, upd_same, hi, fun z => Y.there H dx z p.inv n1, EF, hv⟩, hx⟩
end
/-! ### defs that return or raise, by their data: err tells the class and what it keeps -/
def ErrOk (Y : Vol) (K : PySem.W.Frag) (err : Option (Nat × PyData)) (H0i H0 : Hp) (E : XK) : Prop := ∀ j d, err = some (j, d) → ∀ cls dd Hi' H', Raised Y K j d H0i H0 cls dd Hi' H' → E cls dd H'
theorem Raised.trans {Y : Vol} {K : PySem.W.Frag} {j : Nat} {d0 : PyData} {Hi H Hi1 H1 Hi2 H2 : Hp} {cls : Value} {d : Option Addr} (f : Fr Y Hi H Hi1 H1) (R : Raised Y K j d0 Hi1 H1 cls d Hi2 H2) : Raised Y K j d0 Hi H cls d Hi2 H2 := ⟨f.trans R.fr, R.ex, R.exm⟩
theorem ErrOk.step {Y : Vol} {K : PySem.W.Frag} {err : Option (Nat × PyData)} {Hi H Hi1 H1 : Hp} {E : XK} (eo : ErrOk Y K err Hi H E) (f : Fr Y Hi H Hi1 H1) : ErrOk Y K err Hi1 H1 E := fun j d e _ _ _ _ R => eo j d e _ _ _ _ (R.trans f)
def spX (K : PySem.W.Frag) (n : Nat) (pre : List PyData → Prop) (err : List PyData → Option (Nat × PyData)) (post : List PyData → PyData → Prop) : Sp := fun vs H Q E =>
  vs.length = n ∧ ∃ (Y : Vol) (Hi : Hp) (ds : List PyData), Pre Y Hi H ∧ DaAll K Hi vs ds ∧ pre ds ∧ (err ds = none → ∀ u e Hi' H', Fr Y Hi H Hi' H' → Da K Hi' u e → post ds e → Q u H') ∧ ErrOk Y K (err ds) Hi H E
def KnE (P : Program) (w : World) (K : PySem.W.Frag) (mg : Str → Option Value) (base : Heap) (k : Nat) (x : Str) (ps : List Str) (sp : Sp) : Prop :=
  ∃ f fd, FnOk P w K mg base (L2.CX P w) k f fd ps sp ∧ mg x = some (.ref f) ∧ PySem.W.keepIn K (.ref f) = true ∧ Binds K fd ps [] ∧ Lk K f fd
section
variable (Y : Vol) (K : PySem.W.Frag) (err : Option (Nat × PyData)) (E : XK)
/-- statements that may end in that error -/
def StX (es : List Ent) (ts : TS) (O : Out) : Prop := ∀ H0i H0 Hi H σ, StIs Y K H0i H0 Hi H σ es → ErrOk Y K err H0i H0 E → ∀ Dn : Ends,
  (∀ Hi' H' σ' es', Same Hi Hi' → StIs Y K H0i H0 Hi' H' σ' es' → O.nx es' → Dn.nx σ' H') →
  (∀ Hi' H' σ' es', Same Hi Hi' → StIs Y K H0i H0 Hi' H' σ' es' → O.bk es' → Dn.bk σ' H') →
  (∀ Hi' H' σ' es', Same Hi Hi' → StIs Y K H0i H0 Hi' H' σ' es' → O.ct es' → Dn.ct σ' H') →
  (∀ v d Hi' H', Fr Y H0i H0 Hi' H' → Da K Hi' v d → O.rt d → Dn.rt v H') → ts Dn σ H
/-- expressions that may -/
def EvX (es : List Ent) (te : TE) (P : PyData → Prop) : Prop := ∀ H0i H0 Hi H σ, StIs Y K H0i H0 Hi H σ es → ErrOk Y K err Hi H E → ∀ Q : VK, (∀ v d Hi' H', Fr Y Hi H Hi' H' → Da K Hi' v d → P d → Q v H') → te σ H Q
end
section
variable {Y : Vol} {K : PySem.W.Frag} {err : Option (Nat × PyData)} {E : XK} {es : List Ent} {ta te : TE} {t : TT} {t1 t2 : TS} {O : Out} {P : PyData → Prop}
theorem StS.x (h : StS Y K es t1 O) : StX Y K err E es t1 O := fun H0i H0 Hi H σ s _ Dn n b c r => h H0i H0 Hi H σ s Dn n b c r
theorem EvD.x (h : EvD Y K es te P) : EvX Y K err E es te P := fun H0i H0 Hi H σ s _ Q q => h H0i H0 Hi H σ s Q q
theorem sx_seq {M : List Ent → Prop} (h1 : StX Y K err E es t1 { O with nx := M }) (h2 : ∀ e, M e → StX Y K err E e t2 O) : StX Y K err E es (tSeq t1 t2) O := fun H0i H0 Hi H σ s eo Dn n b c r =>
  h1 H0i H0 Hi H σ s eo { Dn with nx := t2 Dn } (fun Hi' H' σ' es' m s' o => h2 es' o H0i H0 Hi' H' σ' s' eo Dn (fun Hi2 H2 σ2 es2 m2 s2 o2 => n Hi2 H2 σ2 es2 (m.trans m2) s2 o2) (fun Hi2 H2 σ2 es2 m2 s2 o2 => b Hi2 H2 σ2 es2 (m.trans m2) s2 o2) (fun Hi2 H2 σ2 es2 m2 s2 o2 => c Hi2 H2 σ2 es2 (m.trans m2) s2 o2) r) b c r
theorem sx_if {Pt : Bool → Prop} (h : TsB Y K es t Pt) (h1 : Pt true → StX Y K err E es t1 O) (h2 : Pt false → StX Y K err E es t2 O) : StX Y K err E es (tIfS t t1 t2) O := fun H0i H0 Hi H σ s eo Dn n b c r =>
  h H0i H0 Hi H σ s _ fun b' Hi' H' f p => by
    cases b' with
    | true => exact h1 p H0i H0 Hi' H' σ (s.step f) eo Dn (fun Hi2 H2 σ2 es2 m2 s2 o2 => n Hi2 H2 σ2 es2 (f.hi.trans m2) s2 o2) (fun Hi2 H2 σ2 es2 m2 s2 o2 => b Hi2 H2 σ2 es2 (f.hi.trans m2) s2 o2) (fun Hi2 H2 σ2 es2 m2 s2 o2 => c Hi2 H2 σ2 es2 (f.hi.trans m2) s2 o2) r
    | false => exact h2 p H0i H0 Hi' H' σ (s.step f) eo Dn (fun Hi2 H2 σ2 es2 m2 s2 o2 => n Hi2 H2 σ2 es2 (f.hi.trans m2) s2 o2) (fun Hi2 H2 σ2 es2 m2 s2 o2 => b Hi2 H2 σ2 es2 (f.hi.trans m2) s2 o2) (fun Hi2 H2 σ2 es2 m2 s2 o2 => c Hi2 H2 σ2 es2 (f.hi.trans m2) s2 o2) r
theorem sx_expr (h : EvX Y K err E es te P) (k : ∀ d, P d → O.nx es) : StX Y K err E es (tDrop te) O := fun H0i H0 Hi H σ s eo Dn n b c r =>
  h H0i H0 Hi H σ s (eo.step s.fr) _ fun v d Hi' H' f hd p => n Hi' H' _ _ f.hi (s.step f) (k d p)
theorem sx_ret (h : EvX Y K err E es te P) (k : ∀ d, P d → O.rt d) : StX Y K err E es (tRet te) O := fun H0i H0 Hi H σ s eo Dn n b c r =>
  h H0i H0 Hi H σ s (eo.step s.fr) _ fun v d Hi' H' f hd p => r v d Hi' H' (s.fr.trans f) hd (k d p)
/-- raise C(e) -/
theorem sx_raise {j : Nat} {d0 : PyData} {D : Addr} {i : Nat} (hi : es[i]? = some (.dat d0)) (he : err = some (j, d0)) (EF : ErrF K D j) (hx : PySem.W.exmAny K (.ref D) [.ref (He.ga K "WrongValue"), .ref (He.ga K "WrongName"), .ref (He.ga K "NoAnswer")] = some true) : StX Y K err E es (fun _ σ H => tMkO D (spIni D) [] (tCons (tVar i) tNil) σ H fun cls d H' => E cls d H') O := fun H0i H0 Hi H σ s eo Dn n b c r => by
  obtain ⟨x, e1, v, rfl, hv⟩ := s.env i _ hi
  exact made_read s.pre EF hx hv (fun R hR => ⟨v, e1, hR⟩) fun d H' rr => eo j d0 he _ _ _ _ (rr.trans s.fr)
/-- a call of a def that may raise: the same error is ours -/
theorem ev_callX {n : Nat} {pre : List PyData → Prop} {er : List PyData → Option (Nat × PyData)} {post : List PyData → PyData → Prop} {tr : TA} {ds : List PyData} (ha : ArD Y K es tr (· = ds)) (hl : ds.length = n) (hp : pre ds) (he : er ds = none ∨ er ds = err) : EvX Y K err E es (tCallS (spX K n pre er post) (fun _ => E) tr) (fun e => er ds = none ∧ post ds e) := fun H0i H0 Hi H σ s eo Q q =>
  ha H0i H0 Hi H σ s _ fun vs ds' Hi1 H1 f1 hv e => by
    subst e
    refine ⟨by rw [hv.len, hl], Y, Hi1, ds', f1.pre, hv, hp, fun hn u e Hi' H' f hu pe => q u e Hi' H' (f1.trans f) hu ⟨hn, pe⟩, fun j d hj cls dd Hi' H' R => ?_⟩
    rcases he with he | he
    · rw [he] at hj
      cases hj
    · exact eo j d (he ▸ hj) cls dd Hi' H' (R.trans f1)
end
section
variable {P : Program} {w : World} {K : PySem.W.Frag} {mg : Str → Option Value} {base : Heap} {k : Nat} {x : Str} {st : Stmt} {N ps : List Str} {n : Nat} {pre : List PyData → Prop} {err : List PyData → Option (Nat × PyData)} {post : List PyData → PyData → Prop}
/-- a def that returns or raises -/
theorem kne_of (D : Dn K mg x st ps) (S : FnScope N ps (defScope st)) (hn : ps.length = n) (hN : n ≤ N.length)
    (body : ∀ (f : Addr) (cdv : Value) (A : Around) (outer : List Env) (s : Shared) (H : Hp) (E : XK), Room k (A.deeper (envOfC x (defScope st) s.heap.objs.size f cdv)) → (A.deeper (envOfC x (defScope st) s.heap.objs.size f cdv)).units + 64 < cLine → Takes (cxOf (L2.CX P w) P w K mg base N x (defScope st) f cdv A outer s H E) (fun cls d _ H => E cls d H) →
      ∃ t, PSs (cxOf (L2.CX P w) P w K mg base N x (defScope st) f cdv A outer s H E) (defBody st) t ∧ ∀ (Y : Vol) (ds : List PyData), ds.length = n → pre ds → StX Y K (err ds) E (ds.map .dat ++ List.replicate (N.length - n) .unk) t { nx := fun _ => err ds = none ∧ post ds .none, rt := fun e => err ds = none ∧ post ds e }) : KnE P w K mg base (k + 1) x ps (spX K n pre err post) := by
  obtain ⟨f, fd, F, g, b⟩ := D
  refine ⟨f, fd, F.okX S (fun vs H Q E h => by rw [hn]; exact h.1) (fun cdv A outer s H vs Q E hr h => ?_), g, F.kp, b, lk_of F⟩
  obtain ⟨t, ht, hs⟩ := body f cdv A outer s H E hr (by have := hr.un; omega) (takes_of rfl rfl rfl rfl)
  obtain ⟨hl, Y, Hi, ds, p, hd, hp, q, eo⟩ := h
  have hld : ds.length = n := by rw [← hd.len]; exact hl
  refine ⟨t, ht, hs Y ds hld hp Hi H Hi H _ (st0 p (by omega) (by simp only [List.length_append, List.length_map, List.length_replicate]; omega) fun i e hi => ?_) eo _ (fun Hi' H' σ' es' _ s' o => q o.1 _ _ Hi' H' s'.fr .non o.2) (fun _ _ _ _ _ _ o => o.elim) (fun _ _ _ _ _ _ o => o.elim) (fun v d Hi' H' f hv o => q o.1 v d Hi' H' f hv o.2)⟩
  by_cases hlt : i < ds.length
  · rw [List.getElem?_append_left (by rw [List.length_map]; exact hlt), List.getElem?_map, List.getElem?_eq_getElem hlt] at hi
    cases hi
    obtain ⟨v, h1, h2⟩ := hd.get (List.getElem?_eq_getElem hlt)
    exact .inr ⟨v, h1, .inl ⟨_, rfl, h2⟩⟩
  · rw [List.getElem?_append_right (by rw [List.length_map]; omega)] at hi
    obtain ⟨_, e⟩ := List.getElem?_eq_some_iff.mp hi
    rw [List.getElem_replicate] at e
    exact .inl e.symm
end
end FR
set_option maxRecDepth 100000
set_option maxHeartbeats 4000000
namespace FR
open PySem PySem.Spec PySem.Calls PyProof.Rows L2 L2H
/-! ### an own error's class, whole -/
structure OwnC (P : Program) (w : World) (K : PySem.W.Frag) (mg : Str → Option Value) (base : Heap) (x : Str) (D : Addr) (j : Nat) : Prop where
  ef : ErrF K D j
  ox : OexC K D
  gm : mg x = some (.ref D)
  hx : PySem.W.exmAny K (.ref D) [.ref (He.ga K "WrongValue"), .ref (He.ga K "WrongName"), .ref (He.ga K "NoAnswer")] = some true
  ini : ∃ fI fd, PySem.W.findIn K (.ref D) "__init__" = some (some (.ref fI)) ∧ PySem.W.typeIn K (.ref fI) = some (.type "function") ∧ FnOk P w K mg base CX0 1 fI fd ["self", "given"] (spIni D) ∧ Binds K fd ["self", "given"] []
section
variable {P : Program} {w : World} {K : PySem.W.Frag} {mg : Str → Option Value} {base : Heap} {x : Str} {D : Addr} {j : Nat}
theorem ini_of {q : Str} {st : Stmt} {fI : Addr} {fd : FuncData} (F : Fun K "__init__" q st fI fd) (S : FnScope ["self", "given"] ["self", "given"] (defScope st)) (T : OexC K D) (hn : PySem.W.findIn K (.ref D) "given" = some none)
    (hb : ∀ (cdv : Value) (A : Around) (outer : List Env) (s : Shared) (H : Hp) (E : XK), PSs (cxOf CX0 P w K mg base ["self", "given"] q (defScope st) fI cdv A outer s H E).nox (defBody st) (tOst K "given" (tVar 0) (tVar 1))) : FnOk P w K mg base CX0 1 fI fd ["self", "given"] (spIni D) := by
  refine F.ok S (fun vs H Q E h => by obtain ⟨_, _, e, _⟩ := h; rw [e]; rfl) (fun cdv A outer s H vs Q E hr h => ⟨_, hb cdv A outer s H E, ?_⟩)
  obtain ⟨a, v, rfl, ha, q⟩ := h
  exact ⟨v, rfl, .ref a, rfl, a, D, rfl, T, hn, .inl ⟨ha, fun dx n ne => q dx n ne⟩⟩
end
theorem pmk_own {X : Cx} {x : Str} {D : Addr} {j : Nat} {p pos : Pos} {e : Expr} {es : List Expr} {ta : TA} (h : OwnC X.prog X.w X.K X.mg X.base x D j) (hr : Room 2 X.A) (ha : PA X (e :: es) ta) (hg : Gl X x := by rfl) (hdb : (x == ("__debug__" : Str)) = false := by decide)
    (he : starEach (e :: es) X.env = (false, eval e X.env) :: starEach es X.env := by rfl) (hpl : (backTo pos (starEach es X.env)).any (·.1) = false := by rfl) : PMk X (.Call (.Name x p) (e :: es) [] pos) (tMkO D (spIni D) [] ta) := by
  obtain ⟨fI, fd, i1, i2, F, b⟩ := h.ini
  exact pmk_oex h.ox i1 i2 F hr b .nil pass0 hg h.gm ha hdb he hpl
/-- a call of a def that may raise -/
theorem pe_callE {X : Cx} {k : Nat} {ps : List Str} {sp : Sp} {x : Str} {p pos : Pos} {e : Expr} {es : List Expr} {t : TA} {E : XK} (h : KnE X.prog X.w X.K X.mg X.base k x ps sp) (hr : Room k X.A) (tk : Takes X (fun cls d _ H => E cls d H)) (ha : PA X (e :: es) t) (hg : Gl X x := by rfl) (hdb : (x == ("__debug__" : Str)) = false := by decide)
    (he : starEach (e :: es) X.env = (false, eval e X.env) :: starEach es X.env := by rfl) (hpl : (backTo pos (starEach es X.env)).any (·.1) = false := by rfl) : PE X (.Call (.Name x p) (e :: es) [] pos) (tCallS sp (fun _ => E) t) := by
  obtain ⟨f, fd, F, m, kp, b, _⟩ := h
  exact pe_callS F hr hg m kp b (fun σ => passAt tk σ) ha hdb he hpl
end FR
set_option maxRecDepth 100000
set_option maxHeartbeats 4000000
namespace FR
open PySem PySem.Spec PySem.Calls PyProof.Rows L2 L2H
/-! ### a lambda that may raise, handed to _law_caught -/
section
variable {Y : Vol} {K : PySem.W.Frag} {es : List Ent} {T : List (Addr × Str)} {t : XK → TE} {P : PyData → Prop} {err : Option (Nat × PyData)} {j : Nat}
theorem ev_caughtX (hL : Y.Lam T) (h : ∀ E, EvX Y K err E es (t E) P) (hp : ∀ d, P d → Shn d) (he : ∀ j' d, err = some (j', d) → j' = j ∧ Shn d) : EvD Y K es (LamX.tLam T (TTe K j) t) (fun r => (∃ d, P d ∧ r = toldD d) ∨ ∃ d, err = some (j, d) ∧ r = badD j d) := fun H0i H0 Hi H σ s Q q => by
  refine ⟨hL.tab _ s.fr.inv, fun H1 e1 t1 ff => ?_⟩
  have f1 : Fr Y Hi H Hi H1 := Fr.lam s.pre hL e1 t1
  refine h (wishE K j Q) H0i H0 Hi H1 σ (s.step f1) (fun j' d ee cls dd Hi' H' R => ?_) _ fun v d Hi2 H2 f2 hd pd => ?_
  · obtain ⟨rfl, sh⟩ := he j' d ee
    exact suite_read R sh fun u Hi2 H2 f hu => q u (badD j' d) Hi2 H2 (f1.trans f) hu (.inr ⟨d, ee, rfl⟩)
  · have sh := hp d pd
    refine ⟨v, rfl, v, d, rfl, Da.mono f2.sub _ _ hd, sh.sh, sh.nd, sh.dp, Nat.le_trans sh.ln (show 1000000 ≤ sizeLine by decide), (show 2 ≤ sizeLine by decide), fun p hp => ?_⟩
    have f := (f1.trans f2).trans (Fr.alloc f2.pre hp (o := .lst [.str "told", .str d.shown]) not_tb_lst)
    exact q (.ref p) (toldD d) _ _ f (.lst upd_same (.cons (.str _) (.cons (.str _) .nil))) (.inl ⟨d, pd, rfl⟩)
/-- it raises -/
theorem ev_caughtBad {d : PyData} (hL : Y.Lam T) (h : ∀ E, EvX Y K (some (j, d)) E es (t E) (fun _ => False)) (sh : Shn d) : EvD Y K es (LamX.tLam T (TTe K j) t) (· = badD j d) :=
  (ev_caughtX hL h (fun _ z => z.elim) fun j' d' e => by cases e; exact ⟨rfl, sh⟩).mono fun r h => by
    rcases h with ⟨_, z, _⟩ | ⟨d', e, rfl⟩
    · exact z.elim
    · cases e
      rfl
/-- it doesn't -/
theorem ev_caughtGood {d : PyData} (hL : Y.Lam T) (h : ∀ E, EvX Y K none E es (t E) (· = d)) (sh : Shn d) : EvD Y K es (LamX.tLam T (TTe K j) t) (· = toldD d) :=
  (ev_caughtX hL h (fun _ e => e ▸ sh) fun j' d' e => nomatch e).mono fun r h => by
    rcases h with ⟨_, rfl, rfl⟩ | ⟨d', e, _⟩
    · rfl
    · cases e
end
end FR
set_option maxRecDepth 100000
set_option maxHeartbeats 4000000
namespace FR
open PySem PySem.Spec PySem.Calls PyProof.Rows L2
/-! ### dicts that are written -/
theorem not_tb_dk {kvs : List (Key × V)} : ¬ Tb (.dK kvs) := fun ⟨_, e⟩ => nomatch e
theorem upd_upd {H : Hp} {p : Addr} {a b : HO} : upd (upd H p a) p b = upd H p b := funext fun c => by
  by_cases h : c = p
  · subst h
    rw [upd_same, upd_same]
  · rw [upd_ne h, upd_ne h, upd_ne h]
section
variable {Y : Vol} {K : PySem.W.Frag} {es : List Ent}
theorem ev_dnew : EvD Y K es tDNewK (· = .dict []) := fun H0i H0 Hi H σ s Q q p hp => q (.ref p) (.dict []) _ _ (Fr.alloc s.pre hp (o := .dK []) not_tb_dk) (.dct (kvs := []) rfl upd_same) rfl
theorem ev_dict1 {x : Str} {i : Int} : EvD Y K es (tDisp [(tC (.str x), tC (.int i))]) (· = .dict [(.str x, .int i)]) := fun H0i H0 Hi H σ s Q q p hp => by
  refine ⟨upd_same, [(.inr x, .int i)], rfl, (by show 1 ≤ 15; decide), ?_⟩
  rw [upd_upd]
  exact q (.ref p) (.dict [(.str x, .int i)]) _ _ (Fr.alloc s.pre hp (o := .dK [(.inr x, .int i)]) not_tb_dk) (.dct (kvs := [(x, i)]) rfl upd_same) rfl
end
end FR
set_option maxRecDepth 100000
set_option maxHeartbeats 4000000
namespace FR
open PySem PySem.Spec PySem.Calls PyProof.Rows L2 PySem.W
/-! ### what the head looks at: the errors' classes -/
def clsB (K : Frag) (C : Addr) : Bool := match K.lookup C with
  | some ⟨.type "type", _, .cls cd, sl⟩ => (match cd.mro, sl.toList with
    | .ref C' :: bm, [_, _, _, _, some (.builtin n), _] => C' == C && (n == "ValueError.__new__" && (!cd.hasDel && (cd.hasDict && HandSPX.refsVE bm)))
    | _, _ => false)
  | _ => false
theorem clsB_ok {K : Frag} {C : Addr} (q : clsB K C = true) : ∃ nm q N bs bm sn sub ab col dd k0 k1 k2 k3 k5, K.lookup C = some (excClassObj nm q C N bs bm true sn sub ab col dd k0 k1 k2 k3 k5 "ValueError.__new__") ∧ HandSPX.refsVE bm = true := by
  unfold clsB at q
  split at q
  · rename_i dd cd sl ho
    split at q
    · rename_i C' bm k0 k1 k2 k3 n k5 hm hs
      simp only [Bool.and_eq_true, beq_iff_eq, Bool.not_eq_true'] at q
      obtain ⟨rfl, rfl, hdel, hdict, hre⟩ := q
      obtain ⟨nm, bs, mro, ns, qn, hd, sn, sub, ab, col, del⟩ := cd
      dsimp only at hm hdel hdict
      subst hm hdel hdict
      have hsl : sl = #[k0, k1, k2, k3, some (.builtin "ValueError.__new__"), k5] := by
        obtain ⟨l⟩ := sl
        simp only at hs
        rw [hs]
      subst hsl
      exact ⟨nm, qn, ns, bs, bm, sn, sub, ab, col, dd, k0, k1, k2, k3, k5, ho, hre⟩
    · cases q
  · cases q
def oxB (K : Frag) (C : Addr) : Bool := clsB K C && (decide (findIn K (.ref C) "__setattr__" = some (some (.builtin "object.__setattr__"))) && (decide (subIn K (.ref C) (.type "BaseException") = some true) && (decide (typeIn K (.ref C) = some (.type "type")) && keepIn K (.ref C))))
theorem oxB_ok {K : Frag} {C : Addr} (h : oxB K C = true) : OexC K C := by
  unfold oxB at h
  simp only [Bool.and_eq_true, decide_eq_true_eq] at h
  obtain ⟨h1, h2, h3, h4, h5⟩ := h
  exact ⟨clsB_ok h1, h2, h3, h4, h5⟩
def exB (K : Frag) (D : Addr) : Bool := decide (findIn K (.ref D) "__class__" = some (some (.builtin "object.__class__"))) && (decide (specialIn K (.builtin "object.__class__") "__get__" = some (some (.builtin "getset_descriptor.__get__"))) && (decide (takesIn K (.builtin "object.__class__") = some true) && decide (mroIn K D (.type "object") = some true)))
def errB (K : Frag) (D : Addr) (j : Nat) : Bool := decide (j < 17) && (xfB K D && (exB K D && (decide (findIn K (.ref D) "given" = some none) && ((clsN.zipIdx.all fun p => decide (kitOne K (.ref D) (.ref (He.ga K p.1)) = some (decide (p.2 = j)))) && (((basN.zip (inB j)).all fun p => decide (kitOne K (.ref D) (.ref (He.ga K p.1)) = some p.2)) && ((bltN.zip (inB j)).all fun p => decide (kitOne K (.ref D) (.type p.1) = some p.2)))))))
theorem errB_ok {K : Frag} {D : Addr} {j : Nat} (h : errB K D j = true) : ErrF K D j := by
  unfold errB exB at h
  simp only [Bool.and_eq_true, decide_eq_true_eq, List.all_eq_true] at h
  obtain ⟨h1, h2, ⟨a1, a2, a3, a4⟩, h4, h5, h6, h7⟩ := h
  have xf := xfB_ok h2
  refine ⟨h1, ⟨xf.ga, xf.gg, xf.exC, xf.hdC, a1, a2, a3, a4⟩, xf, h4, fun i n e => ?_, fun i n b e1 e2 => ?_, fun i n b e1 e2 => ?_⟩
  · exact h5 (n, i) (List.mk_mem_zipIdx_iff_getElem?.mpr e)
  · exact h6 (n, b) (List.mem_of_getElem? (i := i) (List.getElem?_zip_eq_some.mpr ⟨e1, e2⟩))
  · exact h7 (n, b) (List.mem_of_getElem? (i := i) (List.getElem?_zip_eq_some.mpr ⟨e1, e2⟩))
/-- an own class whole, its __init__ apart -/
def ownB (K : Frag) (x : Str) (j : Nat) : Bool := errB K (He.ga K x) j && (oxB K (He.ga K x) && (decide (exmAny K (.ref (He.ga K x)) [.ref (He.ga K "WrongValue"), .ref (He.ga K "WrongName"), .ref (He.ga K "NoAnswer")] = some true) && (decide (findIn K (.ref (He.ga K x)) "__init__" = some (some (.ref (He.fAd K (x, some "__init__"))))) && decide (typeIn K (.ref (He.fAd K (x, some "__init__"))) = some (.type "function")))))
theorem ownB_ok {P : Program} {w : World} {K : Frag} {mg : Str → Option Value} {base : Heap} {x : Str} {j : Nat} {fd : FuncData} (h : ownB K x j = true) (gm : mg x = some (.ref (He.ga K x))) (F : ErrF K (He.ga K x) j → OexC K (He.ga K x) → FnOk P w K mg base CX0 1 (He.fAd K (x, some "__init__")) fd ["self", "given"] (spIni (He.ga K x))) (b : L2.Binds K fd ["self", "given"] []) : OwnC P w K mg base x (He.ga K x) j := by
  unfold ownB at h
  simp only [Bool.and_eq_true, decide_eq_true_eq] at h
  obtain ⟨h1, h2, h3, h4, h5⟩ := h
  exact ⟨errB_ok h1, oxB_ok h2, gm, h3, _, fd, h4, h5, F (errB_ok h1) (oxB_ok h2), b⟩
end FR
set_option maxRecDepth 100000
set_option maxHeartbeats 4000000
namespace FR
open PySem PySem.Spec PySem.Calls PyProof.Rows L2 L2H
/-! ### text[::-1] -/
def tRevS (te : TE) : TE := fun σ H Q => te σ H fun x H1 => ∃ z : PySem.Str, x = .str z ∧ z.length ≤ sizeLine ∧ ∀ u, Q (.str (Txt.sliceBy z none none (-1, u))) H1
theorem pe_revS {X : Cx} {e : Expr} {te : TE} {k : Nat} {p1 p2 p3 pos : Pos} (he : PE X e te) : PE X (.Subscript e (.Slice none none (some (.UnaryOp .USub (.Constant (.int 1) k p1) p2)) p3) pos) (tRevS te) := by
  refine ⟨fun pins s σ H Q I h => ?_⟩
  refine Subscript_ (thn (he.run pins s σ H _ I h) fun v s1 ⟨x, H1, I1, r1, q1⟩ => ?_)
  obtain ⟨z, ex, hz, q⟩ := q1
  subst ex
  obtain ⟨t, rfl⟩ : ∃ t, v = .str z t := r1
  have hst : PO X (some (.UnaryOp .USub (.Constant (.int 1) k p1) p2)) (tPart (tUn (rU fun i => .int (-i)) (tC (.int 1)))) := po_some (pe_un un_neg pe_int)
  refine wpAny_Slice (thn (po_none.run pins s1 σ H1 (fun o H2 => o = none ∧ H2 = H1) I1 ⟨rfl, rfl⟩) fun vl s2 ⟨l, H2, I2, pl, el, e2⟩ => ?_)
  subst el e2
  refine thn (po_none.run pins s2 σ H2 (fun o H3 => o = none ∧ H3 = H2) I2 ⟨rfl, rfl⟩) fun vu s3 ⟨u, H3, I3, pu, eu, e3⟩ => ?_
  subst eu e3
  refine thn (hst.run pins s3 σ H3 (fun o H4 => o = some (-1) ∧ H4 = H3) I3 ⟨1, rfl, -1, rfl, rfl, rfl⟩) fun vs s4 ⟨o, H4, I4, ps, eo, e4⟩ => ?_
  subst eo e4
  cases pl
  cases pu
  obtain ⟨uk, rfl⟩ : ∃ uk, vs = .int (-1) uk := by
    cases ps
    exact ⟨_, rfl⟩
  have I5 : Inv X pins σ H4 { s4 with heap := s4.heap.push { cls := .type "slice", data := .fields #[.none, .none, .int (-1) uk] } } := I4.kept (t' := s4.toks) fun b ob q => Heap.get?_push_of_some _ q
  show wpAny (model X.prog X.w) X.A (subscriptTail e (.Slice none none (some (.UnaryOp .USub (.Constant (.int 1) k p1) p2)) p3) (.str z t) (.ref s4.heap.objs.size)) (EP X pins σ Q) X.xe { s4 with heap := s4.heap.push { cls := .type "slice", data := .fields #[.none, .none, .int (-1) uk] } }
  refine tail_any (ops := [.ref s4.heap.objs.size, .str z t]) (typeIs_str _ z t) (PySem.F.slot_str_getitem.lookup) ?_ (by with_unfolding_all rfl)
  refine wpAny_getItem_str_slice (l := none) (u := none) (st := some (-1, uk)) ⟨_, Heap.get?_push_size _ rfl, rfl, rfl⟩ (by show ((-1 : Int) == 0) = false; decide) (post_val_or_str ⟨Nat.le_trans (Txt.sliceBy_le z none none (-1, uk) (by show (-1 : Int) ≠ 0; decide)) hz, fun t' c => ?_⟩)
  exact ⟨.str (Txt.sliceBy z none none (-1, uk)), _, I5.tok _, ⟨_, rfl⟩, q uk⟩
/-! ### texts of signs below 128 -/
def Asc (u : List Nat) : Prop := ∀ c ∈ u, c < 128
theorem Asc.app {u v : List Nat} (h1 : Asc u) (h2 : Asc v) : Asc (u ++ v) := fun c hc => by
  rcases List.mem_append.mp hc with z | z
  · exact h1 c z
  · exact h2 c z
theorem Asc.sub {u v : List Nat} (h : Asc u) (hs : ∀ c ∈ v, c ∈ u) : Asc v := fun c hc => h c (hs c hc)
theorem Asc.take {u : List Nat} (h : Asc u) (n : Nat) : Asc (u.take n) := h.sub fun _ hc => List.mem_of_mem_take hc
theorem Asc.drop {u : List Nat} (h : Asc u) (n : Nat) : Asc (u.drop n) := h.sub fun _ hc => List.mem_of_mem_drop hc
theorem asc_bof {u : List Nat} (h : ∀ c ∈ u, c = 98 ∨ c = 111 ∨ c = 102) : Asc u := fun c hc => by
  rcases h c hc with rfl | rfl | rfl <;> decide
theorem lay_A {u : List Nat} (h : Asc u) : (dS u).canLay0 = true := by
  show PyData.strOk (SX.S u) = true
  refine sg_iff.mpr fun c hc => ?_
  have hc : c ∈ u := by simpa [SX.S] using hc
  exact Nat.lt_trans (h c hc) (by decide)
theorem sm_A {u : List Nat} (h : Asc u) : Sm 0 (10 * u.length + 2) (dS u) := by
  refine ⟨?_, lay_A h, Nat.le_refl _, ?_⟩
  · show PyData.showable (.str (SX.S u)) = true
    simp only [PyData.showable]
  · have := StrLaws.reprText_len (SX.S u) fun c hc => ?_
    · have e1 : (SX.S u).length = u.length := SX.S_len u
      have e2 : (PyData.shown (.str (SX.S u))) = reprText (SX.S u) := by simp only [PyData.shown]
      show (PyData.shown (.str (SX.S u))).length ≤ _
      rw [e2]
      exact Nat.le_trans this (by rw [e1]; omega)
    · have hc : c ∈ u := by simpa [SX.S] using hc
      exact Nat.lt_trans (h c hc) (by decide)
theorem S_of (z : PySem.Str) : z = SX.S z.cps.toList := by
  cases z
  simp [SX.S]
theorem rev_A {u : List Nat} {k : Tok} (h : Asc u) : ∃ v, Txt.sliceBy (SX.S u) none none (-1, k) = SX.S v ∧ Asc v ∧ v.length ≤ u.length := by
  refine ⟨(Txt.sliceBy (SX.S u) none none (-1, k)).cps.toList, S_of _, fun c hc => ?_, ?_⟩
  · unfold Txt.sliceBy at hc
    split at hc
    · exact h c (by simpa [SX.S] using hc)
    · simp only at hc
      obtain ⟨i, _, hi⟩ := List.mem_filterMap.mp hc
      have := Array.mem_of_getElem? hi
      exact h c (by simpa [SX.S] using this)
  · have := Txt.sliceBy_le (SX.S u) none none (-1, k) (by show (-1 : Int) ≠ 0; decide)
    rw [SX.S_len] at this
    exact this
section
variable {Y : Vol} {K : PySem.W.Frag} {es : List Ent} {ta : TE}
theorem ev_revS {u : List Nat} (h : EvT Y K es ta (· = dS u)) (ha : Asc u) (hl : u.length ≤ 1000000) : EvD Y K es (tRevS ta) (fun d => ∃ v, d = dS v ∧ Asc v ∧ v.length ≤ u.length) := fun H0i H0 Hi H σ s Q q =>
  h H0i H0 Hi H σ s _ fun x d Hi1 H1 f1 hd e => by
    subst e
    have e1 : x = .str (SX.S u) := hd.str
    subst e1
    refine ⟨_, rfl, by rw [SX.S_len]; exact Nat.le_trans hl (by decide), fun k => ?_⟩
    obtain ⟨v, e2, a1, a2⟩ := rev_A (k := k) ha
    rw [e2]
    exact q _ _ Hi1 H1 f1 (.str _) ⟨v, rfl, a1, a2⟩
end
/-! ### parts of texts -/
section
variable {Y : Vol} {K : PySem.W.Frag}
theorem ss_to {z : List Nat} {i : Int} (h : 0 ≤ i) (hz : z.length ≤ 1000000) : SlS Y K (rSlU K) (dS z) none (some i) (· = dS (z.take i.toNat)) := fun Hi H v p ha Q q => ss_S (by rw [SX.S_len]; exact hz) Hi H v p ha Q fun u d Hi' H' f hd e => q u d Hi' H' f hd (by
  rw [e, SX.slice_to h])
theorem ss_from {z : List Nat} {i : Int} (h : 0 ≤ i) (hz : z.length ≤ 1000000) : SlS Y K (rSlU K) (dS z) (some i) none (· = dS (z.drop i.toNat)) := fun Hi H v p ha Q q => ss_S (by rw [SX.S_len]; exact hz) Hi H v p ha Q fun u d Hi' H' f hd e => q u d Hi' H' f hd (by
  rw [e, SX.slice_from h])
end
/-! ### lists of small data -/
theorem lst_len {ts : List PySem.Str} {L : Nat} (h : ∀ t ∈ ts, t.length ≤ L) : (listText ts).length ≤ ts.length * (L + 2) + 3 := by
  have hj : (PySem.Str.join ", " ts).length ≤ ts.length * (L + 2) := by
    have e : (PySem.Str.join ", " ts).cps.toList = TL.joinL (TL.tl ", ") (ts.map TL.tl) := TL.tl_join ", " ts
    have h2 := joinL_len (s := TL.tl ", ") (L := L) (ts.map TL.tl) fun t ht => by
      obtain ⟨u, hu, rfl⟩ := List.mem_map.mp ht
      exact h u hu
    rw [← e, List.length_map] at h2
    exact h2
  rw [listText_eq_join, str_app_len, str_app_len]
  have e1 : ("[" : PySem.Str).length = 1 := rfl
  have e2 : ("]" : PySem.Str).length = 1 := rfl
  rw [e1, e2]
  omega
theorem sm_lst {D L : Nat} {ds : List PyData} (h : ∀ d ∈ ds, Sm D L d) : Sm (D + 1) (ds.length * (L + 2) + 3) (.list ds) := by
  refine ⟨?_, ?_, ?_, ?_⟩
  · simp only [PyData.showable]
    exact sh_all fun d hd => (h d hd).sh
  · show PyData.canLayAll0 ds = true
    exact lay_all fun d hd => (h d hd).lay
  · show PyData.depthAll ds + 1 ≤ D + 1
    exact Nat.succ_le_succ (dp_all fun d hd => (h d hd).dp)
  · simp only [PyData.shown]
    obtain ⟨h1, h2⟩ := shown_all (L := L) fun d hd => (h d hd).ln
    have := lst_len h2
    rw [h1] at this
    exact this
/-! ### what may be shown, and its text compared -/
structure Vw (d : PyData) : Prop where
  sh : Shn d
  ss : SeqAt.shaped (.str d.shown) = true
theorem Sm.vw {D L : Nat} {d : PyData} (h : Sm D L d) (h1 : D ≤ 60) (h2 : L ≤ 1000000) : Vw d := ⟨h.shn h1 h2, shaped_shown h.lay⟩
theorem vw_A {u : List Nat} (h : Asc u) (hl : u.length ≤ 1000) : Vw (dS u) := (sm_A h).vw (by decide) (by omega)
theorem vw_Al {u : List Nat} (h : Asc u) (hl : u.length ≤ 1000) : Vw (.list [dS u]) := (sm_lst (D := 0) (L := 10 * u.length + 2) fun d hd => by
  rw [List.mem_singleton.mp hd]
  exact sm_A h).vw (by decide) (by simp only [List.length_cons, List.length_nil]; omega)
theorem Vw.told {d : PyData} (h : Vw d) : SeqAt.shaped (toldD d) = true := toldShaped h.ss
theorem told_self {d : PyData} (h : Vw d) : PyData.eqv (toldD d) (toldD d) = true := SeqAt.eqv_refl _ (Bool.and_eq_true_iff.mp h.told).1
theorem badShaped {j : Nat} {d : PyData} (hj : SeqAt.shaped (.str (clsN.getD j "")) = true) (h : Vw d) : SeqAt.shaped (badD j d) = true := by
  have h1 := (Bool.and_eq_true_iff.mp h.ss).1
  have h2 := (Bool.and_eq_true_iff.mp hj).1
  show (PyData.canLayAll0 [.str (clsN.getD j ""), .str d.shown] && decide (PyData.depthAll [.str (clsN.getD j ""), .str d.shown] + 1 ≤ 64)) = true
  have e1 : PyData.canLayAll0 [.str (clsN.getD j ""), .str d.shown] = (PyData.canLay0 (.str (clsN.getD j "")) && (PyData.canLay0 (.str d.shown) && true)) := rfl
  have e2 : PyData.depthAll [.str (clsN.getD j ""), .str d.shown] = 0 := rfl
  rw [e1, h1, h2, e2]
  rfl
theorem bad_self {j : Nat} {d : PyData} (hj : SeqAt.shaped (.str (clsN.getD j "")) = true) (h : Vw d) : PyData.eqv (badD j d) (badD j d) = true := SeqAt.eqv_refl _ (Bool.and_eq_true_iff.mp (badShaped hj h)).1
theorem cls_shaped : ∀ j : Fin 17, SeqAt.shaped (.str (clsN.getD j.val "")) = true := by decide +kernel
/-! ### defs that show things, and make no lambda -/
section
variable {P : Program} {w : World} {K : PySem.W.Frag} {mg : Str → Option Value} {base : Heap} {k : Nat} {x : Str} {ps : List Str}
theorem kng_of {st : Stmt} {N : List Str} {n : Nat} {pre : List PyData → Prop} {post : List PyData → PyData → Prop} (D : Dn K mg x st ps) (S : FnScope N ps (defScope st)) (hn : ps.length = n) (hN : n ≤ N.length)
    (body : ∀ (f : Addr) (cdv : Value) (A : Around) (outer : List Env) (s : Shared) (H : Hp) (E : XK), (A.deeper (envOfC x (defScope st) s.heap.objs.size f cdv)).guards = some [] → Room k (A.deeper (envOfC x (defScope st) s.heap.objs.size f cdv)) → (A.deeper (envOfC x (defScope st) s.heap.objs.size f cdv)).units + 64 < cLine →
      ∃ t, PSs (cxOf CX0 P w K mg base N x (defScope st) f cdv A outer s H E).nox (defBody st) t ∧ ∀ (Y : Vol) (ds : List PyData), ds.length = n → pre ds → StS Y K (ds.map .dat ++ List.replicate (N.length - n) .unk) t { nx := fun _ => post ds .none, rt := post ds }) :
    KnG P w K mg base (k + 1) x ps (spF K n pre post) := by
  obtain ⟨f, fd, F, g, b⟩ := D
  refine ⟨f, fd, fun_okG F S (fun vs H Q E h => by rw [hn]; exact h.1) (fun cdv A outer s H vs Q E hG hr hcd hlk h => ?_), g, F.kp, b, lk_of F⟩
  obtain ⟨t, ht, hs⟩ := body f cdv A outer s H E hG hr (by have := hr.un; omega)
  exact ⟨t, ht.nox, fn_read hN hs vs H Q E h⟩
end
end FR
set_option maxRecDepth 100000
set_option maxHeartbeats 4000000
namespace FR
open PySem PySem.Spec PyProof.Rows L2
/-! ### texts that are texts of lines -/
def okAllB (u : List Nat) : Bool := (List.range u.length).all fun k => okC (u.take k).getLast? (u.getD k 0)
theorem wok_of {u : List Nat} (h : ∀ k c, u[k]? = some c → okC (u.take k).getLast? c = true) : WOk u := by
  have key : ∀ k, k ≤ u.length → WOk (u.take k) := by
    intro k
    induction k with
    | zero => intro _; rw [List.take_zero]; exact .nil
    | succ k ih =>
      intro hk
      have e : u[k]? = some (u[k]'(by omega)) := List.getElem?_eq_getElem (by omega)
      rw [List.take_add_one, e]
      exact .snoc (ih (by omega)) (h k _ e)
  have := key u.length (Nat.le_refl _)
  rwa [List.take_length] at this
theorem okAll_iff {u : List Nat} : okAllB u = true ↔ WOk u := by
  unfold okAllB
  rw [List.all_eq_true]
  constructor
  · intro h
    refine wok_of fun k c hc => ?_
    have hk : k < u.length := (List.getElem?_eq_some_iff.mp hc).1
    have := h k (List.mem_range.mpr hk)
    have e : u.getD k 0 = c := by simp [List.getD, hc]
    rwa [e] at this
  · intro h k hk
    have hk := List.mem_range.mp hk
    have e : u[k]? = some (u[k]'hk) := List.getElem?_eq_getElem hk
    have := h.sgn e
    have e2 : u.getD k 0 = u[k]'hk := by simp [List.getD, e]
    rwa [e2]
def txtB (u : List Nat) : Bool := decide (1 ≤ u.length) && (decide (u.length ≤ 60) && okAllB u)
theorem txt_iff {u : List Nat} : txtB u = true ↔ WOk u ∧ u ≠ [] ∧ u.length ≤ 60 := by
  unfold txtB
  rw [Bool.and_eq_true, Bool.and_eq_true, decide_eq_true_eq, decide_eq_true_eq, okAll_iff]
  constructor
  · rintro ⟨h1, h2, h3⟩
    exact ⟨h3, (fun e => by subst e; exact absurd h1 (by decide)), h2⟩
  · rintro ⟨h1, h2, h3⟩
    exact ⟨List.length_pos_iff.mpr h2, h3, h1⟩
def isTextD : PyData → Bool
  | .str s => txtB s.cps.toList
  | _ => false
theorem isTextD_S {u : List Nat} : isTextD (dS u) = txtB u := by
  show txtB (SX.S u).cps.toList = txtB u
  have : (SX.S u).cps.toList = u := by simp [SX.S]
  rw [this]
theorem not_txt {u : List Nat} {k c : Nat} (hc : u[k]? = some c) (h : okC (u.take k).getLast? c = false) : okAllB u = false := by
  cases q : okAllB u with
  | false => rfl
  | true => rw [(okAll_iff.mp q).sgn hc] at h; cases h
def bofB (u : List Nat) : Bool := (u.map fun c => decide ([c] ∈ ([[98], [111], [102]] : List (List Nat)))).all id
theorem bof_iff {u : List Nat} : bofB u = true ↔ ∀ c ∈ u, c = 98 ∨ c = 111 ∨ c = 102 := by
  unfold bofB
  rw [List.all_map, List.all_eq_true]
  constructor
  · intro h c hc
    have := of_decide_eq_true (h c hc)
    simpa using this
  · intro h c hc
    rcases h c hc with rfl | rfl | rfl <;> rfl
/-- two signs side by side -/
def has2 (y : List Nat) (p q : Nat) : Bool := (List.range y.length).any fun i => y[i]? == some p && y[i + 1]? == some q
theorem has2_iff {y : List Nat} {p q : Nat} : has2 y p q = true ↔ ∃ i, y[i]? = some p ∧ y[i + 1]? = some q := by
  unfold has2
  rw [List.any_eq_true]
  constructor
  · rintro ⟨i, _, h⟩
    simp only [Bool.and_eq_true, beq_iff_eq] at h
    exact ⟨i, h⟩
  · rintro ⟨i, h1, h2⟩
    refine ⟨i, List.mem_range.mpr (List.getElem?_eq_some_iff.mp h1).1, ?_⟩
    simp only [Bool.and_eq_true, beq_iff_eq]
    exact ⟨h1, h2⟩
theorem found2 (y : List Nat) (p q : Nat) : (!(Builtin.Str.occurrences (SX.S y) (SX.S [p, q]) 0 (SX.S y).length 1).isEmpty) = has2 y p q := by
  have l1 : (SX.S y).length = y.length := SX.S_len y
  have l2 : (SX.S [p, q]).length = 2 := SX.S_len [p, q]
  have key : (!(Builtin.Str.occurrences (SX.S y) (SX.S [p, q]) 0 (SX.S y).length 1).isEmpty) = true ↔ has2 y p q = true := by
    rw [StrLaws.found_iff, has2_iff]
    constructor
    · rintro ⟨i, h1, h2⟩
      rw [l1, l2] at h1
      unfold Builtin.Str.subAt at h2
      rw [l2] at h2
      have h3 : (SX.S y).cps.extract i (i + 2) = (SX.S [p, q]).cps := beq_iff_eq.mp h2
      have h4 : (y.drop i).take 2 = [p, q] := by
        have := congrArg Array.toList h3
        rw [Array.toList_extract] at this
        simpa [SX.S, List.extract] using this
      refine ⟨i, ?_, ?_⟩
      · have h5 := congrArg (fun l => l[0]?) h4
        simpa [List.getElem?_take, List.getElem?_drop] using h5
      · have h5 := congrArg (fun l => l[1]?) h4
        simpa [List.getElem?_take, List.getElem?_drop] using h5
    · rintro ⟨i, h1, h2⟩
      have hi : i + 1 < y.length := (List.getElem?_eq_some_iff.mp h2).1
      refine ⟨i, by rw [l1, l2]; omega, ?_⟩
      unfold Builtin.Str.subAt
      rw [l2]
      refine beq_iff_eq.mpr ?_
      apply Array.toList_inj.mp
      rw [Array.toList_extract]
      have h4 : (y.drop i).take 2 = [p, q] := by
        have e1 : y.drop i = p :: q :: y.drop (i + 2) := by
          have a1 : y[i]'(by omega) = p := by
            have := List.getElem?_eq_getElem (l := y) (i := i) (by omega)
            rw [h1] at this
            exact (Option.some.inj this).symm
          have a2 : y[i + 1]'hi = q := by
            have := List.getElem?_eq_getElem hi
            rw [h2] at this
            exact (Option.some.inj this).symm
          rw [List.drop_eq_getElem_cons (show i < y.length by omega), List.drop_eq_getElem_cons hi, a1, a2]
        rw [e1]
        rfl
      simpa [SX.S, List.extract] using h4
  cases e1 : (!(Builtin.Str.occurrences (SX.S y) (SX.S [p, q]) 0 (SX.S y).length 1).isEmpty) with
  | true => exact (key.mp e1).symm
  | false =>
    cases e2 : has2 y p q with
    | false => rfl
    | true => rw [key.mpr e2] at e1; cases e1
/-- the program's own way of telling a line's text -/
theorem txt_way {u : List Nat} (hb : bofB u = true) (hne : u ≠ []) : okAllB u = (!decide (u.getD 0 0 = 111) && !has2 u 102 111) := by
  have hbb := bof_iff.mp hb
  have h0 : u[0]? = some (u.getD 0 0) := by
    cases u with
    | nil => exact absurd rfl hne
    | cons a t => rfl
  cases q : okAllB u with
  | true =>
    have hw := okAll_iff.mp q
    have h1 : ¬ u.getD 0 0 = 111 := fun e => by
      have ok := hw.sgn h0
      rw [e] at ok
      cases ok
    have h2 : has2 u 102 111 = false := by
      cases z : has2 u 102 111 with
      | false => rfl
      | true =>
        obtain ⟨i, a, b⟩ := has2_iff.mp z
        exact (no_fo hw i a b).elim
    rw [decide_eq_false h1, h2]
    rfl
  | false =>
    refine Eq.symm ?_
    cases z : (!decide (u.getD 0 0 = 111) && !has2 u 102 111) with
    | false => rfl
    | true =>
      rw [Bool.and_eq_true, Bool.not_eq_true', Bool.not_eq_true', decide_eq_false_iff_not] at z
      have : WOk u := wok_of fun k c hc => by
        have hk : k < u.length := (List.getElem?_eq_some_iff.mp hc).1
        rcases hbb c (List.mem_of_getElem? hc) with rfl | rfl | rfl
        · rfl
        · cases k with
          | zero =>
            rw [h0] at hc
            exact absurd (Option.some.inj hc) z.1
          | succ k =>
            have hk' : u[k]? = some (u[k]'(by omega)) := List.getElem?_eq_getElem (by omega)
            have e1 : (u.take (k + 1)).getLast? = some (u[k]'(by omega)) := by
              have := take_last hk (by omega)
              rw [this, Nat.add_sub_cancel]
              simp [List.getD, hk']
            rw [e1]
            rcases hbb _ (List.mem_of_getElem? hk') with e | e | e
            · rw [e]; rfl
            · rw [e]; rfl
            · rw [e] at hk'
              have := has2_iff.mpr ⟨k, hk', hc⟩
              rw [z.2] at this
              cases this
        · rfl
      rw [okAll_iff.mpr this] at q
      cases q
theorem tSeq_as {a b c : TS} {D : Ends} {σ : L2.St} {H : Hp} (h : tSeq (tSeq a b) c D σ H) : tSeq a (tSeq b c) D σ H := h
section
variable {Y : Vol} {K : PySem.W.Frag}
theorem os_notIn2G {y : List Nat} {p q : Nat} : OpS Y K (rNotInU K) (dS [p, q]) (dS y) (· = .bool (!has2 y p q)) := os_notInSub.mono fun d e => by
  rw [e, found2]
end
end FR
namespace FR
open PySem PySem.Spec PyProof.Rows L2
/-! ### an error's __init__ among the head's facts -/
theorem fun_of2 {K : PySem.W.Frag} {x q : Str} {st : Stmt} {f : Addr} {fd : FuncData} (F : FunD K x q (defArgs st) (defBody st) (defScope st) [] [] f fd) : Fun K x q st f fd := by
  obtain ⟨oc, od, dV, kV, doc, pm, an, cdv, ct, osl, e, lk, hcd, hd, _⟩ := F.ex
  rcases hd with ⟨_, rfl⟩ | ⟨h, _⟩
  · exact ⟨⟨oc, od, kV, doc, pm, an, cdv, ct, osl, e, lk, hcd⟩, F.kp⟩
  · exact absurd rfl h
def inS (st : Stmt) (k : Nat) : Stmt := match st with
  | .ClassDef _ _ _ body _ _ _ _ _ _ _ => body.getD k (.Pass ⟨0, 0, 0, 0⟩)
  | _ => .Pass ⟨0, 0, 0, 0⟩
/-- C.__init__ -/
def ddI (C : Str) (st : Stmt) : He.DefD := ⟨(C, some "__init__"), "__init__", C ++ ".__init__", defArgs st, defBody st, defScope st, [], []⟩
theorem clsG_of {K : PySem.W.Frag} {h : Heap} {mg : Str → Option Value} {fa : List He.Fa} {fn : List He.DefD} {pre : List He.Fa} (X : K.In h) (G : h.Ns mainGlobals mg) (c : He.SaysD fa fn K) (e : fa = pre ++ (clsN ++ basN).map He.Fa.glo ++ (bltN.map Str.ofString).map He.Fa.free) : ClsG K mg := by
  subst e
  exact ⟨fun n hn => He.glo_ok X G (c.facts (f := .glo n) (List.mem_append_left _ (List.mem_append_right _ (List.mem_map_of_mem hn)))), fun n hn => He.free_ok X G (c.facts (f := .free n) (List.mem_append_right _ (List.mem_map_of_mem hn)))⟩
end FR
set_option maxRecDepth 100000
set_option maxHeartbeats 4000000
namespace FR
open PySem PySem.Spec PySem.Calls PyProof.Rows L2 PySem.W
/-! ### the plans: a tuple of the module -/
def planNames : List PySem.Str := ["behind", "front", "joined", "packed", "any"]
def txtsB : List Value → List PySem.Str → Bool
  | [], [] => true
  | .str x _ :: vs, y :: ys => decide (x = y) && txtsB vs ys
  | _, _ => false
theorem txtsB_ok : ∀ {vs : List Value} {ys : List PySem.Str}, txtsB vs ys = true → Vals (ys.map V.str) vs
  | [], [], _ => .nil
  | [], _ :: _, h => by cases h
  | v :: vs, [], h => by cases v <;> cases h
  | v :: vs, y :: ys, h => by
    cases v with
    | str x t =>
      have h : (decide (x = y) && txtsB vs ys) = true := h
      rw [Bool.and_eq_true, decide_eq_true_eq] at h
      rw [List.map_cons]
      exact .cons ⟨t, by rw [h.1]⟩ (txtsB_ok h.2)
    | _ => cases h
def tupB (K : Frag) (a : Addr) (ys : List PySem.Str) : Bool := match K.lookup a with
  | some ⟨.type "tuple", _, .seq its _, _⟩ => txtsB its.toList ys && decide (its.size ≤ 1000)
  | _ => false
theorem tupB_ok {K : Frag} {a : Addr} {ys : List PySem.Str} (h : tupB K a ys = true) (H : Hp) : L2.SqT K H a (ys.map V.str) := by
  unfold tupB at h
  split at h
  · rename_i d its n sl ho
    rw [Bool.and_eq_true, decide_eq_true_eq] at h
    exact .inr ⟨_, its, n, ho, rfl, rfl, Nat.le_trans h.2 (by decide), txtsB_ok h.1⟩
  · cases h
structure TupC (K : Frag) (mg : Str → Option Value) (x : Str) (ys : List PySem.Str) : Prop where
  at_ : ∃ a, mg x = some (.ref a) ∧ ∀ H, L2.SqT K H a (ys.map V.str)
section
variable {K : PySem.W.Frag} {H : Hp}
theorem da_strs : ∀ ys : List PySem.Str, DaAll K H (ys.map V.str) (ys.map PyData.str)
  | [] => .nil
  | y :: ys => .cons (.str y) (da_strs ys)
end
def isPlanD : PyData → Bool
  | .str s => decide (s ∈ planNames)
  | _ => false
section
variable {Y : Vol} {K : PySem.W.Frag} {es : List Ent} {tt : TT} {te tl ta tb : TE} {j : Nat} {a : PyData}
theorem ev_tupc {x : Addr} {ys : List PySem.Str} (h : ∀ H, L2.SqT K H x (ys.map V.str)) : EvD Y K es (tC (.ref x)) (· = .tuple (ys.map .str)) := ev_c (.tup (h _) (da_strs ys))
theorem paired_r2 {α : Type} {G : PyData → Prop} : ∀ {ks : List α} {ys : List PyData}, Paired (fun _ y => G y) ks ys → ∀ y ∈ ys, G y
  | _, _, .nil, y, hy => by cases hy
  | _, _, .cons r t, y, hy => by
    rcases List.mem_cons.mp hy with rfl | hy
    · exact r
    · exact paired_r2 t y hy
/-- range, of a number that is drawn -/
theorem ev_lcR1x {tl : TA} {Pl : Int → Prop} (h : ArD Y K es tl (fun ds => ∃ n, ds = [.int n] ∧ Pl n)) (G : PyData → Prop) (he : ∀ k : Nat, EvD Y K (es.set j (.dat (.int k))) te G) (hl : ∀ n, Pl n → n < 1000000 ∧ -1000000 ≤ n) :
    EvD Y K es (tLc (iRng1 tl) (gName j) tYes te [j]) (fun r => ∃ n ys, Pl n ∧ r = .list ys ∧ ys.length = n.toNat ∧ ∀ y ∈ ys, G y) := fun H0i H0 Hi H σ s Q q => by
  refine h H0i H0 Hi H σ s _ fun vs ds Hi1 H1 f1 hv ⟨n, e, pn⟩ => ?_
  have hn := hl n pn
  subst e
  -- from here on the range's end is known
  have key : EvD Y K es (tLc (iRng1 (fun σ H Q => Q vs H)) (gName j) tYes te [j]) (fun r => ∃ ys, r = .list ys ∧ Paired (fun _ y => G y) ((List.range n.toNat).filter fun _ => true) ys) := by
    cases hv with
    | cons h1 h2 =>
      cases h1
      cases h2
      exact ev_lcR1 (n := n) (fun H0i H0 Hi H σ s Q q => q [.int n] [.int n] Hi H (Fr.refl s.pre) (.cons (.int n) .nil) rfl) (fun _ => true) (fun _ y => G y) (fun _ _ => tb_yes) (fun k _ _ => he k) hn.1 hn.2
  refine key H0i H0 Hi1 H1 σ (s.step f1) Q fun v d Hi' H' f hd ⟨ys, e, p⟩ => ?_
  subst e
  refine q v _ Hi' H' (f1.trans f) hd ⟨n, ys, pn, rfl, ?_, ?_⟩
  · have := p.length
    rw [List.filter_eq_self.mpr (fun _ _ => rfl), List.length_range] at this
    exact this.symm
  · exact paired_r2 p
/-! parts of tuples -/
theorem cut_to {ds : List PyData} {i : Nat} (h : i ≤ ds.length) : cutD ds none (some (i : Int)) = ds.take i := by
  unfold cutD
  rw [HT.sIx_none, HT.sIx_nat, List.drop_zero, Nat.sub_zero, Nat.min_eq_left h]
theorem cut_from {ds : List PyData} {i : Nat} : cutD ds (some (i : Int)) none = ds.drop i := by
  unfold cutD
  rw [HT.sIx_none, HT.sIx_nat]
  by_cases h : i ≤ ds.length
  · rw [Nat.min_eq_left h, List.take_of_length_le (by rw [List.length_drop]; exact Nat.le_refl _)]
  · have h2 : ds.length ≤ i := by omega
    rw [Nat.min_eq_right h2, List.drop_of_length_le (Nat.le_refl _), List.drop_of_length_le h2, List.take_nil]
theorem cut_last {ds : List PyData} : cutD ds none (some (-1)) = ds.dropLast := by
  unfold cutD
  have e : HT.sIx ds.length ds.length (some (-1)) = ds.length - 1 := by
    show (if (-1 : Int) < 0 then ((-1 : Int) + (ds.length : Int)).toNat else min (-1 : Int).toNat ds.length) = _
    rw [if_pos (by decide)]
    omega
  rw [HT.sIx_none, e, List.drop_zero, Nat.sub_zero, List.dropLast_eq_take]
theorem ss_Tto {ds : List PyData} {i : Nat} (h : i ≤ ds.length) : SlS Y K (rSlU K) (.tuple ds) none (some (i : Int)) (· = .tuple (ds.take i)) := cut_to h ▸ ss_T
theorem ss_Tfrom {ds : List PyData} {i : Nat} : SlS Y K (rSlU K) (.tuple ds) (some (i : Int)) none (· = .tuple (ds.drop i)) := cut_from (ds := ds) (i := i) ▸ ss_T
theorem ss_Tlast {ds : List PyData} : SlS Y K (rSlU K) (.tuple ds) none (some (-1)) (· = .tuple ds.dropLast) := cut_last (ds := ds) ▸ ss_T
end
/-! ### what fits tells -/
def fitsB (ns : List Int) (s : PySem.Str) : Bool :=
  if s = "behind" then decide (0 < ns.headD 0) && (ns.drop 1).all fun n => decide (n < 0)
  else if s = "front" then decide (0 < ns.getLastD 0) && ns.dropLast.all fun n => decide (n < 0)
  else if s = "joined" then ns.all fun n => decide (0 < n)
  else if s = "packed" then decide (0 < ns.headD 0) && ns.dropLast.all fun n => decide (0 < n)
  else true
/-! ### values that may be shown, and no tuples too long -/
structure Vt (d : PyData) : Prop where
  vw : Vw d
  ln : ∀ es, d = .tuple es → es.length < 100000
end FR
set_option maxRecDepth 100000
set_option maxHeartbeats 4000000
namespace FR
open PySem PySem.Spec PySem.Calls PyProof.Rows L2
/-! ### tuple * int -/
section
variable {X : Cx} {K : PySem.W.Frag}
theorem kop_repT (h : X.K = K) : OpR X (binaryOp .Mult) (rRepT K) := h ▸ op_repT
end
section
variable {Y : Vol} {K : PySem.W.Frag} {es : List Ent}
theorem os_repT {ds : List PyData} {n : Int} (hne : ds ≠ []) (h1 : ds.length ≤ 1000) (h2 : 2 ≤ n) (h3 : n ≤ 1000) : OpS Y K (rRepT K) (.tuple ds) (.int n) (· = .tuple (List.replicate n.toNat ds).flatten) := fun Hi H v w p ha hb Q q => by
  obtain ⟨a, vs, rfl, h4, _, h5⟩ := ha.tup p.sub
  refine ⟨a, n, vs, rfl, hb.int, h4, fun e => ?_, h2, h3, by rw [h5.len]; exact h1, fun z hz => q _ _ _ _ (Fr.alloc p hz not_tb_tup) (.tup (.inl (.inl upd_same)) (DaAll.mono (same_upd (p.sub.free hz)) _ _ (h5.reps _))) rfl⟩
  have := h5.len
  rw [e] at this
  exact hne (List.eq_nil_of_length_eq_zero this.symm)
/-! ### what _law_caught tells of a def that takes a line -/
def lnsD : PyData → List Int
  | .tuple ds => intsD ds
  | _ => []
def outD (good : List Int → PyData) (d : PyData) : PyData := if isLineD d = true then toldD (good (lnsD d)) else badD 0 d
theorem out_yes {good : List Int → PyData} {ns : List Int} (h : lineB ns = true) : outD good (dL ns) = toldD (good ns) := by
  have e : isLineD (dL ns) = true := by rw [isLineD_L]; exact h
  unfold outD
  rw [if_pos e]
  show toldD (good (intsD (ns.map .int))) = _
  rw [intsD_map]
theorem out_no {good : List Int → PyData} {d : PyData} (h : isLineD d = false) : outD good d = badD 0 d := by
  unfold outD
  rw [h]
  rfl
theorem line_of {d : PyData} (h : isLineD d = true) : ∃ ns, d = dL ns ∧ lineB ns = true := by
  cases d with
  | tuple ds =>
    have h2 : (ds.all isPieceD && lineB (intsD ds)) = true := h
    rw [Bool.and_eq_true] at h2
    exact ⟨intsD ds, by rw [ints_of h2.1, intsD_map], h2.2⟩
  | _ => cases h
theorem out_shaped {good : List Int → PyData} {d : PyData} (hd : Vw d) (hg : ∀ ns, lineB ns = true → Vw (good ns)) : SeqAt.shaped (outD good d) = true := by
  cases q : isLineD d with
  | true =>
    obtain ⟨ns, rfl, h⟩ := line_of q
    rw [out_yes h]
    exact (hg ns h).told
  | false =>
    rw [out_no q]
    exact badShaped (cls_shaped ⟨0, by decide⟩) hd
theorem ev_tup1 {te : TE} {P : PyData → Prop} (h : EvD Y K es te P) : EvD Y K es (tTup (tCons te tNil)) (fun d => ∃ x, P x ∧ d = .tuple [x]) :=
  (ev_tup (ar_cons h fun _ _ => ar_nil) (fun ds ⟨x, r, e1, _, e2⟩ => by subst e1 e2; exact Nat.le_of_ble_eq_true rfl)).mono fun d ⟨ds, e, x, r, e1, hx, e2⟩ => ⟨x, hx, by rw [e, e1, e2]⟩
theorem sumAbs_nonneg : ∀ ns : List Int, 0 ≤ sumAbs ns
  | [] => by decide
  | n :: ns => by
    have h1 := sumAbs_nonneg ns
    have h2 : 0 ≤ absI n := by unfold absI; split <;> omega
    show 0 ≤ (absI n :: ns.map absI).sum
    rw [List.sum_cons]
    have h3 : (ns.map absI).sum = sumAbs ns := rfl
    omega
/-! lists of three such -/
theorem shaped3 {a b c : PyData} (ha : SeqAt.shaped a = true) (hb : SeqAt.shaped b = true) (hc : SeqAt.shaped c = true) (h1 : a.depth ≤ 1) (h2 : b.depth ≤ 1) (h3 : c.depth ≤ 1) : SeqAt.shaped (.list [a, b, c]) = true := by
  have e1 := (Bool.and_eq_true_iff.mp ha).1
  have e2 := (Bool.and_eq_true_iff.mp hb).1
  have e3 := (Bool.and_eq_true_iff.mp hc).1
  show (PyData.canLayAll0 [a, b, c] && decide (PyData.depthAll [a, b, c] + 1 ≤ 64)) = true
  have l : PyData.canLayAll0 [a, b, c] = (PyData.canLay0 a && (PyData.canLay0 b && (PyData.canLay0 c && true))) := rfl
  have d : PyData.depthAll [a, b, c] ≤ 1 := dp_all fun e he => by
    simp only [List.mem_cons, List.not_mem_nil, or_false] at he
    rcases he with rfl | rfl | rfl <;> assumption
  rw [l, e1, e2, e3, decide_eq_true (show PyData.depthAll [a, b, c] + 1 ≤ 64 by omega)]
  rfl
theorem told_dp {d : PyData} : (toldD d).depth ≤ 1 := Nat.le_refl 1
theorem bad_dp {j : Nat} {d : PyData} : (badD j d).depth ≤ 1 := Nat.le_refl 1
theorem out_dp {good : List Int → PyData} {d : PyData} : (outD good d).depth ≤ 1 := by
  unfold outD
  split
  · exact told_dp
  · exact bad_dp
theorem vw_bool (b : Bool) : Vw (.bool b) := by
  have h : ∀ b : Bool, (PyData.bool b).showable = true ∧ (PyData.bool b).depth ≤ 60 ∧ (PyData.bool b).shown.length ≤ 1000000 ∧ SeqAt.shaped (.str (PyData.bool b).shown) = true := by decide +kernel
  obtain ⟨a, c, d, e⟩ := h b
  exact ⟨⟨a, .inl rfl, c, d⟩, e⟩
/-- tuples of small things -/
theorem vt_tup {es : List PyData} (h : ∀ e ∈ es, Sm 1 100 e) (hl : es.length ≤ 1000) : Vt (.tuple es) := by
  refine ⟨(sm_tup h).vw (by decide) (by omega), fun xs e => ?_⟩
  injection e with e
  subst e
  omega
theorem vt_of {d : PyData} (h : Vw d) (hn : ∀ es, d ≠ .tuple es) : Vt d := ⟨h, fun es e => absurd e (hn es)⟩
end
end FR
namespace FR
open PySem PySem.Spec PyProof.Rows L2
/-! ### the table of one lambda -/
section
variable {P1 : Addr} {q q1 : Str}
def lam1 (q1 : Str) (P1 : Addr) : List (Addr × Str) := [(P1, q1)]
theorem lam1_m1 (e : q = q1) : (P1, q) ∈ lam1 q1 P1 := e ▸ .head _
theorem lam1_c {p : Addr × Str} (h : p ∈ lam1 q1 P1) : p = (P1, q1) := List.mem_singleton.mp h
theorem lam1_o1 (e : q1 = q) : ∀ p ∈ lam1 q1 P1, p.1 = P1 → p.2 = q := fun p hp _ => by
  rw [lam1_c hp]
  exact e
end
end FR
set_option maxRecDepth 100000
set_option maxHeartbeats 4000000
namespace FR
open PySem PySem.Spec PySem.Calls PyProof.Rows L2
/-! ### a, b, c = x, y, z -/
section
variable {Y : Vol} {K : PySem.W.Frag} {es : List Ent} {O : Out}
theorem ss_par3 {i j l : Nat} {ta : TA} {Pr : List PyData → Prop} (h : ArD Y K es ta Pr) (k : ∀ ds, Pr ds → ∃ a b c, ds = [a, b, c] ∧ O.nx (((es.set i (.dat a)).set j (.dat b)).set l (.dat c))) : StS Y K es (tPar3 i j l ta) O := fun H0i H0 Hi H σ s Dn n b c r =>
  h H0i H0 Hi H σ s _ fun vs ds Hi' H' f hd p => by
    obtain ⟨x, y, z, e, kk⟩ := k ds p
    subst e
    cases hd with
    | cons h1 h2 =>
      cases h2 with
      | cons h3 h4 =>
        cases h4 with
        | cons h5 h6 =>
          cases h6
          exact ⟨_, _, _, rfl, n Hi' H' _ _ f.hi ((((s.step f).setDat h1).setDat h3).setDat h5) kk⟩
/-! ### texts: count, rstrip, not in -/
theorem count_S (c : Nat) : ∀ u : List Nat, cnt c u = ((u.count c : Nat) : Int)
  | [] => rfl
  | n :: u => by
    rw [cnt_cons, count_S c u, List.count_cons]
    by_cases h : n = c
    · rw [if_pos h, if_pos (beq_iff_eq.mpr h)]
      omega
    · rw [if_neg h, if_neg (fun z => h (beq_iff_eq.mp z))]
      omega
theorem mt_cntS {u : List Nat} {c : Nat} : MtS Y K "str" (fun x xs H Q => ∃ a b, x = V.str a ∧ xs = [V.str b] ∧ Q (.int (Txt.count a b)) H) (dS u) [dS [c]] (· = .int ((u.count c : Nat) : Int)) := fun Hi H v vs p hv h Q q => by
  obtain ⟨w, rfl, hw⟩ := pair1 h
  refine ⟨_, _, hv.str, by rw [hw.str], ?_⟩
  have e : Txt.count (SX.S u) (SX.S [c]) = ((u.count c : Nat) : Int) := by
    have e1 : Txt.count (SX.S u) ⟨#[c]⟩ = cnt c (SX.S u).cps.toList := count_is _ c
    have e2 : (SX.S u).cps.toList = u := by simp [SX.S]
    rw [e2, count_S] at e1
    exact e1
  rw [e]
  exact q _ _ Hi H (Fr.refl p) (.int _) rfl
/-- u without the signs c at its end -/
def rsN (u : List Nat) (c : Nat) : List Nat := u.take (u.length - (u.reverse.takeWhile fun x => x == c).length)
theorem rstrip_S (u : List Nat) (c : Nat) : Txt.rstripChars (SX.S u) (SX.S [c]) = SX.S (rsN u c) := by
  have hg : ∀ x, (SX.S [c]).cps.contains x = (x == c) := fun x => by
    show (#[c] : Array Nat).contains x = _
    simp [Array.contains, BEq.comm]
  have e2 : (SX.S u).cps.toList = u := by simp [SX.S]
  have hl : (SX.S u).length = u.length := SX.S_len u
  have hf : (SX.S [c]).cps.contains = fun x => x == c := funext hg
  have key : stripped (SX.S [c]).cps.contains false true (SX.S u) = SX.S (rsN u c) := by
    unfold stripped stripLo stripHi
    rw [if_neg Bool.false_ne_true, if_pos rfl, List.drop_zero, e2, hl, hf, strSub_mk, e2, List.drop_zero, Nat.sub_zero]
    rfl
  unfold Txt.rstripChars Txt.stripBy
  split
  · next h =>
    have h2 : stripHi (SX.S [c]).cps.contains true (SX.S u) 0 = (SX.S u).length := by
      unfold stripSame at h
      rw [Bool.and_eq_true] at h
      have := beq_iff_eq.mp h.2
      exact this
    unfold stripHi at h2
    rw [if_pos rfl, List.drop_zero, e2, hl, hf] at h2
    unfold rsN
    rw [h2, List.take_length]
  · exact key
theorem mt_rsS {u : List Nat} {c : Nat} (hl : u.length ≤ 1000000) : MtS Y K "str" (fun x xs H Q => ∃ a b, x = V.str a ∧ xs = [V.str b] ∧ a.length ≤ sizeLine ∧ Q (.str (Txt.rstripChars a b)) H) (dS u) [dS [c]] (· = dS (rsN u c)) := fun Hi H v vs p hv h Q q => by
  obtain ⟨w, rfl, hw⟩ := pair1 h
  refine ⟨_, _, hv.str, by rw [hw.str], by rw [SX.S_len]; exact Nat.le_trans hl (by decide), ?_⟩
  rw [rstrip_S]
  exact q _ _ Hi H (Fr.refl p) (.str _) rfl
theorem os_notIn1 {y : List Nat} {c : Nat} : OpS Y K (rNotInU K) (dS [c]) (dS y) (· = .bool (!decide (c ∈ y))) := os_notInSub.mono fun d e => by
  have e2 : (SX.S y).cps.toList = y := by simp [SX.S]
  have := StrLaws.found_one (SX.S y) c
  rw [e2] at this
  rw [e]
  exact congrArg PyData.bool (congrArg Bool.not this)
end
/-! ### fits, by the letters of the line -/
def posN (ns : List Int) : Nat := ns.countP fun n => decide (0 < n)
theorem word_cons (n : Int) (ns : List Int) : wordOf (n :: ns) = pieceW n ++ wordOf ns := rfl
theorem word_app (a b : List Int) : wordOf (a ++ b) = wordOf a ++ wordOf b := by
  unfold wordOf
  rw [List.map_append, List.flatten_append]
theorem count_word : ∀ ns : List Int, (wordOf ns).count 98 = posN ns
  | [] => rfl
  | n :: ns => by
    rw [word_cons, List.count_append, count_word ns]
    unfold posN
    rw [List.countP_cons]
    unfold pieceW
    by_cases h : 0 < n
    · rw [if_pos h, List.count_cons, List.count_replicate, decide_eq_true h, if_pos rfl]
      simp
      omega
    · rw [if_neg h, List.count_replicate, decide_eq_false h]
      simp
theorem mem_word : ∀ {ns : List Int}, (∀ n ∈ ns, n ≠ 0) → (102 ∈ wordOf ns ↔ ∃ n ∈ ns, n < 0)
  | [], _ => by simp [wordOf]
  | n :: ns, h => by
    rw [word_cons, List.mem_append, mem_word fun m hm => h m (List.mem_cons_of_mem _ hm)]
    have h0 := h n List.mem_cons_self
    have e : 102 ∈ pieceW n ↔ n < 0 := by
      unfold pieceW
      by_cases hn : 0 < n
      · rw [if_pos hn]
        constructor
        · intro z
          rcases List.mem_cons.mp z with z | z
          · cases z
          · exact absurd (List.eq_of_mem_replicate z) (by decide)
        · intro z
          omega
      · rw [if_neg hn]
        constructor
        · intro _
          omega
        · intro z
          exact List.mem_replicate.mpr ⟨by omega, rfl⟩
    rw [e]
    simp
theorem pos_all {ns : List Int} (h : ∀ n ∈ ns, n ≠ 0) : (posN ns = 0) ↔ (ns.all fun n => decide (n < 0)) = true := by
  unfold posN
  rw [List.countP_eq_zero, List.all_eq_true]
  constructor
  · intro z n hn
    have := z n hn
    have h0 := h n hn
    simp at this
    exact decide_eq_true (by omega)
  · intro z n hn
    have := of_decide_eq_true (z n hn)
    simp
    omega
theorem fill_all {ns : List Int} (h : ∀ n ∈ ns, n ≠ 0) : (!decide (102 ∈ wordOf ns)) = ns.all fun n => decide (0 < n) := by
  by_cases q : ∃ n ∈ ns, n < 0
  · rw [decide_eq_true ((mem_word h).mpr q)]
    obtain ⟨n, hn, hn0⟩ := q
    cases z : ns.all fun n => decide (0 < n) with
    | false => rfl
    | true =>
      have := of_decide_eq_true (List.all_eq_true.mp z n hn)
      omega
  · rw [decide_eq_false (fun z => q ((mem_word h).mp z))]
    refine Eq.symm (List.all_eq_true.mpr fun n hn => decide_eq_true ?_)
    have h0 := h n hn
    by_cases hn0 : n < 0
    · exact absurd ⟨n, hn, hn0⟩ q
    · omega
theorem piece_first {n : Int} (h : n ≠ 0) : (pieceW n)[0]? = some (if 0 < n then 98 else 102) := by
  unfold pieceW
  by_cases hn : 0 < n
  · rw [if_pos hn, if_pos hn]
    rfl
  · rw [if_neg hn, if_neg hn]
    rw [List.getElem?_replicate, if_pos (by omega)]
theorem piece_len {n : Int} (h : n ≠ 0) : 0 < (pieceW n).length := by
  unfold pieceW
  split
  · simp
  · rw [List.length_replicate]
    omega
theorem piece_last {n : Int} (h : n ≠ 0) : ∃ c, (pieceW n).getLast? = some c ∧ (c = 102 ↔ n < 0) := by
  unfold pieceW
  by_cases hn : 0 < n
  · rw [if_pos hn]
    by_cases h1 : (n - 1).toNat = 0
    · rw [h1]
      exact ⟨98, rfl, by constructor <;> intro z <;> omega⟩
    · refine ⟨111, ?_, by constructor <;> intro z <;> omega⟩
      rw [List.getLast?_cons, List.getLast?_replicate, if_neg h1]
      rfl
  · rw [if_neg hn]
    exact ⟨102, by rw [List.getLast?_replicate, if_neg (by omega)], by constructor <;> intro z <;> omega⟩
theorem word_first {ns : List Int} (hne : ns ≠ []) (h : ∀ n ∈ ns, n ≠ 0) : (wordOf ns)[0]? = some (if 0 < ns.headD 0 then 98 else 102) := by
  cases ns with
  | nil => exact absurd rfl hne
  | cons a t =>
    have h0 := h a List.mem_cons_self
    rw [word_cons, List.getElem?_append_left (piece_len h0)]
    exact piece_first h0
theorem word_last {ns : List Int} (hne : ns ≠ []) (h : ∀ n ∈ ns, n ≠ 0) : ∃ c, (wordOf ns).getLast? = some c ∧ (c = 102 ↔ ns.getLastD 0 < 0) := by
  obtain ⟨p, x, rfl⟩ : ∃ p x, ns = p ++ [x] := ⟨ns.dropLast, ns.getLast hne, (List.dropLast_concat_getLast hne).symm⟩
  obtain ⟨c, h1, h2⟩ := piece_last (h x (by simp))
  refine ⟨c, ?_, ?_⟩
  · rw [word_app]
    have e : wordOf [x] = pieceW x := by
      show pieceW x ++ [] = _
      rw [List.append_nil]
    rw [e, List.getLast?_append, h1]
    rfl
  · have e : (p ++ [x]).getLastD 0 = x := by simp [List.getLastD_eq_getLast?]
    rw [e]
    exact h2
theorem takeWhile_rep {c : Nat} : ∀ (k : Nat) (l : List Nat), (∀ x, l.head? = some x → x ≠ c) → ((List.replicate k c ++ l).takeWhile fun x => x == c) = List.replicate k c
  | 0, [], _ => rfl
  | 0, x :: l, h => by
    have hx := h x rfl
    rw [List.replicate_zero, List.nil_append, List.takeWhile_cons_of_neg (by simpa using hx)]
  | k + 1, l, h => by
    rw [List.replicate_succ, List.cons_append, List.takeWhile_cons_of_pos (by simp), takeWhile_rep k l h]
theorem rs_app {a : List Nat} {c k : Nat} (h : ∀ x, a.getLast? = some x → x ≠ c) : rsN (a ++ List.replicate k c) c = a := by
  unfold rsN
  rw [List.reverse_append, List.reverse_replicate, takeWhile_rep k a.reverse (fun x hx => h x (by rwa [List.head?_reverse] at hx)), List.length_append, List.length_replicate, Nat.add_sub_cancel]
  exact List.take_left' rfl
theorem fits_packed {ns : List Int} (h : lineB ns = true) : (decide (0 < ns.headD 0) && !decide (102 ∈ rsN (wordOf ns) 102)) = (decide (0 < ns.headD 0) && ns.dropLast.all fun n => decide (0 < n)) := by
  obtain ⟨hok, hne, hs⟩ := lineB_inv h
  have hnz := hok.nz
  have hadj : adjB ns = false := by
    unfold lineB at h
    simp only [Bool.and_eq_true, Bool.not_eq_true'] at h
    exact h.2
  by_cases hh : 0 < ns.headD 0
  · rw [decide_eq_true hh, Bool.true_and, Bool.true_and]
    obtain ⟨p, x, rfl⟩ : ∃ p x, ns = p ++ [x] := ⟨ns.dropLast, ns.getLast hne, (List.dropLast_concat_getLast hne).symm⟩
    have hp : ∀ n ∈ p, n ≠ 0 := fun n hn => hnz n (List.mem_append_left _ hn)
    have hx := hnz x (by simp)
    have e1 : wordOf [x] = pieceW x := by
      show pieceW x ++ [] = _
      rw [List.append_nil]
    rw [List.dropLast_concat, word_app, e1]
    by_cases hx0 : 0 < x
    · have hk : rsN (wordOf p ++ pieceW x) 102 = wordOf p ++ pieceW x := by
        have := rs_app (a := wordOf p ++ pieceW x) (c := 102) (k := 0) fun y hy => by
          obtain ⟨c, h1, h2⟩ := piece_last hx
          rw [List.getLast?_append, h1] at hy
          cases hy
          intro e
          have := h2.mp e
          omega
        rwa [List.replicate_zero, List.append_nil] at this
      rw [hk, ← e1, ← word_app, fill_all hnz, List.all_append]
      simp [hx0]
    · have hk : pieceW x = List.replicate (-x).toNat 102 := by
        unfold pieceW
        rw [if_neg hx0]
      rw [hk, rs_app, fill_all hp]
      intro y hy
      by_cases hpe : p = []
      · subst hpe
        cases hy
      · obtain ⟨c, h1, h2⟩ := word_last hpe hp
        rw [h1] at hy
        cases hy
        intro e
        have hl := h2.mp e
        -- two fillings side by side
        have hp0 : 0 < p.length := List.length_pos_iff.mpr hpe
        have : adjB (p ++ [x]) = true := by
          unfold adjB
          rw [List.any_eq_true]
          refine ⟨p.length - 1, List.mem_range.mpr (by rw [List.length_append]; simp only [List.length_cons, List.length_nil]; omega), ?_⟩
          have a1 : (p ++ [x]).getD (p.length - 1) 0 = p.getLastD 0 := by
            rw [List.getD, List.getElem?_append_left (by omega), List.getLastD_eq_getLast?, List.getLast?_eq_getElem?]
          have a2 : (p ++ [x]).getD (p.length - 1 + 1) 0 = x := by
            rw [List.getD, List.getElem?_append_right (by omega), show p.length - 1 + 1 - p.length = 0 by omega]
            rfl
          rw [a1, a2, decide_eq_true hl, decide_eq_true (show x < 0 by omega)]
          rfl
        rw [this] at hadj
        cases hadj
  · rw [decide_eq_false hh, Bool.false_and, Bool.false_and]
/-! ### defs over several data that make lambdas -/
def spLn (K : PySem.W.Frag) (T : List (Addr × Str)) (n : Nat) (pre : List PyData → Prop) (post : List PyData → PyData → Prop) : Sp := fun vs H Q _ =>
  vs.length = n ∧ ∃ (Y : Vol) (Hi : Hp) (ds : List PyData), Y.Lam T ∧ Pre Y Hi H ∧ DaAll K Hi vs ds ∧ pre ds ∧ ∀ u e Hi' H', Fr Y Hi H Hi' H' → Da K Hi' u e → post ds e → Q u H'
section
variable {Pg : Program} {w : World} {K : PySem.W.Frag} {mg : Str → Option Value} {base : Heap} {k : Nat} {x : Str} {N ps : List Str} {st : Stmt} {T : List (Addr × Str)} {P0 : Addr} {n : Nat} {pre : List PyData → Prop} {post : List PyData → PyData → Prop}
theorem kng_ofLn (D : Dn K mg x st ps) (S : FnScope N ps (defScope st)) (hn : ps.length = n) (hN : n ≤ N.length) (lm : LmD K mg base x P0)
    (body : ∀ (f c : Addr) (cdv : Value) (A : Around) (outer : List Env) (s : Shared) (H : Hp) (E : XK), (A.deeper (envOfC x (defScope st) s.heap.objs.size f cdv)).guards = some [] → Room k (A.deeper (envOfC x (defScope st) s.heap.objs.size f cdv)) → (A.deeper (envOfC x (defScope st) s.heap.objs.size f cdv)).units + 64 < cLine → cdv = .ref c → LamX.TabB base mg c P0 →
      ∃ t, PSs (cxOf CX0 Pg w K mg base N x (defScope st) f cdv A outer s H E).nox (defBody st) t ∧ ∀ (Y : Vol) (ds : List PyData), Y.Lam T → ds.length = n → pre ds → StS Y K (ds.map .dat ++ List.replicate (N.length - n) .unk) t { nx := fun _ => post ds .none, rt := post ds }) :
    KnG Pg w K mg base (k + 1) x ps (spLn K T n pre post) := by
  obtain ⟨f, fd, F, g, b⟩ := D
  have lk := lk_of F
  refine ⟨f, fd, fun_okG F S (fun vs H Q E h => by rw [hn]; exact h.1) (fun cdv A outer s H vs Q E hG hr hcd hlk h => ?_), g, F.kp, b, lk⟩
  obtain ⟨c, ec⟩ := He.codeIn_ref hcd
  obtain ⟨oc, od, an, kV, doc, pm, ct, osl, l2⟩ := hlk
  have tb : LamX.TabB base mg c P0 := lm f c _ g ⟨oc, od, osl, l2⟩ ec
  obtain ⟨t, ht, hs⟩ := body f c cdv A outer s H E hG hr (by have := hr.un; omega) ec tb
  obtain ⟨hl, Y, Hi, ds, hL, p, hd, hp, q⟩ := h
  have hld : ds.length = n := by rw [← hd.len]; exact hl
  refine ⟨t, ht.nox, hs Y ds hL hld hp Hi H Hi H _ (st0 p (by omega) (by simp only [List.length_append, List.length_map, List.length_replicate]; omega) fun i e hi => ?_) _ (fun Hi' H' σ' es' _ s' o => q _ _ Hi' H' s'.fr .non o) (fun _ _ _ _ _ _ o => o.elim) (fun _ _ _ _ _ _ o => o.elim) (fun v d Hi' H' f hv o => q v d Hi' H' f hv o)⟩
  by_cases hlt : i < ds.length
  · rw [List.getElem?_append_left (by rw [List.length_map]; exact hlt), List.getElem?_map, List.getElem?_eq_getElem hlt] at hi
    cases hi
    obtain ⟨v, h1, h2⟩ := hd.get (List.getElem?_eq_getElem hlt)
    exact .inr ⟨v, h1, .inl ⟨_, rfl, h2⟩⟩
  · rw [List.getElem?_append_right (by rw [List.length_map]; omega)] at hi
    obtain ⟨_, e⟩ := List.getElem?_eq_some_iff.mp hi
    rw [List.getElem_replicate] at e
    exact .inl e.symm
end
section
variable {Y : Vol} {K : PySem.W.Frag} {es : List Ent} {T : List (Addr × Str)} {E : XK} {n : Nat} {pre : List PyData → Prop} {post : List PyData → PyData → Prop} {tr : TA}
theorem ev_cLn {Pds : List PyData → Prop} (hL : Y.Lam T) (h : ArD Y K es tr Pds) (hp : ∀ ds, Pds ds → ds.length = n ∧ pre ds) : EvD Y K es (tCall (spLn K T n pre post) [] E tr) (fun d => ∃ ds, Pds ds ∧ post ds d) := fun H0i H0 Hi H σ s Q q =>
  h H0i H0 Hi H σ s _ fun vs ds Hi1 H1 f1 hd pd => by
    rw [List.append_nil]
    exact ⟨by rw [hd.len]; exact (hp ds pd).1, Y, Hi1, ds, hL, f1.pre, hd, (hp ds pd).2, fun v d Hi' H' f hv po => q v d Hi' H' (f1.trans f) hv ⟨ds, pd, po⟩⟩
end
/-! keyword calls of a def that may raise -/
section
variable {X : Cx} {k : Nat} {ps : List Str} {sp : Sp} {x : Str} {p pos : Pos} {st : Stmt} {kws : List Keyword} {tkw : TA} {ks : List Str} {g : List Value → List Value} {gV : List V → List V} {E : XK}
theorem pe_callEK (h : KnE X.prog X.w X.K X.mg X.base k x ps sp) (D : Dn X.K X.mg x st ps) (hr : Room k X.A) (tk : Takes X (fun cls d _ H => E cls d H)) (hkw : PK X kws tkw)
    (hb : ∀ (kV doc pm : Value) (an : Option Addr) (cdv ct : Value) (ws : List Value), ws.length = ps.length → bindArgs (PySem.W.fnOf x x (defArgs st) (defBody st) (defScope st) .none kV doc pm an cdv ct) ⟨[], ks.zip ws⟩ = pure (ps.zip (g ws)))
    (hlen : ∀ ws : List Value, (g ws).length = ws.length) (hrel : ∀ (zs : List V) (ws : List Value), zs.length = ps.length → Vals zs ws → Vals (gV zs) (g ws)) (hgl : ∀ zs : List V, (gV zs).length = ps.length → zs.length = ps.length) (hg : Gl X x := by rfl) (c1 : (backToKw pos (keywordEach kws X.env)).all (·.1.isSome) = true := by rfl) (c2 : (backToKw pos (keywordEach kws X.env)).filterMap (·.1) = ks := by rfl)
    (c3 : ((backTo pos (starEach [] X.env)).any (·.1) || (backToKw pos (keywordEach kws X.env)).any (·.1.isNone)) = false := by rfl) (hdb : (x == ("__debug__" : Str)) = false := by decide) : PE X (.Call (.Name x p) [] kws pos) (fun σ H Q => tkw σ H fun zs H1 => sp (gV zs) H1 Q E) := by
  obtain ⟨f, fd, F, m1, kp, b, oc, od, osl, l1⟩ := h
  obtain ⟨f', fd', F', m2, b'⟩ := D
  obtain ⟨oc', od', kV, doc, pm, an, cdv, ct, osl', e1, l2, _⟩ := F'.ex
  have ef : f = f' := by
    have := m1.symm.trans m2
    cases this
    rfl
  subst ef
  have efd : fd = fd' := by
    have := l1.symm.trans l2
    cases this
    rfl
  subst efd
  subst e1
  refine ⟨fun pins s σ H Q I h => ?_⟩
  apply wpAny_Call_Name_kw
  refine ld_glob I hg m1 ?_ hdb
  refine PySem.W.callWith_KW0 (h₀ := X.base) I.ok.mod.kin kp c1 ?_ c3
  refine thn (hkw.run pos pins s σ H _ I h) fun ws s2 ⟨zs, H2, I2, rz, q2⟩ => ⟨I2.kIn, ?_⟩
  rw [c2]
  have hl0 := hgl zs (F.len _ _ _ _ q2)
  have r2 := hrel zs ws hl0 rz
  have hl := F.len _ _ _ _ q2
  rw [r2.length] at hl
  refine wpAny_call (codeAny_mono (F.run X.A X.stack s2 H2 ⟨[], ks.zip ws⟩ (g ws) (gV zs) Q E hr I2.env0 (.of_eq (hb _ _ _ _ _ _ ws (by rw [← hlen]; exact hl))) r2 q2) fun r s' hq => ?_)
  cases r with
  | error e => exact passAt tk σ pins H2 s2 e s' I2 hq
  | ok fl =>
    cases fl with
    | ret u => exact I2.after hq
    | next => exact False.elim hq
    | brk => exact False.elim hq
    | cont => exact False.elim hq
end
end FR
namespace FR
open PySem PySem.Spec PySem.Calls PyProof.Rows L2
theorem EvX.mono {Y : Vol} {K : PySem.W.Frag} {err : Option (Nat × PyData)} {E : XK} {es : List Ent} {te : TE} {P P' : PyData → Prop} (h : EvX Y K err E es te P) (i : ∀ d, P d → P' d) : EvX Y K err E es te P' := fun H0i H0 Hi H σ s eo Q q => h H0i H0 Hi H σ s eo Q fun v d Hi' H' f hd p => q v d Hi' H' f hd (i d p)
/-- two arguments by name, the second one first -/
def swap2 {α : Type} : List α → List α
  | [a, b] => [b, a]
  | l => l
theorem swap2_len {α : Type} : ∀ l : List α, (swap2 l).length = l.length
  | [] => rfl
  | [_] => rfl
  | [_, _] => rfl
  | _ :: _ :: _ :: _ => rfl
theorem vals_swap {zs : List V} {ws : List Value} (hl : zs.length = 2) (h : Vals zs ws) : Vals (swap2 zs) (swap2 ws) := by
  match h with
  | .cons r1 (.cons r2 .nil) => exact .cons r2 (.cons r1 .nil)
/-- the call's reading: the values in the def's order -/
theorem ev_callXs {Y : Vol} {K : PySem.W.Frag} {err : Option (Nat × PyData)} {E : XK} {es : List Ent} {pre : List PyData → Prop} {er : List PyData → Option (Nat × PyData)} {post : List PyData → PyData → Prop} {tr : TA} {a b : PyData} (ha : ArD Y K es tr (· = [b, a])) (hp : pre [a, b]) (he : er [a, b] = none ∨ er [a, b] = err) : EvX Y K err E es (fun σ H Q => tr σ H fun zs H1 => spX K 2 pre er post (swap2 zs) H1 Q E) (fun e => er [a, b] = none ∧ post [a, b] e) := fun H0i H0 Hi H σ s eo Q q =>
  ha H0i H0 Hi H σ s _ fun vs ds' Hi1 H1 f1 hv e => by
    subst e
    match vs, hv with
    | [v, u], .cons h1 (.cons h2 .nil) =>
      refine ⟨rfl, Y, Hi1, [a, b], f1.pre, .cons h2 (.cons h1 .nil), hp, fun hn u e Hi' H' f hu pe => q u e Hi' H' (f1.trans f) hu ⟨hn, pe⟩, fun j d hj cls dd Hi' H' R => ?_⟩
      rcases he with he | he
      · rw [he] at hj
        cases hj
      · exact eo j d (he ▸ hj) cls dd Hi' H' (R.trans f1)
end FR
set_option maxRecDepth 100000
set_option maxHeartbeats 4000000
namespace FR
open PySem PySem.Spec PySem.Calls PyProof.Rows L2
/-! ### an own exception's class, whatever its base -/
structure ExK (K : PySem.W.Frag) (C : Addr) (B newId initId : String) (bmB : List Value) : Prop where
  fb : ExcBaseFacts B newId initId bmB
  sf : StoreFacts B bmB "object.__setattr__" "object"
  q : PySem.W.excInitIn K C bmB newId = true
  ov : PySem.W.excOver K C bmB = true
  hd : PySem.W.hasDictIn K C = true
  sa : PySem.W.findIn K (.ref C) "__setattr__" = some (some (.builtin "object.__setattr__"))
  kC : PySem.W.keepIn K (.ref C) = true
  ti : PySem.W.instIn K (.ref C) (.type "type") = some true
section
variable {X : Cx} {pins : List (Addr × Obj)} {σ : L2.St} {H : Hp} {s : Shared} {a C : Addr} {f : Str} {y : V} {u : Value} {Q : Unit → Shared → Prop} {E : Value → Shared → Prop} {A : Around} {B newId initId : String} {bmB : List Value}
/-- self.f = y, the first field -/
theorem store_first (T : ExK X.K C B newId initId bmB) (I : Inv X pins σ H s) (e : H a = some (exo a C none)) (ht : PySem.W.takerIn X.K C f = some none) (ry : RelV y u)
    (k : ∀ dx s', H dx = none → dx ≠ a → Inv X pins σ (upd (upd H dx (exd dx [(f, y)])) a (exo a C (some dx))) s' → Q () s') : wpAny (model X.prog X.w) A (setAttr (.ref a) f u) Q E s := by
  obtain ⟨t1, ho⟩ := exo_at I.hok e
  obtain ⟨hp, g, d, t, os⟩ := s
  have ia : PySem.W.InstAt hp a _ C none := ⟨ho, rfl, rfl, trivial⟩
  refine PySem.W.set_plain I.kIn ia T.sa ?_
  refine PySem.W.osa_openX T.sf I.kIn ia T.ov ht fun b => ?_
  obtain ⟨cd, hc, hd'⟩ := PySem.W.any_some T.hd
  refine wpAny_bind (wpAny_pure (wpAny_bind (PySem.W.instanceDict_exc (t := t1) (c2 := .none) ho (PySem.W.looks_clsIn I.kIn hc) hd' ?_)))
  have hlt : a < hp.objs.size := Heap.lt_size ho
  have hne : hp.objs.size ≠ a := Nat.ne_of_gt hlt
  have hdn : H hp.objs.size = none := I.hok.fresh (Nat.le_refl _)
  have hpx : ∀ {b : Addr} {o : Obj}, b ≠ a → hp.get? b = some o → ((hp.push (PySem.W.dictOf [] 0)).update a fun o => { o with dict := some hp.objs.size }).get? b = some o := fun {b o} hb ho => (Heap.get?_update_ne _ _ _ _ hb).trans (Heap.get?_push_of_some _ ho)
  show wpAny _ _ (PySem.Builtin.ObjectAttr.storeInDict hp.objs.size (.str f _) f u) _ _ _
  have hn0 : ((hp.push (PySem.W.dictOf [] 0)).update a fun o => { o with dict := some hp.objs.size }).Ns1 hp.objs.size fun _ => none :=
    ⟨_, #[], _, (Heap.get?_update_ne _ _ _ _ hne).trans (Heap.get?_push_at rfl rfl), rfl, fun e he => absurd he (by simp), by unfold UniqKeys; simp, fun _ => rfl⟩
  refine PySem.OEX.store_in_old (ns := []) hn0 (fun y hy => absurd rfl hy) (by simp) fun h' tk' hns hs => ?_
  have hx' : h'.get? a = some ({ cls := .ref C, dict := some hp.objs.size, data := .fields #[.ref t1, .none, .none, .none, .bool false, .none] } : Obj) := (hs.2 a hne.symm).trans (Heap.get?_update_self _ (Heap.get?_push_of_some _ ho) rfl)
  have hk : ∀ b o, b ≠ a → hp.get? b = some o → h'.get? b = some o := fun b o hb ho => (hs.2 b (Nat.ne_of_lt (Heap.lt_size ho))).trans (hpx hb ho)
  -- the exception as it was, the new dict beside it
  have ga : (h'.update a fun o => { o with dict := none }).get? a = some ({ cls := .ref C, dict := none, data := .fields #[.ref t1, .none, .none, .none, .bool false, .none] } : Obj) := Heap.get?_update_self _ hx' rfl
  have gb : ∀ b, b ≠ a → (h'.update a fun o => { o with dict := none }).get? b = h'.get? b := fun b hb => Heap.get?_update_ne _ _ _ _ hb
  have rel : ∀ z, RelO (([(f, y)] : List (Str × V)).lookup z) (if z = f then some u else none) := relO_put (fs := []) ry fun z => True.intro
  have J := I.laid (h' := h'.update a fun o => { o with dict := none }) (t' := tk') (o := exd hp.objs.size [(f, y)]) (fun b o hb => by
    by_cases q : b = a
    · subst q
      rw [ho] at hb
      cases hb
      exact ga
    · rw [gb b q]
      exact hk b o q hb) (Nat.le_refl _) (exd_ok (hns.at fun o q => (gb _ hne).trans q) rel)
  have hea : upd H hp.objs.size (exd hp.objs.size [(f, y)]) a = some (exo a C none) := by rw [upd_ne hne.symm]; exact e
  refine k hp.objs.size _ hdn hne (J.write (h' := h') (t' := tk') (x := a) (e := a) (o := exo a C (some hp.objs.size)) (by rw [hea]; exact True.intro) (.inl rfl) (fun b o hb q => ?_) ⟨_, hx'⟩ (exo_ok hx'))
  have q : (h'.update a fun o => { o with dict := none }).get? b = some o := q
  rwa [gb b hb] at q
end
/-- self.f = e, self a new exception -/
def tOg (K : PySem.W.Frag) (f : Str) (to te : TE) : TS := fun D σ H => te σ H fun y H1 => to σ H1 fun x H2 => ∃ (a C : Addr) (B newId initId : String) (bmB : List Value), x = .ref a ∧ ExK K C B newId initId bmB ∧ PySem.W.takerIn K C f = some none ∧ H2 a = some (exo a C none) ∧ ∀ dx, H2 dx = none → dx ≠ a → D.nx σ (upd (upd H2 dx (exd dx [(f, y)])) a (exo a C (some dx)))
theorem ps_og {X : Cx} {o e : Expr} {to te : TE} {f : Str} {p' pos : Pos} (ho : PE X o to) (he : PE X e te) (hs : swapsWith e (some (.Attribute o f p')) pos.line X.env = pure false := by rfl) : PS X (.Assign [.Attribute o f p'] e pos) (tOg X.K f to te) := by
  constructor
  intro pins s σ H D I h
  apply plainObj_wpAny_Assign_Attribute _ hs
  refine thn (he.run pins s σ H _ I h) fun v s1 ⟨y, H1, I1, r1, q1⟩ => ?_
  refine thn (ho.run pins s1 σ H1 _ I1 q1) fun u s2 ⟨x, H2, I2, r2, a, C, B, n, i, bm, ex, T, ht, ea, q⟩ => ?_
  subst ex
  obtain rfl : u = Value.ref a := r2
  exact store_first T I2 ea ht r1 fun dx s' n ne J => ⟨σ, _, J, q dx n ne⟩
/-- its __init__(self, f): self.f = f -/
def spIg (C : Addr) (f : Str) : Sp := fun vs H Q _ => ∃ (a : Addr) (v : V), vs = [.ref a, v] ∧ H a = some (exo a C none) ∧ ∀ dx, H dx = none → dx ≠ a → Q .non (upd (upd H dx (exd dx [(f, v)])) a (exo a C (some dx)))
section
variable {P : Program} {w : World} {K : PySem.W.Frag} {mg : Str → Option Value} {base : Heap} {C : Addr} {B newId initId : String} {bmB : List Value} {f : Str}
theorem inig_of {q : Str} {st : Stmt} {fI : Addr} {fd : FuncData} (F : Fun K "__init__" q st fI fd) (S : FnScope ["self", f] ["self", f] (defScope st)) (T : ExK K C B newId initId bmB) (ht : PySem.W.takerIn K C f = some none)
    (hb : ∀ (cdv : Value) (A : Around) (outer : List Env) (s : Shared) (H : Hp) (E : XK), PSs (cxOf CX0 P w K mg base ["self", f] q (defScope st) fI cdv A outer s H E).nox (defBody st) (tOg K f (tVar 0) (tVar 1))) : FnOk P w K mg base CX0 1 fI fd ["self", f] (spIg C f) := by
  refine F.ok S (fun vs H Q E h => by obtain ⟨_, _, e, _⟩ := h; rw [e]; rfl) (fun cdv A outer s H vs Q E hr h => ⟨_, hb cdv A outer s H E, ?_⟩)
  obtain ⟨a, v, rfl, ha, q⟩ := h
  exact ⟨v, rfl, .ref a, rfl, a, C, B, newId, initId, bmB, rfl, T, ht, ha, fun dx n ne => q dx n ne⟩
end
end FR
set_option maxRecDepth 100000
set_option maxHeartbeats 4000000
namespace FR
open PySem PySem.Spec PySem.Calls PyProof.Rows
section
variable {M : Model} {prog : Program} {w : World} {A : Around} {E : Value → Shared → Prop} {R : Result → Shared → Prop} {h : Heap} {g : Array GenState} {d : Drawn} {t : Nat} {os : OsState}
variable {nm q : Str} {C N : Addr} {bs bm bmB : List Value} {hdct : Bool} {sn : List Str} {sub : List Value} {ab : Bool} {col : Option Bool} {dd : Option Addr} {k0 k1 k2 k3 k5 : Option Value} {B newId initId : String} {kws : List (Str × Value)}
/-- C's making by keywords: the args are (), the keywords go to __init__ alone -/
theorem newKw_check (F : ExcBaseFacts B newId initId bmB) (hT : ∀ X : String, bm.contains (.type X) = bmB.contains (.type X)) {Q : Unit → Shared → Prop}
    (hC : h.get? C = some (excClassObj nm q C N bs bm hdct sn sub ab col dd k0 k1 k2 k3 k5 newId))
    (hq : Q () ⟨h, g, d, t, os⟩) : wpAny M A (checkBuiltinCall newId ⟨[.ref C], kws⟩) Q E ⟨h, g, d, t, os⟩ := by
  have isB : (Value.ref C :: bm).contains (.type B) = true := by
    rw [List.contains_cons, hT, F.hasB]
    simp
  have star := F.noStar
  simp only [checkBuiltinCall, F.newKind, F.newSplit, F.newRow]
  repeat (first
    | refine wpAny_loadPart_at hC ?_
    | (refine wpAny_isSubtype_exc hC ?_; rw [isB])
    | refine wpAny_staticBase_exc hC ?_
    | refine wpAny_madeBy_exc hC ?_
    | simp only [bne_self_eq_false, Bool.false_eq_true, if_false]
    | wp_step)
  exact hq
theorem newKw_made (F : ExcBaseFacts B newId initId bmB) (hT : ∀ X : String, bm.contains (.type X) = bmB.contains (.type X))
    (hC : h.get? C = some (excClassObj nm q C N bs bm hdct sn sub ab col dd k0 k1 k2 k3 k5 newId))
    (hq : R (.ok (.ret (.ref (h.objs.size + 1)))) ⟨(h.push (PySem.W.excTup [])).push (PySem.W.excObj C h.objs.size none .none), g, d, t, os⟩) :
    codeAny (model prog w) A (.builtin newId ⟨[.ref C], kws⟩) R ⟨h, g, d, t, os⟩ := by
  have ends := F.ends
  have isB : (Value.ref C :: bm).contains (.type B) = true := by
    rw [List.contains_cons, hT, F.hasB]
    simp
  have noA : (Value.ref C :: bm).contains (.type "AttributeError") = false := by
    rw [List.contains_cons, hT, F.noAttr]
    rfl
  have noN : (Value.ref C :: bm).contains (.type "NameError") = false := by
    rw [List.contains_cons, hT, F.noName]
    rfl
  apply codeAny_builtinAt F.entry
  unfold Builtin.«BaseException.__new__»
  refine PySem.wpAt_bind ?_
  show PySem.wpAt _ _ _ (stack >>= _) _ _ _
  refine PySem.wpAt_bind ?_
  refine PySem.wpAt_stack ?_
  intro p below
  refine PySem.wpAt_of_wpAny ?_
  wp_walk
  refine PySem.wpAt_of_wpAny ?_
  rw [F.owner]
  repeat (first
    | with_reducible refine wpAny_madeHere_exc F.canon hC ?_
    | with_reducible refine wpAny_loadPart_at hC ?_
    | (with_reducible refine wpAny_isSubtype_exc hC ?_; first | rw [isB] | rw [noA] | rw [noN])
    | wp_step)
  show R _ _
  rw [Heap.size_push]
  exact hq
theorem typeKw (F : ExcBaseFacts B newId initId bmB) (hT : ∀ X : String, bm.contains (.type X) = bmB.contains (.type X)) {fI : Addr} {Q : Fin → Shared → Prop}
    (hC : h.get? C = some (excClassObj nm q C N bs bm hdct sn sub ab col dd k0 k1 k2 k3 k5 newId))
    (hi : PySem.W.Looks (model prog w) h (typeLookup (.ref C) "__init__") (some (.ref fI))) (hb : ∀ self, PySem.W.Looks (model prog w) h (bindSpecial (.ref fI) self) (.ref fI, [self]))
    (hq : codeAny (model prog w) A (.call (.ref fI) ⟨[.ref (h.objs.size + 1)], kws⟩)
      (fun r s' => match r with | .ok (.ret v) => v = .none ∧ Q (.done (.ret (.ref (h.objs.size + 1)))) s' | .ok _ => False | .error e => E e s')
      ⟨(h.push (PySem.W.excTup [])).push (PySem.W.excObj C h.objs.size none .none), g, d, t, os⟩) :
    wpAny (model prog w) A (Builtin.«type.__call__» ⟨[.ref C], kws⟩) Q E ⟨h, g, d, t, os⟩ := by
  repeat (first
    | with_reducible refine wpAny_loadPart_at hC ?_
    | with_reducible refine wpAny_madeBy_exc hC ?_
    | wp_step)
  apply codeAny_call_builtin_code (Code.quiet_builtin _ F.quiet)
  apply newKw_check F hT hC
  apply newKw_made F hT hC
  have kp : ∀ b o, h.get? b = some o → ((h.push (PySem.W.excTup [])).push (PySem.W.excObj C h.objs.size none .none)).get? b = some o := fun b o e => Heap.get?_push_of_some _ (Heap.get?_push_of_some _ e)
  have cNew := kp _ _ hC
  have eNew : ((h.push (PySem.W.excTup [])).push (PySem.W.excObj C h.objs.size none .none)).get? (h.objs.size + 1) = some (PySem.W.excObj C h.objs.size none .none) := by heap_get
  have self : (Value.ref C :: bm).contains (.ref C) = true := by simp
  have iNew := hi.keeps kp
  have bNew := (hb (.ref (h.objs.size + 1))).keeps kp
  show wpAny _ _ _ _ _ _
  unfold isInstance
  repeat (first
    | with_reducible refine wpAny_loadPart_at eNew ?_
    | (with_reducible refine wpAny_isSubtype_exc cNew ?_; rw [self])
    | wp_step)
  show wpAny _ _ (typeLookup (.ref C) _) _ _ _
  apply iNew.at
  apply wpAny_holding
  apply wpAny_bind
  apply bNew.at
  refine wpAny_bind (wpAny_call (codeAny_mono hq fun r s' z => ?_))
  rcases r with e | (v | _ | _ | _) <;> first | exact z | exact z.elim | skip
  obtain ⟨rfl, z⟩ := z
  first
    | exact wpAny_pure (wpAny_pure z)
    | (wp_walk; exact z)
theorem callKw (F : ExcBaseFacts B newId initId bmB) (hT : ∀ X : String, bm.contains (.type X) = bmB.contains (.type X)) {fI : Addr}
    (hC : h.get? C = some (excClassObj nm q C N bs bm hdct sn sub ab col dd k0 k1 k2 k3 k5 newId)) (ht : PySem.W.Looks (model prog w) h (isInstance (.ref C) (.type "type")) true)
    (hi : PySem.W.Looks (model prog w) h (typeLookup (.ref C) "__init__") (some (.ref fI))) (hb : ∀ self, PySem.W.Looks (model prog w) h (bindSpecial (.ref fI) self) (.ref fI, [self]))
    (hq : codeAny (model prog w) (A.under (.builtin "type.__call__" ⟨[.ref C], kws⟩)) (.call (.ref fI) ⟨[.ref (h.objs.size + 1)], kws⟩) (PySem.W.InitBack (h.objs.size + 1) R)
      ⟨(h.push (PySem.W.excTup [])).push (PySem.W.excObj C h.objs.size none .none), g, d, t, os⟩) :
    codeAny (model prog w) A (.call (.ref C) ⟨[], kws⟩) R ⟨h, g, d, t, os⟩ := by
  have look := tc_lookup
  have bind := tc_bind (.ref C)
  have isT : (⟨h, g, d, t, os⟩ : Shared).TypeIs (.ref C) "type" := ⟨_, hC, rfl⟩
  apply codeAny_of_tree
  show wpAny _ _ (callAny (.ref C) _) _ _ _
  repeat (any_goals (first
    | assumption
    | with_reducible refine wpAny_loadPart_at hC ?_
    | wp_step))
  refine ⟨rfl, ?_⟩
  apply codeAny_call_builtin_at (Code.quiet_builtin _ (by decide +kernel)) entry_typeCall
  apply PySem.W.check_slot tc_kind tc_split ht (PySem.W.tc_args _ _ _)
  apply typeKw F hT hC hi hb
  refine codeAny_mono hq fun r s' z => ?_
  rcases r with e | (v | _ | _ | _) <;> exact z
end
end FR
set_option maxRecDepth 100000
set_option maxHeartbeats 400000
namespace FR
open PySem PySem.Spec PySem.Calls PyProof.Rows L2
/-! ### own exceptions as values -/
def tExV (C : Addr) (f : Str) (ta : TA) : TE := fun σ H Q => ta σ H fun vs H1 => ∃ v, vs = [v] ∧ ∀ a dx, H1 a = none → H1 dx = none → dx ≠ a → Q (.ref a) (upd (upd H1 dx (exd dx [(f, v)])) a (exo a C (some dx)))
theorem exv_heap {H : Hp} {a dx C : Addr} {f : Str} {v : V} (ne : dx ≠ a) : upd (upd (upd H a (exo a C none)) dx (exd dx [(f, v)])) a (exo a C (some dx)) = upd (upd H dx (exd dx [(f, v)])) a (exo a C (some dx)) := by
  funext b
  by_cases h1 : b = a
  · subst h1
    rw [upd_same, upd_same]
  · rw [upd_ne h1, upd_ne h1]
    by_cases h2 : b = dx
    · subst h2
      rw [upd_same, upd_same]
    · rw [upd_ne h2, upd_ne h2, upd_ne h1]
/-- the class whole: its __init__(self, f) keeps f -/
structure ExI (P : Program) (w : World) (K : PySem.W.Frag) (mg : Str → Option Value) (base : Heap) (x : Str) (C : Addr) (f : Str) : Prop where
  k : ∃ B newId initId bmB, ExK K C B newId initId bmB
  gm : mg x = some (.ref C)
  ini : ∃ fI fd, PySem.W.findIn K (.ref C) "__init__" = some (some (.ref fI)) ∧ PySem.W.typeIn K (.ref fI) = some (.type "function") ∧ FnOk P w K mg base CX0 1 fI fd ["self", f] (spIg C f) ∧ Binds K fd ["self", f] [] ∧
    ∀ (s : Shared) (a u : Value), BindsTo s fd ⟨[a], [(f, u)]⟩ [("self", a), (f, u)]
section
variable {X : Cx} {x f : Str} {C : Addr} {p pos : Pos} {e : Expr} {ta : TA}
theorem laid_exo {pins : List (Addr × Obj)} {σ : L2.St} {H1 : Hp} {hp : Heap} {g : Array GenState} {dr : Drawn} {tk : Nat} {os : OsState} {us : List Value} (I1 : Inv X pins σ H1 ⟨hp, g, dr, tk, os⟩) :
    Inv X pins σ (upd H1 (hp.objs.size + 1) (exo (hp.objs.size + 1) C none)) ⟨(hp.push (PySem.W.excTup us)).push (PySem.W.excObj C hp.objs.size none .none), g, dr, tk, os⟩ :=
  I1.laid (t' := tk) (fun b o e => Heap.get?_push_of_some _ (Heap.get?_push_of_some _ e)) (Nat.le_succ _) (exo_ok (t1 := hp.objs.size) (by heap_get))
theorem pe_exP (T : ExI X.prog X.w X.K X.mg X.base x C f) (hr : Room 2 X.A) (ha : PA X [e] ta) (hg : Gl X x := by rfl) (hdb : (x == ("__debug__" : Str)) = false := by decide)
    (hs : starEach [e] X.env = (false, eval e X.env) :: starEach [] X.env := by rfl) (hpl : (backTo pos (starEach [] X.env)).any (·.1) = false := by rfl) : PE X (.Call (.Name x p) [e] [] pos) (tExV C f ta) := by
  constructor
  intro pins s σ H Q I h
  obtain ⟨B, n, i, bm, T1⟩ := T.k
  obtain ⟨fI, fd, iC, tI, F1, hb, _⟩ := T.ini
  apply wpAny_Call_Name_kw
  refine ld_glob I hg T.gm ?_ hdb
  refine PySem.W.callWith_K (h₀ := X.base) I.ok.mod.kin T1.kC (thn (ha.run pos pins s σ H _ I h) fun us s1 ⟨vs, H1, I1, r1, v, ev, q1⟩ => ⟨I1.kIn, ?_⟩) hs hpl
  subst ev
  show wpAny _ _ (call (.ref C) us) _ _ _
  obtain ⟨u, rfl, ru⟩ : ∃ u, us = [u] ∧ RelV v u := by
    cases r1 with
    | cons p q =>
      cases q
      exact ⟨_, rfl, p⟩
  · skip
    obtain ⟨nm, N', qn, bs, bm', hdct, sn, sub, ab, col, dd, k0, k1, k2, k3, k5, hC, hT⟩ := PySem.W.excInit_of I1.kIn T1.q
    obtain ⟨hp, g, dr, tk, os⟩ := s1
    have hn : H1 (hp.objs.size + 1) = none := I1.hok.fresh (Nat.le_succ _)
    have I2 := laid_exo (C := C) (us := [u]) I1
    have r2 : Vals [V.ref (hp.objs.size + 1), v] [Value.ref (hp.objs.size + 1), u] := .cons rfl (.cons ru .nil)
    have hq : spIg C f [V.ref (hp.objs.size + 1), v] (upd H1 (hp.objs.size + 1) (exo (hp.objs.size + 1) C none)) (fun z H2 => z = .non ∧ Q (.ref (hp.objs.size + 1)) H2) E0 := ⟨_, _, rfl, upd_same, fun dx nd ne => ⟨rfl, by
      rw [exv_heap ne]
      rw [upd_ne ne] at nd
      exact q1 _ _ hn nd ne⟩⟩
    refine wpAny_call (PySem.PX.call_own T1.fb hT hC (PySem.W.looks_findIn I1.kIn iC) (fun self => PySem.W.bind_fn I1.kIn self tI) (by show 1 ≤ sizeLine; decide) (codeAny_mono (F1.run _ X.stack _ _ ⟨[Value.ref (hp.objs.size + 1), u], []⟩ [Value.ref (hp.objs.size + 1), u] _ _ E0 (hr.make C [u] []) (I2.env0.make C [u] []) (by
      have := hb ⟨(hp.push (PySem.W.excTup [u])).push (PySem.W.excObj C hp.objs.size none .none), g, dr, tk, os⟩ [Value.ref (hp.objs.size + 1), u] I2.kIn rfl
      rwa [List.append_nil] at this) r2 hq) fun r s' hq' => ?_))
    match r, hq' with
    | .error _, hq' => exact False.elim hq'
    | .ok .next, hq' => exact False.elim hq'
    | .ok .brk, hq' => exact False.elim hq'
    | .ok .cont, hq' => exact False.elim hq'
    | .ok (.ret u'), hq' =>
      obtain ⟨z, H3, I3, rz, ez, q3⟩ := I2.after hq'
      subst ez
      exact ⟨rz, V.ref (hp.objs.size + 1), H3, I3, rfl, q3⟩
end
end FR
set_option maxRecDepth 100000
set_option maxHeartbeats 400000
namespace FR
open PySem PySem.Spec PySem.Calls PyProof.Rows L2
section
variable {X : Cx} {x f : Str} {C : Addr} {p pos : Pos} {kws : List Keyword} {tk : TA}
/-- x(f = e), x an own exception's class -/
theorem pe_exK (T : ExI X.prog X.w X.K X.mg X.base x C f) (hr : Room 2 X.A) (hkw : PK X kws tk) (hg : Gl X x := by rfl) (hdb : (x == ("__debug__" : Str)) = false := by decide)
    (c1 : (backToKw pos (keywordEach kws X.env)).all (·.1.isSome) = true := by rfl) (c2 : (backToKw pos (keywordEach kws X.env)).filterMap (·.1) = [f] := by rfl)
    (c3 : ((backTo pos (starEach [] X.env)).any (·.1) || (backToKw pos (keywordEach kws X.env)).any (·.1.isNone)) = false := by rfl) : PE X (.Call (.Name x p) [] kws pos) (tExV C f tk) := by
  constructor
  intro pins s σ H Q I h
  obtain ⟨B, n, i, bm, T1⟩ := T.k
  obtain ⟨fI, fd, iC, tI, F1, _, hb⟩ := T.ini
  apply wpAny_Call_Name_kw
  refine ld_glob I hg T.gm ?_ hdb
  refine PySem.W.callWith_KW0 (h₀ := X.base) I.ok.mod.kin T1.kC c1 ?_ c3
  refine thn (hkw.run pos pins s σ H _ I h) fun ws s1 ⟨vs, H1, I1, r1, v, ev, q1⟩ => ⟨I1.kIn, ?_⟩
  subst ev
  rw [c2]
  obtain ⟨u, rfl, ru⟩ : ∃ u, ws = [u] ∧ RelV v u := by
    cases r1 with
    | cons p q =>
      cases q
      exact ⟨_, rfl, p⟩
  obtain ⟨nm, N', qn, bs, bm', hdct, sn, sub, ab, col, dd, k0, k1, k2, k3, k5, hC, hT⟩ := PySem.W.excInit_of I1.kIn T1.q
  obtain ⟨hp, g, dr, tk', os⟩ := s1
  have hn : H1 (hp.objs.size + 1) = none := I1.hok.fresh (Nat.le_succ _)
  have I2 := laid_exo (C := C) (us := []) I1
  have r2 : Vals [V.ref (hp.objs.size + 1), v] [Value.ref (hp.objs.size + 1), u] := .cons rfl (.cons ru .nil)
  have hq : spIg C f [V.ref (hp.objs.size + 1), v] (upd H1 (hp.objs.size + 1) (exo (hp.objs.size + 1) C none)) (fun z H2 => z = .non ∧ Q (.ref (hp.objs.size + 1)) H2) E0 := ⟨_, _, rfl, upd_same, fun dx nd ne => ⟨rfl, by
    rw [exv_heap ne]
    rw [upd_ne ne] at nd
    exact q1 _ _ hn nd ne⟩⟩
  refine wpAny_call (callKw T1.fb hT hC (PySem.W.looks_instIn I1.kIn T1.ti) (PySem.W.looks_findIn I1.kIn iC) (fun self => PySem.W.bind_fn I1.kIn self tI) (codeAny_mono (F1.run _ X.stack _ _ ⟨[Value.ref (hp.objs.size + 1)], [(f, u)]⟩ [Value.ref (hp.objs.size + 1), u] _ _ E0 (hr.make C [] [(f, u)]) (I2.env0.make C [] [(f, u)]) (hb _ _ _) r2 hq) fun r s' hq' => ?_))
  match r, hq' with
  | .error _, hq' => exact False.elim hq'
  | .ok .next, hq' => exact False.elim hq'
  | .ok .brk, hq' => exact False.elim hq'
  | .ok .cont, hq' => exact False.elim hq'
  | .ok (.ret u'), hq' =>
    obtain ⟨z, H3, I3, rz, ez, q3⟩ := I2.after hq'
    subst ez
    exact ⟨rz, V.ref (hp.objs.size + 1), H3, I3, rfl, q3⟩
/-- x(), x an own exception's class with no __init__ of its own -/
def tEx0 (C : Addr) : TE := fun _ H Q => ∀ a, H a = none → Q (.ref a) (upd H a (exo a C none))
theorem pe_ex0 {B newId initId : String} {bm : List Value} (T1 : ExK X.K C B newId initId bm) (gm : X.mg x = some (.ref C)) (iC : PySem.W.findIn X.K (.ref C) "__init__" = some (some (.builtin initId))) (hg : Gl X x := by rfl) (hdb : (x == ("__debug__" : Str)) = false := by decide) : PE X (.Call (.Name x p) [] [] pos) (tEx0 C) := by
  constructor
  intro pins s σ H Q I h
  apply wpAny_Call_Name_kw
  refine ld_glob I hg gm ?_ hdb
  refine PySem.W.callWith_K0 I.kIn T1.kC ?_
  show wpAny _ _ (call (.ref C) []) _ _ _
  obtain ⟨nm, N', qn, bs, bm', hdct, sn, sub, ab, col, dd, k0, k1, k2, k3, k5, hC, hT⟩ := PySem.W.excInit_of I.kIn T1.q
  obtain ⟨hp, g, dr, tk', os⟩ := s
  refine PySem.W.call_B T1.fb hT hC (PySem.W.looks_findIn I.kIn iC) (by show 0 ≤ sizeLine; omega) fun h' k he _ => ?_
  have hn : H (hp.objs.size + 1) = none := I.hok.fresh (Nat.le_succ _)
  exact ⟨V.ref (hp.objs.size + 1), _, I.laid (t' := tk') k (Nat.le_succ _) (exo_ok he), rfl, h _ hn⟩
end
/-! isinstance, fields -/
def rIsV (K : PySem.W.Frag) : List V → Hp → VK → Prop := fun xs H Q => ∃ (a D : Addr) (d : Option Addr) (c : V) (cv : Value) (b : Bool), xs = [.ref a, c] ∧ H a = some (exo a D d) ∧ (∀ dx, d = some dx → ∃ fs, H dx = some (exd dx fs)) ∧ ExcC K D ∧ (∀ u, RelV c u → u = cv) ∧ PySem.W.kitOne K (.ref D) cv = some b ∧ Q (.bl b) H
theorem inst_V {P : Program} {w : World} {H : Hp} {h : Heap} {a D : Addr} {d : Option Addr} (hok : HOk P w H h) (ha : H a = some (exo a D d)) (hx : ∀ dx, d = some dx → ∃ fs, H dx = some (exd dx fs)) : ∃ oe od, PySem.W.InstAt h a oe D od := by
  obtain ⟨t1, ho⟩ := exo_at hok ha
  cases d with
  | none => exact ⟨_, none, ho, rfl, rfl, trivial⟩
  | some dx =>
    obtain ⟨fs, hd⟩ := hx dx rfl
    obtain ⟨mA, hns, _⟩ := exd_at hok hd
    obtain ⟨o, es, ep, e, r⟩ := hns
    exact ⟨_, some o, ho, rfl, rfl, e⟩
theorem call_isV {X : Cx} {K : PySem.W.Frag} (hK : X.K = K) : CallR X (.builtin "isinstance") (rIsV K) := by
  subst hK
  intro pins s σ H xs us Q I r h
  obtain ⟨a, D, d, c, cv, b, rfl, ha, hx, C, hcv, e, q⟩ := h
  obtain ⟨u1, u2, rfl, r1, r2⟩ : ∃ u1 u2, us = [u1, u2] ∧ RelV (.ref a) u1 ∧ RelV c u2 := by
    cases r with
    | cons p q =>
      cases q with
      | cons p2 q2 =>
        cases q2
        exact ⟨_, _, rfl, p, p2⟩
  obtain rfl : u1 = Value.ref a := r1
  have ec := hcv _ r2
  subst ec
  obtain ⟨oe, od, J⟩ := inst_V I.hok ha hx
  have hcl : (PySem.W.clsIn X.K D).isSome = true := by
    obtain ⟨cd, hc, _⟩ := PySem.W.any_some C.hd
    rw [hc]
    rfl
  exact PySem.W.kia_one (PySem.W.kitx_exc hcl C.hg C.hk C.hs C.ha C.hn C.ht C.hm) I.kIn J e (fun z => nomatch z) fun tk => ⟨.bl b, H, I.kept (t' := tk) fun _ _ z => z, rfl, q⟩
def tXv (K : PySem.W.Frag) (f : Str) (te : TE) : TE := fun σ H Q => te σ H fun x H1 => ∃ (a D dx : Addr) (fs : List (Str × V)) (v : V), x = .ref a ∧ H1 a = some (exo a D (some dx)) ∧ H1 dx = some (exd dx fs) ∧ XfC K D ∧ PySem.W.findIn K (.ref D) f = some none ∧ fs.lookup f = some v ∧ Q v H1
theorem pe_xv {X : Cx} {e : Expr} {te : TE} {pos : Pos} {n : Str} (he : PE X e te) (hb : attributeBase e n X.env (eval e X.env) = eval e X.env := by rfl) : PE X (.Attribute e n pos) (tXv X.K n te) := by
  constructor
  intro pins s σ H Q I h
  apply attr_of hb
  refine thn (he.run pins s σ H _ I h) fun u s1 ⟨x, H1, I1, rx, a, D, dx, fs, v, ex, ha, hd, T, hno, l, q⟩ => ?_
  subst ex
  obtain rfl : u = Value.ref a := rx
  obtain ⟨t1, ho⟩ := exo_at I1.hok ha
  obtain ⟨mA, hns, hr⟩ := exd_at I1.hok hd
  obtain ⟨u, hu, ru⟩ := RelO.some_of (v := v) (o := mA n) (by rw [← l]; exact hr n)
  obtain ⟨od, hod, hl⟩ := lookIn_ns hns
  have J : PySem.W.InstAt s1.heap a _ D (some od) := ⟨ho, rfl, rfl, hod⟩
  exact HandSPX.exc_get I1.kIn J T.ga T.gg T.exC (PySem.W.findObj_own T.hdC hno rfl (by rw [hl, hu])) (handed_of ru) ⟨v, H1, I1.tok _, ru, q⟩
end FR
set_option maxRecDepth 100000
set_option maxHeartbeats 400000
namespace FR
open PySem PySem.Spec PyProof.Rows L2
/-! ### own exceptions as data -/
theorem not_tb_exo {a C : Addr} {d : Option Addr} : ¬ Tb (exo a C d) := fun ⟨_, e⟩ => exo_tbl e
theorem not_tb_exd {dx : Addr} {fs : List (Str × V)} : ¬ Tb (exd dx fs) := fun ⟨_, e⟩ => by
  have z : HO.ext _ = HO.tbl _ := e
  cases z
section
variable {K : PySem.W.Frag} {H : Hp} {v : V} {c f : Str} {x : PyData}
theorem no_kvs {kvs : List (Str × Int)} {ks : List Str} {ds : List PyData} (e : excZ c ks ds = kvs.map fun p => (PyData.str p.1, PyData.int p.2)) : False := by
  cases kvs with
  | nil => cases e
  | cons p r =>
    rw [List.map_cons] at e
    injection e with e _
    injection e with e _
    cases e
theorem Da.excI (h : Da K H v (excD c [f] [x])) : ∃ a dx u, v = .ref a ∧ H a = some (exo a (He.ga K c) (some dx)) ∧ H dx = some (exd dx [(f, u)]) ∧ Da K H u x := by
  cases h with
  | dct e1 _ => exact (no_kvs e1).elim
  | @exc a dx c' f' u x' _ e0 h1 h2 h3 =>
    have e := e0
    injection e with e1 e2
    injection e1 with _ e1
    injection e1 with e1
    injection e2 with e2 _
    injection e2 with e2 e3
    injection e2 with e2
    subst e1 e2 e3
    exact ⟨a, dx, u, rfl, h1, h2, h3⟩
  | exn e0 _ =>
    have e := e0
    injection e with _ e2
    cases e2
  | ins e0 _ _ _ =>
    injection e0 with e1 _
    injection e1 with e1 _
    cases e1
theorem Da.exnI (h : Da K H v (excD c [] [])) : ∃ a, v = .ref a ∧ H a = some (exo a (He.ga K c) none) := by
  cases h with
  | dct e1 _ => exact (no_kvs e1).elim
  | exc e0 _ _ _ =>
    have e := e0
    injection e with _ e2
    cases e2
  | @exn a c' _ e0 h1 =>
    have e := e0
    injection e with e1 _
    injection e1 with _ e1
    injection e1 with e1
    subst e1
    exact ⟨a, rfl, h1⟩
  | ins e0 _ _ _ =>
    injection e0 with e1 _
    injection e1 with e1 _
    cases e1
end
section
variable {Y : Vol} {K : PySem.W.Frag} {es : List Ent} {ta : TA} {te : TE} {c f : Str} {x : PyData}
theorem ev_exP (h : ArD Y K es ta (· = [x])) : EvD Y K es (tExV (He.ga K c) f ta) (· = excD c [f] [x]) := fun H0i H0 Hi H σ s Q q =>
  h H0i H0 Hi H σ s _ fun vs ds Hi1 H1 f1 hv e => by
    subst e
    obtain ⟨v, rfl, hv1⟩ : ∃ v, vs = [v] ∧ Da K Hi1 v x := by
      cases hv with
      | cons p r =>
        cases r
        exact ⟨_, rfl, p⟩
    refine ⟨v, rfl, fun a dx ha hd ne => ?_⟩
    have g1 := Fr.alloc f1.pre hd (o := exd dx [(f, v)]) not_tb_exd
    have ha' : upd H1 dx (exd dx [(f, v)]) a = none := by rw [upd_ne ne.symm]; exact ha
    have g2 := Fr.alloc g1.pre ha' (o := exo a (He.ga K c) (some dx)) not_tb_exo
    have hm : Same Hi1 (upd (upd Hi1 dx (exd dx [(f, v)])) a (exo a (He.ga K c) (some dx))) := g1.hi.trans g2.hi
    exact q _ _ _ _ ((f1.trans g1).trans g2) (.exc rfl upd_same (by rw [upd_ne ne, upd_same]) (Da.mono hm _ _ hv1)) rfl
theorem ev_ex0 : EvD Y K es (tEx0 (He.ga K c)) (· = excD c [] []) := fun H0i H0 Hi H σ s Q q a ha =>
  q _ _ _ _ (Fr.alloc s.pre ha not_tb_exo) (.exn rfl upd_same) rfl
/-- what isinstance says of such -/
theorem rIsV_of {v : V} {w : V} {cv : Value} {b : Bool} {H : Hp} {Q : VK} (hv : Da K H v (excD c [f] [x]) ∨ Da K H v (excD c [] [])) (E : ExcC K (He.ga K c)) (hcv : ∀ u, RelV w u → u = cv) (hk : PySem.W.kitOne K (.ref (He.ga K c)) cv = some b) (q : Q (.bl b) H) : rIsV K [v, w] H Q := by
  rcases hv with hv | hv
  · obtain ⟨a, dx, u, rfl, h1, h2, _⟩ := hv.excI
    exact ⟨a, _, _, w, cv, b, rfl, h1, fun dx' e => by cases e; exact ⟨_, h2⟩, E, hcv, hk, q⟩
  · obtain ⟨a, rfl, h1⟩ := hv.exnI
    exact ⟨a, _, _, w, cv, b, rfl, h1, (fun _ e => by cases e), E, hcv, hk, q⟩
/-- an exception: with a field, or with none -/
def IsEx (c : Str) (d : PyData) : Prop := (∃ f x, d = excD c [f] [x]) ∨ d = excD c [] []
theorem ev_isV {d : PyData} {w : V} {cv : Value} {b : Bool} (ha : EvT Y K es te (· = d)) (hd : IsEx c d) (E : ExcC K (He.ga K c)) (hcv : ∀ u, RelV w u → u = cv) (hk : PySem.W.kitOne K (.ref (He.ga K c)) cv = some b) : EvD Y K es (tCB (rIsV K) (tCons te (tCons (tC w) tNil))) (· = .bool b) := fun H0i H0 Hi H σ s Q q =>
  ha H0i H0 Hi H σ s _ fun v a Hi1 H1 f1 va pa => by
    subst pa
    have hv := va.full f1.sub
    rcases hd with ⟨f, x, rfl⟩ | rfl
    · exact rIsV_of (.inl hv) E hcv hk (q _ _ Hi1 H1 f1 (.bl b) rfl)
    · exact rIsV_of (f := c) (x := .none) (.inr hv) E hcv hk (q _ _ Hi1 H1 f1 (.bl b) rfl)
theorem ev_isVc {d : PyData} {D : Addr} {b : Bool} (ha : EvT Y K es te (· = d)) (hd : IsEx c d) (E : ExcC K (He.ga K c)) (hk : PySem.W.kitOne K (.ref (He.ga K c)) (.ref D) = some b) : EvD Y K es (tCB (rIsV K) (tCons te (tCons (tC (.ref D)) tNil))) (· = .bool b) := ev_isV ha hd E (fun _ r => r) hk
theorem ev_isVt {d : PyData} {n : String} {b : Bool} (ha : EvT Y K es te (· = d)) (hd : IsEx c d) (E : ExcC K (He.ga K c)) (hk : PySem.W.kitOne K (.ref (He.ga K c)) (.type n) = some b) : EvD Y K es (tCB (rIsV K) (tCons te (tCons (tC (.ty n)) tNil))) (· = .bool b) := ev_isV ha hd E (fun _ r => r) hk
theorem ev_xv (ha : EvD Y K es te (· = excD c [f] [x])) (T : XfC K (He.ga K c)) (hno : PySem.W.findIn K (.ref (He.ga K c)) f = some none) : EvD Y K es (tXv K f te) (· = x) := fun H0i H0 Hi H σ s Q q =>
  ha H0i H0 Hi H σ s _ fun v d Hi1 H1 f1 hv e => by
    subst e
    obtain ⟨a, dx, u, rfl, h1, h2, h3⟩ := hv.excI
    refine ⟨a, _, dx, _, u, rfl, f1.sub _ _ h1, f1.sub _ _ h2, T, hno, by simp [List.lookup], q _ _ Hi1 H1 f1 h3 rfl⟩
end
/-! ### the seventeen, and the three bases -/
def fldN (j : Nat) : Str := if j = 16 then "limit" else if j = 9 ∨ j = 10 ∨ j = 11 ∨ j = 13 ∨ j = 15 then "index" else "given"
def exJ (j : Nat) (x : PyData) : PyData := if j = 14 then excD (clsN.getD j "") [] [] else excD (clsN.getD j "") [fldN j] [x]
theorem exJ_is (j : Nat) (x : PyData) : IsEx (clsN.getD j "") (exJ j x) := by
  unfold exJ
  split
  · exact .inr rfl
  · exact .inl ⟨_, _, rfl⟩
/-- what isinstance says of the class at c: g of the seventeen, b of the bases -/
structure ClsE (K : PySem.W.Frag) (c : Str) (g b : Nat → Bool) : Prop where
  ex : ExcC K (He.ga K c)
  own : ∀ i n, clsN[i]? = some n → PySem.W.kitOne K (.ref (He.ga K c)) (.ref (He.ga K n)) = some (g i)
  bas : ∀ i n, basN[i]? = some n → PySem.W.kitOne K (.ref (He.ga K c)) (.ref (He.ga K n)) = some (b i)
  blt : ∀ i n, bltN[i]? = some n → PySem.W.kitOne K (.ref (He.ga K c)) (.type n) = some (b i)
def clsEB (K : PySem.W.Frag) (c : Str) (g b : Nat → Bool) : Bool := exB K (He.ga K c) && (xfB K (He.ga K c) && ((clsN.zipIdx.all fun p => decide (PySem.W.kitOne K (.ref (He.ga K c)) (.ref (He.ga K p.1)) = some (g p.2))) && ((basN.zipIdx.all fun p => decide (PySem.W.kitOne K (.ref (He.ga K c)) (.ref (He.ga K p.1)) = some (b p.2))) && (bltN.zipIdx.all fun p => decide (PySem.W.kitOne K (.ref (He.ga K c)) (.type p.1) = some (b p.2))))))
theorem clsEB_ok {K : PySem.W.Frag} {c : Str} {g b : Nat → Bool} (h : clsEB K c g b = true) : ClsE K c g b ∧ XfC K (He.ga K c) := by
  unfold clsEB exB at h
  simp only [Bool.and_eq_true, decide_eq_true_eq, List.all_eq_true] at h
  obtain ⟨⟨a1, a2, a3, a4⟩, h2, h5, h6, h7⟩ := h
  have xf := xfB_ok h2
  exact ⟨⟨⟨xf.ga, xf.gg, xf.exC, xf.hdC, a1, a2, a3, a4⟩, fun i n e => h5 (n, i) (List.mk_mem_zipIdx_iff_getElem?.mpr e), fun i n e => h6 (n, i) (List.mk_mem_zipIdx_iff_getElem?.mpr e), fun i n e => h7 (n, i) (List.mk_mem_zipIdx_iff_getElem?.mpr e)⟩, xf⟩
end FR
set_option maxRecDepth 100000
set_option maxHeartbeats 400000
namespace FR
open PySem PySem.Spec PySem.Calls PyProof.Rows L2
/-! ### what the head looks at: classes of errors whatever their base -/
def exKB (K : PySem.W.Frag) (C : Addr) (newId : String) (bm : List Value) : Bool := PySem.W.excInitIn K C bm newId && (PySem.W.excOver K C bm && (PySem.W.hasDictIn K C && (decide (PySem.W.findIn K (.ref C) "__setattr__" = some (some (.builtin "object.__setattr__"))) && (PySem.W.keepIn K (.ref C) && decide (PySem.W.instIn K (.ref C) (.type "type") = some true)))))
theorem exKB_ok {K : PySem.W.Frag} {C : Addr} {B newId initId : String} {bm : List Value} (fb : ExcBaseFacts B newId initId bm) (sf : StoreFacts B bm "object.__setattr__" "object") (h : exKB K C newId bm = true) : ExK K C B newId initId bm := by
  unfold exKB at h
  simp only [Bool.and_eq_true, decide_eq_true_eq] at h
  obtain ⟨h1, h2, h3, h4, h5, h6⟩ := h
  exact ⟨fb, sf, h1, h2, h3, h4, h5, h6⟩
def iniB (K : PySem.W.Frag) (x f : Str) : Bool := decide (PySem.W.takerIn K (He.ga K x) f = some none) && (decide (PySem.W.findIn K (.ref (He.ga K x)) "__init__" = some (some (.ref (He.fAd K (x, some "__init__"))))) && decide (PySem.W.typeIn K (.ref (He.fAd K (x, some "__init__"))) = some (.type "function")))
theorem iniB_ok {K : PySem.W.Frag} {x f : Str} (h : iniB K x f = true) : PySem.W.takerIn K (He.ga K x) f = some none ∧ PySem.W.findIn K (.ref (He.ga K x)) "__init__" = some (some (.ref (He.fAd K (x, some "__init__")))) ∧ PySem.W.typeIn K (.ref (He.fAd K (x, some "__init__"))) = some (.type "function") := by
  unfold iniB at h
  simpa only [Bool.and_eq_true, decide_eq_true_eq] using h
theorem exI_of {P : Program} {w : World} {K : PySem.W.Frag} {mg : Str → Option Value} {base : Heap} {x f q : Str} {st : Stmt} {fd : FuncData} {B newId initId : String} {bm : List Value} (T : ExK K (He.ga K x) B newId initId bm) (gm : mg x = some (.ref (He.ga K x))) (hi : iniB K x f = true)
    (FI : FunD K "__init__" q (defArgs st) (defBody st) (defScope st) [] [] (He.fAd K (x, some "__init__")) fd) (S : FnScope ["self", f] ["self", f] (defScope st))
    (hb : ∀ (cdv : Value) (A : Around) (outer : List Env) (s : Shared) (H : Hp) (E : XK), PSs (cxOf CX0 P w K mg base ["self", f] q (defScope st) (He.fAd K (x, some "__init__")) cdv A outer s H E).nox (defBody st) (tOg K f (tVar 0) (tVar 1)))
    (hp : ∀ (kV doc pm : Value) (an : Option Addr) (cdv ct : Value) (us : List Value), us.length = 2 → bindArgs (PySem.W.fnOf "__init__" q (defArgs st) (defBody st) (defScope st) .none kV doc pm an cdv ct) ⟨us, []⟩ = pure ((["self", f] : List Str).zip us))
    (hk : ∀ (kV doc pm : Value) (an : Option Addr) (cdv ct a u : Value), bindArgs (PySem.W.fnOf "__init__" q (defArgs st) (defBody st) (defScope st) .none kV doc pm an cdv ct) ⟨[a], [(f, u)]⟩ = pure [(("self" : Str), a), (f, u)]) : ExI P w K mg base x (He.ga K x) f := by
  obtain ⟨ht, h1, h2⟩ := iniB_ok hi
  have F := fun_of2 (st := st) FI
  refine ⟨⟨_, _, _, _, T⟩, gm, _, fd, h1, h2, inig_of F S T ht hb, FI.bindsN (ps := ["self", f]) hp, ?_⟩
  obtain ⟨oc, od, kV, doc, pm, an, cdv, ct, osl, rfl, lk, hcd⟩ := F.ex
  exact fun s a u => .of_eq (hk _ _ _ _ _ _ _ _)
abbrev veM : List Value := [.type "ValueError", .type "Exception", .type "BaseException", .type "object"]
abbrev leM : List Value := [.type "LookupError", .type "Exception", .type "BaseException", .type "object"]
abbrev aeM : List Value := [.type "ArithmeticError", .type "Exception", .type "BaseException", .type "object"]
def ex0B (K : PySem.W.Frag) (x : Str) (newId initId : String) (bm : List Value) : Bool := exKB K (He.ga K x) newId bm && decide (PySem.W.findIn K (.ref (He.ga K x)) "__init__" = some (some (.builtin initId)))
def exAll (K : PySem.W.Frag) : Bool :=
  ((List.range 17).all fun j => clsEB K (clsN.getD j "") (fun i => decide (i = j)) (fun i => (inB j).getD i false) && decide (PySem.W.findIn K (.ref (He.ga K (clsN.getD j ""))) (fldN j) = some none)) &&
  (((List.range 3).all fun k => clsEB K (basN.getD k "") (fun _ => false) (fun i => decide (i = k))) &&
  (((List.range 12).all fun j => exKB K (He.ga K (clsN.getD j "")) "ValueError.__new__" veM && iniB K (clsN.getD j "") (fldN j)) &&
  (([12, 13].all fun j => exKB K (He.ga K (clsN.getD j "")) "LookupError.__new__" leM && iniB K (clsN.getD j "") (fldN j)) &&
  (([15, 16].all fun j => exKB K (He.ga K (clsN.getD j "")) "ArithmeticError.__new__" aeM && iniB K (clsN.getD j "") (fldN j)) &&
  (ex0B K "NothingToUndo" "ArithmeticError.__new__" "ArithmeticError.__init__" aeM && (ex0B K "WrongValue" "ValueError.__new__" "ValueError.__init__" veM && (ex0B K "WrongName" "LookupError.__new__" "LookupError.__init__" leM && ex0B K "NoAnswer" "ArithmeticError.__new__" "ArithmeticError.__init__" aeM)))))))
theorem veT : ExcBaseFacts "ValueError" "ValueError.__new__" "ValueError.__init__" veM := F.excBase_ValueError
theorem leT : ExcBaseFacts "LookupError" "LookupError.__new__" "LookupError.__init__" leM := F.excBase_LookupError
theorem aeT : ExcBaseFacts "ArithmeticError" "ArithmeticError.__new__" "ArithmeticError.__init__" aeM := F.excBase_ArithmeticError
theorem veS : StoreFacts "ValueError" veM "object.__setattr__" "object" := F.store_ValueError
theorem leS : StoreFacts "LookupError" leM "object.__setattr__" "object" := F.store_LookupError
theorem aeS : StoreFacts "ArithmeticError" aeM "object.__setattr__" "object" := F.store_ArithmeticError
end FR
set_option maxRecDepth 100000
set_option maxHeartbeats 400000
namespace FR
open PySem PySem.Spec PyProof.Rows L2
/-! ### own objects as data -/
theorem zip_inj : ∀ {ks ks' : List Str} {ds ds' : List PyData}, ks.length = ds.length → ks'.length = ds'.length → (ks.map PyData.str).zip ds = (ks'.map PyData.str).zip ds' → ks = ks' ∧ ds = ds'
  | [], [], [], [], _, _, _ => ⟨rfl, rfl⟩
  | [], _ :: _, [], _ :: _, _, _, e => by cases e
  | _ :: _, [], _ :: _, [], _, _, e => by cases e
  | k :: ks, k' :: ks', d :: ds, d' :: ds', h1, h2, e => by
    rw [List.map_cons, List.map_cons, List.zip_cons_cons, List.zip_cons_cons] at e
    injection e with e1 e2
    injection e1 with e1 e3
    injection e1 with e1
    obtain ⟨z1, z2⟩ := zip_inj (ks := ks) (ks' := ks') (by simpa using h1) (by simpa using h2) e2
    exact ⟨by rw [e1, z1], by rw [e3, z2]⟩
  | [], _, _ :: _, _, h, _, _ => by cases h
  | _ :: _, _, [], _, h, _, _ => by cases h
  | _, [], _, _ :: _, _, h, _ => by cases h
  | _, _ :: _, _, [], _, h, _ => by cases h
section
variable {K : PySem.W.Frag} {H : Hp} {v : V} {c f : Str} {x : PyData} {ks : List Str} {ds : List PyData}
theorem no_kvs2 {kvs : List (Str × Int)} (e : objZ c ks ds = kvs.map fun p => (PyData.str p.1, PyData.int p.2)) : False := by
  cases kvs with
  | nil => cases e
  | cons p r =>
    rw [List.map_cons] at e
    injection e with e _
    injection e with e _
    cases e
theorem no_exc {c' : Str} {ks' : List Str} {ds' : List PyData} (e : objZ c ks ds = excZ c' ks' ds') : False := by
  injection e with e _
  injection e with e _
  cases e
theorem Da.insI (hl : ks.length = ds.length) (h : Da K H v (objD c ks ds)) : ∃ a dx vs, v = .ref a ∧ H a = some (.ins (He.ga K c) dx (ks.zip vs)) ∧ DaAll K H vs ds := by
  cases h with
  | dct e1 _ => exact (no_kvs2 e1).elim
  | exc e0 _ _ _ => exact (no_exc e0).elim
  | exn e0 _ => exact (no_exc e0).elim
  | @ins a dx c' ks' vs' ds' _ e0 hl' h1 h2 =>
    have e := e0
    injection e with e1 e2
    injection e1 with _ e1
    injection e1 with e1
    obtain ⟨z1, z2⟩ := zip_inj hl hl' e2
    subst e1 z1 z2
    exact ⟨a, dx, vs', rfl, h1, h2⟩
theorem lk_zip : ∀ {ks : List Str} {vs : List V} {ds : List PyData}, DaAll K H vs ds → (ks.zip ds).lookup f = some x → ∃ u, (ks.zip vs).lookup f = some u ∧ Da K H u x
  | [], _, _, _, e => by cases e
  | _ :: _, _, _, .nil, e => by cases e
  | k :: ks, _, _, .cons (v := v) (d := d) h t, e => by
    rw [List.zip_cons_cons, List.lookup_cons] at e ⊢
    cases q : f == k with
    | true =>
      rw [q] at e
      obtain rfl : d = x := Option.some.inj e
      exact ⟨v, rfl, h⟩
    | false =>
      rw [q] at e
      exact lk_zip t e
end
section
variable {Y : Vol} {K : PySem.W.Frag} {es : List Ent} {ta tk : TA} {te : TE} {c f : Str} {x d : PyData} {ks : List Str} {ds zs rs : List PyData}
/-- o.f -/
theorem ev_fld (ha : EvD Y K es te (· = objD c ks ds)) (hl : ks.length = ds.length) (T : Cls K (He.ga K c)) (hn : NoAttr K (He.ga K c) f) (hx : (ks.zip ds).lookup f = some x) : EvD Y K es (tFld K te f) (· = x) := fun H0i H0 Hi H σ s Q q =>
  ha H0i H0 Hi H σ s _ fun v d Hi1 H1 f1 hv e => by
    subst e
    obtain ⟨a, dx, vs, rfl, h1, h2⟩ := hv.insI hl
    obtain ⟨u, e1, hu⟩ := lk_zip h2 hx
    exact ⟨a, _, dx, _, u, rfl, f1.sub _ _ h1, T, hn, e1, q _ _ Hi1 H1 f1 hu rfl⟩
/-- an own class whose objects have plain fields -/
structure ObC (K : PySem.W.Frag) (C : Addr) : Prop where
  cl : Cls K C
  oc : PySem.W.findIn K (.ref C) "__class__" = some (some (.builtin "object.__class__"))
  og : PySem.W.specialIn K (.builtin "object.__class__") "__get__" = some (some (.builtin "getset_descriptor.__get__"))
  ot : PySem.W.takesIn K (.builtin "object.__class__") = some true
  mr : PySem.W.mroIn K C (.type "object") = some true
theorem ObC.ty {K : PySem.W.Frag} {H : Hp} {a C dx : Addr} {fs : List (Str × V)} (T : ObC K C) (h : H a = some (.ins C dx fs)) : TyX K H (.ref a) (.ref C) := .base (.ins h T.cl T.oc T.og T.ot T.mr)
def clsOB (K : PySem.W.Frag) (C : Addr) : Bool := PySem.W.plainGet K C Str.empty && (PySem.W.hasDictIn K C && (PySem.W.plainOver K C && decide (PySem.W.findIn K (.ref C) "__setattr__" = some (some (.builtin "object.__setattr__")))))
def obB (K : PySem.W.Frag) (C : Addr) : Bool := clsOB K C && (decide (PySem.W.findIn K (.ref C) "__class__" = some (some (.builtin "object.__class__"))) && (decide (PySem.W.specialIn K (.builtin "object.__class__") "__get__" = some (some (.builtin "getset_descriptor.__get__"))) && (decide (PySem.W.takesIn K (.builtin "object.__class__") = some true) && decide (PySem.W.mroIn K C (.type "object") = some true))))
theorem obB_ok {K : PySem.W.Frag} {C : Addr} (h : obB K C = true) : ObC K C := by
  unfold obB clsOB at h
  simp only [Bool.and_eq_true, decide_eq_true_eq] at h
  obtain ⟨⟨h1, h2, h3, h4⟩, h5, h6, h7, h8⟩ := h
  exact ⟨⟨h1, h2, h3, h4⟩, h5, h6, h7, h8⟩
def mkB (K : PySem.W.Frag) (C f : Addr) : Bool := PySem.W.makesIn K C && (decide (PySem.W.findIn K (.ref C) "__init__" = some (some (.ref f))) && (PySem.W.isFn K (.ref f) && PySem.W.keepIn K (.ref C)))
theorem mkB_ok {K : PySem.W.Frag} {C f : Addr} (h : mkB K C f = true) : Mk K C f := by
  unfold mkB at h
  simp only [Bool.and_eq_true, decide_eq_true_eq] at h
  obtain ⟨h1, h2, h3, h4⟩ := h
  exact ⟨h1, h2, h3, h4⟩
/-- isinstance of an own object -/
theorem ev_isObj {w : V} {u : Value} {b : Bool} (ha : EvT Y K es te (· = objD c ks ds)) (hl : ks.length = ds.length) (hw : ClsV w u) (hk : PySem.W.kitOne K (.ref (He.ga K c)) u = some b) (T : ObC K (He.ga K c)) : EvD Y K es (tCB (rIsi K) (tCons te (tCons (tC w) tNil))) (· = .bool b) := fun H0i H0 Hi H σ s Q q =>
  ha H0i H0 Hi H σ s _ fun v a Hi1 H1 f1 va pa => by
    subst pa
    obtain ⟨a, dx, vs, rfl, h1, h2⟩ := (va.full f1.sub).insI hl
    exact ⟨.ref a, w, _, u, b, rfl, hw, T.ty h1, hk, q _ _ Hi1 H1 f1 (.bl b) rfl⟩
/-- isinstance of a value of Python's own in an own class -/
theorem ev_isNat {w : V} {u : Value} {b : Bool} (ha : EvT Y K es te (· = d)) (hd : ∀ z, d ≠ .dict z) (hw : ClsV w u) (hk : PySem.W.kitOne K (.type (tyN d)) u = some b) : EvD Y K es (tCB (rIsi K) (tCons te (tCons (tC w) tNil))) (· = .bool b) := fun H0i H0 Hi H σ s Q q =>
  ha H0i H0 Hi H σ s _ fun v a Hi1 H1 f1 va pa => by
    subst pa
    exact ⟨v, w, _, u, b, rfl, hw, tyX_of hd va f1.sub, hk, q _ _ Hi1 H1 f1 (.bl b) rfl⟩
/-! ### the making of an own object: its __init__ keeps its parameters -/
def spIn (C : Addr) (ks : List Str) : Sp := fun vs H Q _ => ∃ (a dx : Addr) (ws : List V), vs = .ref a :: ws ∧ ws.length = ks.length ∧ H a = some (.ins C dx []) ∧ Q .non (upd H a (.ins C dx (ks.zip ws)))
theorem upd2 {H : Hp} {a : Addr} {o u : HO} : upd (upd H a o) a u = upd H a u := by
  funext b
  by_cases h : b = a
  · subst h
    rw [upd_same, upd_same]
  · rw [upd_ne h, upd_ne h, upd_ne h]
theorem not_tb_own {a : Addr} : ¬ Tb (.own a) := fun ⟨_, e⟩ => nomatch e
theorem not_tb_ins {C dx : Addr} {fs : List (Str × V)} : ¬ Tb (.ins C dx fs) := fun ⟨_, e⟩ => nomatch e
theorem alloc_ins {Hi H : Hp} (p : Pre Y Hi H) {a dx C : Addr} {fs : List (Str × V)} (ha : H a = none) (hd : H dx = none) (ne : dx ≠ a) : Fr Y Hi H (upd (upd Hi dx (.own a)) a (.ins C dx fs)) (upd (upd H dx (.own a)) a (.ins C dx fs)) := by
  have g1 := Fr.alloc p hd (o := .own a) not_tb_own
  have ha' : upd H dx (.own a) a = none := by rw [upd_ne ne.symm]; exact ha
  exact g1.trans (Fr.alloc g1.pre ha' not_tb_ins)
theorem ev_mkK {n m : Nat} {gV : List V → List V → List V} {E : XK} (h : ArD Y K es ta (· = ds)) (hk : ArD Y K es tk (· = zs)) (hn : ds.length = n) (hm : zs.length = m)
    (hg : ∀ (H : Hp) (a : Addr) (vs ws : List V), DaAll K H vs ds → DaAll K H ws zs → ∃ us, gV (.ref a :: vs) ws = .ref a :: us ∧ DaAll K H us rs) (hl : ks.length = rs.length) : EvD Y K es (tMakeK (He.ga K c) n m (spIn (He.ga K c) ks) gV E ta tk) (· = objD c ks rs) := fun H0i H0 Hi H σ s Q q =>
  h H0i H0 Hi H σ s _ fun vs ds' Hi1 H1 f1 hv e => hk H0i H0 Hi1 H1 σ (s.step f1) _ fun ws zs' Hi2 H2 f2 hw e2 => by
    subst e e2
    have hv2 := DaAll.mono f2.hi _ _ hv
    refine ⟨hv2.len.trans hn, hw.len.trans hm, fun a dx ha hd ne => ?_⟩
    obtain ⟨us, e, hu⟩ := hg _ a _ _ hv2 hw
    refine ⟨a, dx, us, e, hu.len.trans hl.symm, upd_same, rfl, ?_⟩
    rw [upd2]
    have g := alloc_ins (C := He.ga K c) (fs := ks.zip us) f2.pre ha hd ne
    exact q _ _ _ _ ((f1.trans f2).trans g) (.ins rfl hl upd_same (DaAll.mono g.hi _ _ hu)) rfl
theorem ev_mk {dvs : List V} {ks : List Str} {E : XK} {dd : List PyData} (h : ArD Y K es ta (· = ds)) (hdd : DaAll K (fun _ => none) dvs dd) (hl : ks.length = (ds ++ dd).length) : EvD Y K es (tMake (He.ga K c) (spIn (He.ga K c) ks) dvs E ta) (· = objD c ks (ds ++ dd)) := fun H0i H0 Hi H σ s Q q =>
  h H0i H0 Hi H σ s _ fun vs ds' Hi1 H1 f1 hv e => by
    subst e
    intro a dx ha hd ne
    have hu : DaAll K Hi1 (vs ++ dvs) (ds' ++ dd) := hv.append (DaAll.mono (fun _ _ e => by cases e) _ _ hdd)
    refine ⟨a, dx, _, rfl, hu.len.trans hl.symm, upd_same, rfl, ?_⟩
    rw [upd2]
    have g := alloc_ins (C := He.ga K c) (fs := ks.zip (vs ++ dvs)) f1.pre ha hd ne
    exact q _ _ _ _ (f1.trans g) (.ins rfl hl upd_same (DaAll.mono g.hi _ _ hu)) rfl
end
/-! an __init__ that keeps its parameters -/
def tSets (K : PySem.W.Frag) : List (Str × Nat) → TS
  | [] => tNext
  | (f, i) :: r => tSeq (sFld K (tVar 0) (tVar i) f) (tSets K r)
theorem putF_new {f : Str} {v : V} : ∀ {fs : List (Str × V)}, (∀ p ∈ fs, p.1 ≠ f) → putF f v fs = fs ++ [(f, v)]
  | [], _ => by simp only [putF, List.nil_append]
  | (g, w) :: r, h => by
    have h1 : ¬ g = f := h (g, w) List.mem_cons_self
    simp only [putF, if_neg h1, List.cons_append]
    rw [putF_new fun p q => h p (List.mem_cons_of_mem _ q)]
theorem sets_run {K : PySem.W.Frag} {C dx a : Addr} {σ : L2.St} {D : Ends} (T : Cls K C) (h0 : σ[0]? = some (some (.ref a))) : ∀ {ks : List Str} {ws : List V} {n : Nat} {fs : List (Str × V)} {H : Hp}, ks.Nodup → (∀ k ∈ ks, NoAttr K C k ∧ ∀ p ∈ fs, p.1 ≠ k) → ks.length = ws.length → fs.length + ks.length < 1000 →
    (∀ i v, ws[i]? = some v → σ[n + i]? = some (some v)) → H a = some (.ins C dx fs) → D.nx σ (upd H a (.ins C dx (fs ++ ks.zip ws))) → tSets K (ks.zipIdx n) D σ H
  | [], [], n, fs, H, _, _, _, _, _, ha, q => by
    show D.nx σ H
    have e : upd H a (.ins C dx (fs ++ ([] : List Str).zip ([] : List V))) = H := by
      funext b
      by_cases hb : b = a
      · subst hb
        rw [upd_same, ha]
        simp
      · rw [upd_ne hb]
    rwa [e] at q
  | k :: ks, w :: ws, n, fs, H, nd, hn, hl, hc, hσ, ha, q => by
    obtain ⟨n1, n2⟩ := List.nodup_cons.mp nd
    obtain ⟨g1, g2⟩ := hn k List.mem_cons_self
    rw [List.length_cons] at hc
    refine ⟨w, hσ 0 w rfl, .ref a, h0, a, C, dx, fs, rfl, ha, T, g1, by omega, ?_⟩
    rw [putF_new g2]
    refine sets_run (n := n + 1) (ws := ws) T h0 n2 (fun k' m => ⟨(hn k' (List.mem_cons_of_mem _ m)).1, fun p hp => ?_⟩) (by simpa using hl) (by rw [List.length_append]; simp; omega) (fun i v e => ?_) upd_same ?_
    · rcases List.mem_append.mp hp with hp | hp
      · exact (hn k' (List.mem_cons_of_mem _ m)).2 p hp
      · rw [List.mem_singleton] at hp
        subst hp
        exact fun e => n1 (by have e : k = k' := e; rw [e]; exact m)
    · have := hσ (i + 1) v (by simpa using e)
      rwa [show n + 1 + i = n + (i + 1) by omega]
    · rw [upd2, List.append_assoc]
      exact q
  | [], _ :: _, _, _, _, _, _, h, _, _, _, _ => by cases h
  | _ :: _, [], _, _, _, _, _, h, _, _, _, _ => by cases h
section
variable {P : Program} {w : World} {K : PySem.W.Frag} {mg : Str → Option Value} {base : Heap} {C : Addr} {ks : List Str}
theorem iniO_of {q : Str} {params : Arguments} {body : List Stmt} {scope : Scope} {dvs : List V} {kws : List (Str × V)} {fI : Addr} {fd : FuncData} (F : FunD K "__init__" q params body scope dvs kws fI fd) (S : FnScope ("self" :: ks) ("self" :: ks) scope) (T : Cls K C) (nd : ks.Nodup) (hn : ∀ k ∈ ks, NoAttr K C k) (hc : ks.length < 1000)
    (hb : ∀ (cdv : Value) (A : Around) (outer : List Env) (s : Shared) (H : Hp) (E : XK), PSs (cxOf CX0 P w K mg base ("self" :: ks) q scope fI cdv A outer s H E) body (tSets K (ks.zipIdx 1))) : FnOk P w K mg base CX0 1 fI fd ("self" :: ks) (spIn C ks) := by
  refine F.ok S (fun vs H Q E h => by obtain ⟨_, _, ws, e, hl, _⟩ := h; rw [e, List.length_cons, List.length_cons, hl]) (fun cdv A outer s H vs Q E hr h => ⟨_, hb cdv A outer s H E, ?_⟩)
  obtain ⟨a, dx, ws, rfl, hl, ha, q⟩ := h
  refine sets_run (fs := []) T (by simp [L2.start]) nd (fun k m => ⟨hn k m, fun _ h => by cases h⟩) hl.symm (by simpa using hc) (fun i v e => ?_) ha q
  have hi : i < ws.length := by
    rcases Nat.lt_or_ge i ws.length with z | z
    · exact z
    · rw [List.getElem?_eq_none z] at e
      cases e
  show (List.map some (V.ref a :: ws) ++ _)[1 + i]? = _
  rw [List.getElem?_append_left (by simp; omega), List.getElem?_map, Nat.add_comm, List.getElem?_cons_succ, e]
  rfl
end
end FR
set_option maxRecDepth 100000
set_option maxHeartbeats 400000
namespace FR
open PySem PySem.Spec PyProof.Rows L2
/-! ### x in (a, b, ..), of data without dicts -/
def rInDa (K : PySem.W.Frag) (neg : Bool) : R2 := fun x y H Q => ∃ d ds, Da K H x d ∧ Da K H y (.tuple ds) ∧ d.hasDict = false ∧ PyData.hasDictAll ds = false ∧ PyData.canLayAll0 ds = true ∧ d.canLay0 = true ∧ d.depth ≤ 60 ∧ Q (.bl (if neg = true then !(ds.any fun z => z.eqv d) else ds.any fun z => z.eqv d)) H
theorem op_inDa {X : Cx} (hu : X.A.units + 64 < cLine) : OpR X (compareOp .In) (rInDa X.K false) := by
  intro pins s σ H x y v u Q I rx ry h
  obtain ⟨d, ds, h1, h2, n1, n2, c1, c2, hd, q⟩ := h
  obtain ⟨as, r1⟩ := Dp.reads I _ _ u (Da.dp _ _ (by simpa only [PyData.hasDict] using n2) h2) ry
  obtain ⟨bs, r2⟩ := Dp.reads I _ _ v (Da.dp _ _ n1 h1) rx
  exact PySem.SeqAt.in_tuple_reads r1 r2 c1 c2 (by omega) ⟨.bl _, H, I, rfl, q⟩
theorem op_notInDa {X : Cx} (hu : X.A.units + 64 < cLine) : OpR X (compareOp .NotIn) (rInDa X.K true) := by
  intro pins s σ H x y v u Q I rx ry h
  obtain ⟨d, ds, h1, h2, n1, n2, c1, c2, hd, q⟩ := h
  obtain ⟨as, r1⟩ := Dp.reads I _ _ u (Da.dp _ _ (by simpa only [PyData.hasDict] using n2) h2) ry
  obtain ⟨bs, r2⟩ := Dp.reads I _ _ v (Da.dp _ _ n1 h1) rx
  exact PySem.SeqAt.notIn_tuple_reads r1 r2 c1 c2 (by omega) ⟨.bl _, H, I, rfl, q⟩
section
variable {Y : Vol} {K : PySem.W.Frag} {es : List Ent} {ta tr : TA} {te ue : TE} {a b d x y : PyData} {ds rs : List PyData} {O : Out} {ts : TS}
theorem os_inDa {neg : Bool} (n1 : d.hasDict = false) (n2 : PyData.hasDictAll ds = false) (c1 : PyData.canLayAll0 ds = true) (c2 : d.canLay0 = true) (hd : d.depth ≤ 60) : OpS Y K (rInDa K neg) d (.tuple ds) (· = .bool (if neg = true then !(ds.any fun z => z.eqv d) else ds.any fun z => z.eqv d)) := os_of fun Hi H v w p ha hb Q q =>
  ⟨d, ds, ha.full p.sub, hb.full p.sub, n1, n2, c1, c2, hd, q _ Hi H (Fr.refl p) (.bl _)⟩
/-! [*xs, ..] -/
theorem ar_star (ha : EvD Y K es te (fun d => d = .list rs ∨ d = .tuple rs)) (hr : ArD Y K es ta (· = ds)) : ArD Y K es (StX.tStar K te ta) (· = rs ++ ds) := fun H0i H0 Hi H σ s Q q =>
  ha H0i H0 Hi H σ s _ fun v d Hi1 H1 f1 hv e => by
    have key : ∃ p xs, v = V.ref p ∧ (SqT K H1 p xs ∨ SqL K H1 p xs) ∧ DaAll K Hi1 xs rs := by
      rcases e with e | e
      · subst e
        cases hv with
        | lst h1 h2 => exact ⟨_, _, rfl, .inr (.inl (.inl (f1.sub _ _ h1))), h2⟩
      · subst e
        cases hv with
        | tup h1 h2 => exact ⟨_, _, rfl, .inl (sqt_mono f1.sub h1), h2⟩
    obtain ⟨p, xs, e1, e2, e3⟩ := key
    exact ⟨p, xs, e1, e2, hr H0i H0 Hi1 H1 σ (s.step f1) _ fun ws es' Hi2 H2 f2 hw e4 => by
      subst e4
      exact q _ _ Hi2 H2 (f1.trans f2) ((DaAll.mono f2.hi _ _ e3).append hw) rfl⟩
/-! x or y -/
/-- the truth of None, truth values, ints -/
def truN : PyData → Option Bool
  | .none => some false
  | .bool b => some b
  | .int i => some (i != 0)
  | _ => none
theorem ev_orT {k : Bool} (ha : EvD Y K es te (· = x)) (hk : truN x = some k) (hb : k = false → EvD Y K es ue (· = y)) : EvD Y K es (tOrT K te ue) (· = if k = true then x else y) := fun H0i H0 Hi H σ s Q q =>
  ha H0i H0 Hi H σ s _ fun v d Hi1 H1 f1 hv e => by
    subst e
    refine ⟨k, ?_, ?_⟩
    · cases d with
      | none =>
        cases hv
        obtain rfl := Option.some.inj hk
        rfl
      | bool b =>
        cases hv
        obtain rfl := Option.some.inj hk
        rfl
      | int i =>
        cases hv
        obtain rfl := Option.some.inj hk
        rfl
      | _ => cases hk
    · cases k with
      | true => exact q v _ Hi1 H1 f1 hv rfl
      | false => exact hb rfl H0i H0 Hi1 H1 σ (s.step f1) Q fun w d Hi2 H2 f2 hw e => q w d Hi2 H2 (f1.trans f2) hw e
/-! int(text), str(int) -/
abbrev rIntS : List V → Hp → VK → Prop := fun xs H Q => ∃ a n, xs = [.str a] ∧ PySem.intText? a = some n ∧ a.length ≤ 640 ∧ Q (.int n) H
abbrev rStrI : List V → Hp → VK → Prop := fun xs H Q => ∃ i : Int, xs = [.int i] ∧ i.natAbs.log2 < 1920 ∧ Q (.str (toString i)) H
theorem cb_intS {a : Str} {n : Int} (h : PySem.intText? a = some n) (hl : a.length ≤ 640) : CbS Y K rIntS [.str a] (· = .int n) := cb_of fun Hi H vs p hv Q q => by
  cases hv with
  | cons h1 h2 =>
    cases h2
    exact ⟨a, n, by rw [h1.str], h, hl, q _ Hi H (Fr.refl p) (.int n)⟩
theorem cb_strI {i : Int} (h : i.natAbs.log2 < 1920) : CbS Y K rStrI [.int i] (· = .str (toString i)) := cb_of fun Hi H vs p hv Q q => by
  cases hv with
  | cons h1 h2 =>
    cases h2
    exact ⟨i, by rw [h1.int], h, q _ Hi H (Fr.refl p) (.str _)⟩
/-! x, y = e -/
theorem ss_unp2 {i j : Nat} {P : PyData → Prop} (h : EvD Y K es te P) (k : ∀ d, P d → ∃ a b, d = .tuple [a, b] ∧ O.nx ((es.set i (.dat a)).set j (.dat b))) : StS Y K es (tAsg te (gTup K 2 (gCons (gName i) (gCons (gName j) gNil)))) O := fun H0i H0 Hi H σ s Dn n b c r =>
  h H0i H0 Hi H σ s _ fun v d Hi' H' f hd p => by
    obtain ⟨x, y, e, kk⟩ := k d p
    subst e
    cases hd with
    | tup h1 h2 =>
      have hl := h2.len
      cases h2 with
      | cons g1 g2 =>
        cases g2 with
        | cons g3 g4 =>
          cases g4
          exact ⟨_, _, rfl, sqt_mono f.sub h1, rfl, _, _, rfl, _, _, rfl, rfl, n Hi' H' _ _ f.hi (((s.step f).setDat g1).setDat g3) kk⟩
theorem qs_unp2 {i j : Nat} {t2 : TS} (h : EvD Y K es te (· = .tuple [a, b])) (k : StS Y K ((es.set i (.dat a)).set j (.dat b)) t2 O) : StS Y K es (tSeq (tAsg te (gTup K 2 (gCons (gName i) (gCons (gName j) gNil)))) t2) O :=
  ss_seq (ss_unp2 (O := ⟨(· = (es.set i (.dat a)).set j (.dat b)), O.rt, O.bk, O.ct⟩) h fun d e => ⟨a, b, e, rfl⟩) fun e h => by rw [h]; exact k
end
end FR
set_option maxRecDepth 100000
set_option maxHeartbeats 400000
namespace FR
open PySem PySem.Spec PySem.Calls PyProof.Rows L2
section
variable {prog : Program} {w : World} {A : Around} {E : Value → Shared → Prop} {K : PySem.W.Frag} {C x f : Addr} {s : Shared} {ox : Obj} {od : Option Obj} {Q : Value → Shared → Prop}
theorem wpAny_of_eq {α : Type} {M : Model} {E : Value → Shared → Prop} {m : Sem α} {a : α} {s : Shared} {Q : α → Shared → Prop} (h : m = pure a) (q : Q a s) : wpAny M A m Q E s := by
  rw [h]
  exact wpAny_pure q
theorem len_body (hk : K.In s.heap) (J : PySem.W.InstAt s.heap x ox C od) (hf : PySem.W.findIn K (.ref C) "__len__" = some (some (.ref f))) (ht : PySem.W.typeIn K (.ref f) = some (.type "function"))
    (hq : wpAny (model prog w) A (call (.ref f) [.ref x]) (fun r s' => ∃ (n : Int) (u : Tok), r = .int n u ∧ 0 ≤ n ∧ n < 2 ^ 63 ∧ Q (.int n s'.toks) { s' with toks := s'.toks + 1 }) E s) : wpAny (model prog w) A (Builtin.len ⟨[.ref x], []⟩) (fun fin s' => ∃ v, fin = Fin.done (Flow.ret v) ∧ Q v s') E s := by
  unfold Builtin.len
  refine wpAny_bind ?_
  show wpAny _ _ (pure _) _ _ _
  refine wpAny_pure (wpAny_bind (PySem.W.special_fn hk J hf ht (thn hq fun r s' h => ?_)))
  obtain ⟨n, u, rfl, h0, h1, q⟩ := h
  repeat (first | (refine wpAny_letGo ?_) | wp_step)
  rw [if_neg (by omega)]
  show wpAny _ _ (retInt n) _ _ _
  unfold retInt
  repeat wp_step
  exact ⟨_, rfl, q⟩
theorem len_fn (hk : K.In s.heap) (J : PySem.W.InstAt s.heap x ox C od) (hf : PySem.W.findIn K (.ref C) "__len__" = some (some (.ref f))) (ht : PySem.W.typeIn K (.ref f) = some (.type "function"))
    (hq : wpAny (model prog w) A.in1 (call (.ref f) [.ref x]) (fun r s' => ∃ (n : Int) (u : Tok), r = .int n u ∧ 0 ≤ n ∧ n < 2 ^ 63 ∧ Q (.int n s'.toks) { s' with toks := s'.toks + 1 }) E s) : wpAny (model prog w) A (call (.builtin "len") [.ref x]) Q E s := by
  apply wpAny_call
  refine codeAny_call_builtin plain_len entry_len ?_
  simp only [checkBuiltinCall, kind_len]
  have ha := args_len1 (.ref x)
  unfold argsOk at ha
  refine wpAny_of_eq ha ?_
  refine thn (len_body hk J hf ht hq) fun fin s' h => ?_
  obtain ⟨v, rfl, q⟩ := h
  exact q
end
/-! len(o), o an object with an own __len__ -/
theorem inst_ins {P : Program} {w : World} {H : Hp} {h : Heap} {a C dx : Addr} {fs : List (Str × V)} (hok : HOk P w H h) (ha : H a = some (.ins C dx fs)) : ∃ od, PySem.W.InstAt h a (PySem.W.instObj C dx) C (some od) := by
  obtain ⟨_, _, _, h1, mA, h2, _⟩ : ObjOk P w H h a (.ins C dx fs) := hok a _ ha
  obtain ⟨o, es, ep, e, _⟩ := h2
  exact ⟨o, h1, rfl, rfl, e⟩
def rLenO (C : Addr) (sp : Sp) : List V → Hp → VK → Prop := fun xs H Q => ∃ (a dx : Addr) (fs : List (Str × V)), xs = [.ref a] ∧ H a = some (.ins C dx fs) ∧ sp [.ref a] H (fun r H1 => ∃ n : Int, r = .int n ∧ 0 ≤ n ∧ n < 2 ^ 63 ∧ Q (.int n) H1) E0
theorem call_lenO {X : Cx} {k : Nat} {C f : Addr} {fd : FuncData} {p : Str} {sp : Sp} (F : FnOk X.prog X.w X.K X.mg X.base CX0 k f fd [p] sp) (hb : Binds X.K fd [p] []) (hr : Room (k + 1) X.A) (hf : PySem.W.findIn X.K (.ref C) "__len__" = some (some (.ref f))) (ht : PySem.W.typeIn X.K (.ref f) = some (.type "function")) : CallR X (.builtin "len") (rLenO C sp) := by
  intro pins s σ H xs us Q I r h
  obtain ⟨a, dx, fs, rfl, ha, q⟩ := h
  obtain ⟨u, rfl, ru⟩ := vals1 r
  obtain rfl : u = Value.ref a := ru
  obtain ⟨od, J⟩ := inst_ins I.hok ha
  refine len_fn I.kIn J hf ht (wpAny_call (codeAny_mono (F.run _ X.stack s H ⟨[.ref a], []⟩ [.ref a] _ _ E0 hr.in1 I.env0.in1 (by
    have := hb s [.ref a] I.kIn rfl
    rwa [List.append_nil] at this) (.cons (show RelV (.ref a) (.ref a) from rfl) .nil) q) fun r s' hq' => ?_))
  match r, hq' with
  | .error _, hq' => exact False.elim hq'
  | .ok .next, hq' => exact False.elim hq'
  | .ok .brk, hq' => exact False.elim hq'
  | .ok .cont, hq' => exact False.elim hq'
  | .ok (.ret u'), hq' =>
    obtain ⟨z, H3, I3, rz, n, ez, h0, h1, q3⟩ := I.after hq'
    subst ez
    obtain ⟨t, rfl⟩ := rz
    exact ⟨n, t, rfl, h0, h1, .int n, H3, I3.tok _, ⟨_, rfl⟩, q3⟩
end FR
set_option maxRecDepth 100000
set_option maxHeartbeats 400000
namespace FR
open PySem PySem.Spec PySem.Calls PyProof.Rows L2
/-! str(o) -/
def rStrO (C : Addr) (sp : Sp) : List V → Hp → VK → Prop := fun xs H Q => ∃ (a dx : Addr) (fs : List (Str × V)), xs = [.ref a] ∧ H a = some (.ins C dx fs) ∧ sp [.ref a] H (fun r H1 => ∃ y : Str, r = .str y ∧ Q (.str y) H1) E0
theorem call_strO {X : Cx} {k : Nat} {C f : Addr} {fd : FuncData} {p : Str} {sp : Sp} (F : FnOk X.prog X.w X.K X.mg X.base CX0 k f fd [p] sp) (hb : Binds X.K fd [p] []) (hr : Room (k + 2) X.A) (hf : PySem.W.findIn X.K (.ref C) "__str__" = some (some (.ref f))) (ht : PySem.W.isFn X.K (.ref f) = true) : CallR X (.type "str") (rStrO C sp) := by
  intro pins s σ H xs us Q I r h
  obtain ⟨a, dx, fs, rfl, ha, q⟩ := h
  obtain ⟨u, rfl, ru⟩ := vals1 r
  obtain rfl : u = Value.ref a := ru
  obtain ⟨od, J⟩ := inst_ins I.hok ha
  have hr1 : Room (k + 1) X.A.in1 := hr.in1
  refine PySem.W.kso_call hr1.in1.units0 I.kIn J hf ht (wpAny_call (codeAny_mono (F.run _ X.stack s H ⟨[.ref a], []⟩ [.ref a] _ _ E0 hr1.in1 I.env0.in1.in1 (by
    have := hb s [.ref a] I.kIn rfl
    rwa [List.append_nil] at this) (.cons (show RelV (.ref a) (.ref a) from rfl) .nil) q) fun r s' hq' => ?_))
  match r, hq' with
  | .error _, hq' => exact False.elim hq'
  | .ok .next, hq' => exact False.elim hq'
  | .ok .brk, hq' => exact False.elim hq'
  | .ok .cont, hq' => exact False.elim hq'
  | .ok (.ret u'), hq' =>
    obtain ⟨z, H3, I3, rz, y, ez, q3⟩ := I.after hq'
    subst ez
    obtain ⟨t, rfl⟩ := rz
    exact ⟨.str y, H3, I3, ⟨_, rfl⟩, q3⟩
/-! o == x -/
def rEqO (K : PySem.W.Frag) (C : Addr) (sp : Sp) : R2 := fun x y H Q => ∃ (a dx : Addr) (fs : List (Str × V)) (t : Value), x = .ref a ∧ H a = some (.ins C dx fs) ∧ TyX K H y t ∧ PySem.W.notFirst K C t = true ∧ sp [x, y] H (fun r H1 => ∃ b : Bool, r = .bl b ∧ Q (.bl b) H1) E0
theorem op_eqO {X : Cx} {k : Nat} {C f : Addr} {fd : FuncData} {p p' : Str} {sp : Sp} (F : FnOk X.prog X.w X.K X.mg X.base CX0 k f fd [p, p'] sp) (hb : Binds X.K fd [p, p'] []) (hr : Room k X.A) (hf : PySem.W.findIn X.K (.ref C) "__eq__" = some (some (.ref f))) (ht : PySem.W.isFn X.K (.ref f) = true) : OpR X (compareOp .Eq) (rEqO X.K C sp) := by
  intro pins s σ H x y v u Q I rx ry h
  obtain ⟨a, dx, fs, t, rfl, ha, ty, nf, q⟩ := h
  obtain rfl : v = Value.ref a := rx
  obtain ⟨od, J⟩ := inst_ins I.hok ha
  obtain ⟨m, fr⟩ := I.fr
  obtain ⟨Pk, kt, pk, _⟩ := L2.kit_of I ry ty
  refine PySem.W.cmp_K (op := .Eq) hr.units0 fr I.ok.mod.kin J (kt.ty _ _ I.kIn pk) nf hf ht (wpAny_call (codeAny_mono (F.run _ X.stack s H ⟨[.ref a, u], []⟩ [.ref a, u] _ _ E0 hr I.env0 (by
    have := hb s [.ref a, u] I.kIn rfl
    rwa [List.append_nil] at this) (.cons (show RelV (.ref a) (.ref a) from rfl) (.cons ry .nil)) q) fun r s' hq' => ?_))
  match r, hq' with
  | .error _, hq' => exact False.elim hq'
  | .ok .next, hq' => exact False.elim hq'
  | .ok .brk, hq' => exact False.elim hq'
  | .ok .cont, hq' => exact False.elim hq'
  | .ok (.ret u'), hq' =>
    obtain ⟨z, H3, I3, rz, b, ez, q3⟩ := I.after hq'
    subst ez
    obtain rfl : u' = Value.bool b := rz
    exact ⟨.bl b, H3, I3, rfl, q3⟩
/-! o != x, by the object's own __eq__ -/
theorem ifBound_slot {M : Model} {A : Around} {E : Value → Shared → Prop} {s : Shared} {K : PySem.W.Frag} {x C : Addr} {ox : Obj} {od : Option Obj} {name : Str} {id : String} {args : List Value} {Q : Option Value → Shared → Prop} (hk : K.In s.heap) (J : PySem.W.InstAt s.heap x ox C od) (hf : PySem.W.findIn K (.ref C) name = some (some (.builtin id))) (hb : bindSpecial (.builtin id) (.ref x) = pure (.builtin id, [.ref x]))
    (hq : wpAny M A (call (.builtin id) (.ref x :: args)) (fun v => Q (some v)) E s) : wpAny M A (callSpecialIfBound? (.ref x) name args) Q E s := by
  unfold callSpecialIfBound?
  refine wpAny_holding (wpAny_bind ?_)
  unfold bindSpecialIfBound?
  refine wpAny_bind ?_
  unfold specialOf
  refine wpAny_bind (J.type _ _ _ _ (fun _ _ e => e) ?_)
  refine PySem.W.looks_findIn hk hf _ _ _ _ (fun _ _ e => e) ?_
  simp only [hb, pure_bind]
  repeat wp_step
  have go : ∀ (s' : Shared), s' = s → wpAny M A (call (.builtin id) ([.ref x] ++ args) >>= fun r => pure (some r)) Q E s' := fun s' e => by
    subst e
    exact wpAny_bind (thn hq fun v s1 z => wpAny_pure z)
  refine wpAny_askSetting ?_
  split
  · exact wpAny_pure (go _ rfl)
  · exact wpAny_tryCatch (wpAny_pure (go _ rfl))
theorem ne_fn {prog : Program} {w : World} {A : Around} {E : Value → Shared → Prop} {s : Shared} {K : PySem.W.Frag} {x C f : Addr} {b : Value} {ox : Obj} {od : Option Obj} {Q : Value → Shared → Prop} (hu : A.units + 2 < cLine) (hk : K.In s.heap) (J : PySem.W.InstAt s.heap x ox C od) (hm : PySem.W.mroIn K C (.type "object") = some true) (hf : PySem.W.findIn K (.ref C) "__eq__" = some (some (.ref f))) (ht : PySem.W.isFn K (.ref f) = true)
    (hq : wpAny (model prog w) A.in1 (call (.ref f) [.ref x, b]) (fun r s' => ∃ c, r = .bool c ∧ Q (.bool !c) s') E s) : wpAny (model prog w) A (call (.builtin "object.__ne__") [.ref x, b]) Q E s := by
  refine wpAny_call (codeAny_call_builtin (by decide +kernel) F.entry_object_ne ?_)
  refine PySem.W.check_slot (owner := "object") (n := "__ne__") (by decide +kernel) (by decide +kernel) ?_ ?_ ?_
  · exact fun A' Q' E' s' kp q' => wpAny_bind (J.type _ _ _ _ kp (PySem.W.looks_mroIn hk hm _ _ _ _ kp q'))
  · exact F.args_object_ne_2 _ _
  unfold Builtin.«object.__ne__»
  refine wpAny_bind ?_
  show wpAny _ _ (pure _) _ _ _
  refine wpAny_pure (wpAny_bind (wpAny_cRoomFor (by show A.units + 1 < cLine; omega) (wpAny_bind (PySem.W.ifBound_K hk J hf ht (thn hq fun r s' h => ?_)))))
  obtain ⟨c, rfl, q⟩ := h
  refine wpAny_bind (wpAny_truthy_bool ?_)
  exact wpAny_pure q
theorem rc_ne {prog : Program} {w : World} {A : Around} {E : Value → Shared → Prop} {s : Shared} {K : PySem.W.Frag} {x C f : Addr} {b tb : Value} {ox : Obj} {od : Option Obj} {Q : Value → Shared → Prop} (hu : A.units + 2 < cLine) (hk : K.In s.heap) (J : PySem.W.InstAt s.heap x ox C od) (hm : PySem.W.mroIn K C (.type "object") = some true) (hb : PySem.W.Looks (model prog w) s.heap (typeOf b) tb) (nf : PySem.W.notFirst K C tb = true) (hn : PySem.W.findIn K (.ref C) "__ne__" = some (some (.builtin "object.__ne__"))) (hf : PySem.W.findIn K (.ref C) "__eq__" = some (some (.ref f))) (ht : PySem.W.isFn K (.ref f) = true)
    (hq : wpAny (model prog w) A.in1 (call (.ref f) [.ref x, b]) (fun r s' => ∃ c, r = .bool c ∧ Q (.bool !c) s') E s) : wpAny (model prog w) A (richCompare .NotEq (.ref x) b) Q E s := by
  have main : wpAny (model prog w) A (tryCompare (.ref x) "__ne__" b) (fun o s' => ∃ c, o = some (.bool c) ∧ Q (.bool c) s') E s := by
    unfold tryCompare
    refine wpAny_bind (ifBound_slot hk J hn (by rfl) (ne_fn hu hk J hm hf ht (thn hq fun r s' h => ?_)))
    obtain ⟨c, rfl, q⟩ := h
    refine ⟨c, rfl, ?_⟩
    show wpAny _ _ (pure (some (Value.bool (!c)))) _ _ _
    exact wpAny_pure ⟨!c, rfl, q⟩
  unfold richCompare
  refine wpAny_holding (wpAny_bind (wpAny_cRoomFor (by omega) ?_))
  have e1 : oneThing? .NotEq (.ref x) b = none := by cases b <;> rfl
  rw [e1]
  refine wpAny_bind (J.type _ _ _ _ (fun _ _ e => e) (wpAny_bind (hb _ _ _ _ (fun _ _ e => e) ?_)))
  by_cases hne : (Value.ref C != tb) = true
  · have hs : PySem.W.subIn K tb (.ref C) = some false := by
      unfold PySem.W.notFirst at nf
      rw [Bool.or_eq_true] at nf
      rcases nf with nf | nf
      · rw [eq_of_beq nf] at hne
        simp at hne
      · exact eq_of_beq nf
    dsimp only
    rw [if_pos hne]
    refine wpAny_bind (PySem.W.looks_subIn hk hs _ _ _ _ (fun _ _ e => e) ?_)
    rw [if_neg Bool.false_ne_true]
    exact wpAny_bind (thn main fun o s' ⟨c, e, q⟩ => by subst e; exact wpAny_pure q)
  · dsimp only
    rw [if_neg hne]
    refine wpAny_bind (wpAny_pure ?_)
    rw [if_neg Bool.false_ne_true]
    exact wpAny_bind (thn main fun o s' ⟨c, e, q⟩ => by subst e; exact wpAny_pure q)
def rNeO (K : PySem.W.Frag) (C : Addr) (sp : Sp) : R2 := fun x y H Q => ∃ (a dx : Addr) (fs : List (Str × V)) (t : Value), x = .ref a ∧ H a = some (.ins C dx fs) ∧ TyX K H y t ∧ PySem.W.notFirst K C t = true ∧ sp [x, y] H (fun r H1 => ∃ b : Bool, r = .bl b ∧ Q (.bl (!b)) H1) E0
theorem op_neO {X : Cx} {k : Nat} {C f : Addr} {fd : FuncData} {p p' : Str} {sp : Sp} (F : FnOk X.prog X.w X.K X.mg X.base CX0 k f fd [p, p'] sp) (hb : Binds X.K fd [p, p'] []) (hr : Room (k + 1) X.A) (hm : PySem.W.mroIn X.K C (.type "object") = some true) (hn : PySem.W.findIn X.K (.ref C) "__ne__" = some (some (.builtin "object.__ne__"))) (hf : PySem.W.findIn X.K (.ref C) "__eq__" = some (some (.ref f))) (ht : PySem.W.isFn X.K (.ref f) = true) : OpR X (compareOp .NotEq) (rNeO X.K C sp) := by
  intro pins s σ H x y v u Q I rx ry h
  obtain ⟨a, dx, fs, t, rfl, ha, ty, nf, q⟩ := h
  obtain rfl : v = Value.ref a := rx
  obtain ⟨od, J⟩ := inst_ins I.hok ha
  obtain ⟨Pk, kt, pk, _⟩ := L2.kit_of I ry ty
  have hu := hr.un
  refine rc_ne (by omega) I.kIn J hm (kt.ty _ _ I.kIn pk) nf hn hf ht (wpAny_call (codeAny_mono (F.run _ X.stack s H ⟨[.ref a, u], []⟩ [.ref a, u] _ _ E0 hr.in1 I.env0.in1 (by
    have := hb s [.ref a, u] I.kIn rfl
    rwa [List.append_nil] at this) (.cons (show RelV (.ref a) (.ref a) from rfl) (.cons ry .nil)) q) fun r s' hq' => ?_))
  match r, hq' with
  | .error _, hq' => exact False.elim hq'
  | .ok .next, hq' => exact False.elim hq'
  | .ok .brk, hq' => exact False.elim hq'
  | .ok .cont, hq' => exact False.elim hq'
  | .ok (.ret u'), hq' =>
    obtain ⟨z, H3, I3, rz, b, ez, q3⟩ := I.after hq'
    subst ez
    obtain rfl : u' = Value.bool b := rz
    exact ⟨b, rfl, .bl (!b), H3, I3, rfl, q3⟩
/-! bool(o), o an object with an own __len__ and no __bool__ -/
theorem truthy_fn {prog : Program} {w : World} {A : Around} {E : Value → Shared → Prop} {s : Shared} {K : PySem.W.Frag} {x C f : Addr} {ox : Obj} {od : Option Obj} {Q : Bool → Shared → Prop} (hk : K.In s.heap) (J : PySem.W.InstAt s.heap x ox C od) (hn : PySem.W.findIn K (.ref C) "__bool__" = some none) (hf : PySem.W.findIn K (.ref C) "__len__" = some (some (.ref f))) (ht : PySem.W.typeIn K (.ref f) = some (.type "function"))
    (hq : wpAny (model prog w) A.in1 (call (.ref f) [.ref x]) (fun r s' => ∃ (n : Int) (u : Tok), r = .int n u ∧ 0 ≤ n ∧ n < 2 ^ 63 ∧ Q (n != 0) { s' with toks := s'.toks + 1 }) E s) : wpAny (model prog w) A (truthy (.ref x)) Q E s := by
  unfold truthy
  refine wpAny_bind ?_
  unfold callSpecial? specialOf
  refine wpAny_bind (wpAny_bind (J.type _ _ _ _ (fun _ _ e => e) ?_))
  refine PySem.W.looks_findIn hk hn _ _ _ _ (fun _ _ e => e) ?_
  refine wpAny_pure ?_
  dsimp only
  refine wpAny_bind (wpAny_bind (J.type _ _ _ _ (fun _ _ e => e) ?_))
  refine PySem.W.looks_findIn hk hf _ _ _ _ (fun _ _ e => e) ?_
  rw [if_neg (by simp)]
  refine wpAny_bind ?_
  refine wpAny_runValue (codeAny_builtin entry_len ?_)
  show wpAny _ A.in1 _ _ _ _
  refine thn (len_body (Q := fun v s' => ∃ (n : Int) (u : Tok), v = .int n u ∧ Q (n != 0) s') hk J hf ht (thn hq fun r s' h => ?_)) fun fin s' h => ?_
  · obtain ⟨n, u, rfl, h0, h1, q⟩ := h
    exact ⟨n, u, rfl, h0, h1, n, _, rfl, q⟩
  · obtain ⟨v, rfl, n, u, rfl, q⟩ := h
    exact wpAny_pure q
theorem bool_fn {prog : Program} {w : World} {A : Around} {E : Value → Shared → Prop} {s : Shared} {x : Value} {Q : Value → Shared → Prop} (h : wpAny (model prog w) A.in1.in1 (truthy x) (fun b s' => Q (.bool b) s') E s) : wpAny (model prog w) A (call (.type "bool") [x]) Q E s := by
  refine callType_newIn (S := fun A R s => wpAny (model prog w) A.in1 (truthy x) (fun b s' => R (.ok (.ret (.bool b))) s') (fun e s' => R (.error e) s') s) F.called_bool (by decide) (F.typeCall_bool_1 _) (F.newCall_bool_1 _) (fun obj => F.args_object_init_2 _ _) F.entry_bool_new ?_ ?_
  · intro A R s h
    unfold Builtin.«bool.__new__»
    repeat wp_step
    refine wpAny_of_eq F.sub_bool_bool ?_
    rw [if_neg (by simp)]
    refine wpAny_bind ?_
    show wpAny _ _ (pure _) _ _ _
    refine wpAny_pure (wpAny_bind (thn h fun b s' q => ?_))
    exact wpAny_pure q
  · refine thn h fun b s' q => ?_
    exact ⟨rfl, q⟩
/-- bool(o) -/
def rTruO (C : Addr) (sp : Sp) : List V → Hp → VK → Prop := fun xs H Q => ∃ (a dx : Addr) (fs : List (Str × V)), xs = [.ref a] ∧ H a = some (.ins C dx fs) ∧ sp [.ref a] H (fun r H1 => ∃ n : Int, r = .int n ∧ 0 ≤ n ∧ n < 2 ^ 63 ∧ Q (.bl (n != 0)) H1) E0
theorem call_boolO {X : Cx} {k : Nat} {C f : Addr} {fd : FuncData} {p : Str} {sp : Sp} (F : FnOk X.prog X.w X.K X.mg X.base CX0 k f fd [p] sp) (hb : Binds X.K fd [p] []) (hr : Room (k + 3) X.A) (hn : PySem.W.findIn X.K (.ref C) "__bool__" = some none) (hf : PySem.W.findIn X.K (.ref C) "__len__" = some (some (.ref f))) (ht : PySem.W.typeIn X.K (.ref f) = some (.type "function")) : CallR X (.type "bool") (rTruO C sp) := by
  intro pins s σ H xs us Q I r h
  obtain ⟨a, dx, fs, rfl, ha, q⟩ := h
  obtain ⟨u, rfl, ru⟩ := vals1 r
  obtain rfl : u = Value.ref a := ru
  obtain ⟨od, J⟩ := inst_ins I.hok ha
  have h1 : Room (k + 2) X.A.in1 := hr.in1
  have h2 : Room (k + 1) X.A.in1.in1 := h1.in1
  refine bool_fn (truthy_fn I.kIn J hn hf ht (wpAny_call (codeAny_mono (F.run _ X.stack s H ⟨[.ref a], []⟩ [.ref a] _ _ E0 h2.in1 I.env0.in1.in1.in1 (by
    have := hb s [.ref a] I.kIn rfl
    rwa [List.append_nil] at this) (.cons (show RelV (.ref a) (.ref a) from rfl) .nil) q) fun r s' hq' => ?_)))
  match r, hq' with
  | .error _, hq' => exact False.elim hq'
  | .ok .next, hq' => exact False.elim hq'
  | .ok .brk, hq' => exact False.elim hq'
  | .ok .cont, hq' => exact False.elim hq'
  | .ok (.ret u'), hq' =>
    obtain ⟨z, H3, I3, rz, n, ez, h0, h1, q3⟩ := I.after hq'
    subst ez
    obtain ⟨t, rfl⟩ := rz
    exact ⟨n, t, rfl, h0, h1, .bl (n != 0), H3, I3.tok _, rfl, q3⟩
end FR
set_option maxRecDepth 100000
set_option maxHeartbeats 400000
namespace FR
open PySem PySem.Spec PySem.Calls PyProof.Rows L2
/-- no object, no exception of our own (as data) -/
def Pl : PyData → Prop
  | .dict z => ∃ kvs : List (Str × Int), z = kvs.map fun p => (PyData.str p.1, PyData.int p.2)
  | _ => True
section
variable {K : PySem.W.Frag} {H : Hp} {v : V} {d : PyData} {c : Str} {ks : List Str} {ds : List PyData}
theorem tyX_pl (hp : Pl d) (h : Da K H v d) : TyX K H v (.type (tyN d)) := by
  cases h with
  | non => exact .base .non
  | bl b => exact .base (.bl b)
  | int i => exact .base (.int i)
  | str x => exact .base (.str x)
  | lst h1 h2 => exact .base (.lst h1)
  | tup h1 h2 =>
    rcases h1 with (h1 | ⟨o, h1⟩) | ⟨o, its, n, h3, h4, _⟩
    · exact .base (.tup h1)
    · exact .fTuple h1
    · exact .kTuple h3 h4
  | dct _ h2 => exact .base (.dK h2)
  | exc e0 _ _ _ =>
    obtain ⟨kvs, e⟩ := hp
    exact (no_kvs (e0.symm.trans e)).elim
  | exn e0 _ =>
    obtain ⟨kvs, e⟩ := hp
    exact (no_kvs (e0.symm.trans e)).elim
  | ins e0 _ _ _ =>
    obtain ⟨kvs, e⟩ := hp
    exact (no_kvs2 (e0.symm.trans e)).elim
theorem tyX_obj (T : ObC K (He.ga K c)) (hl : ks.length = ds.length) (h : Da K H v (objD c ks ds)) : TyX K H v (.ref (He.ga K c)) := by
  obtain ⟨a, dx, vs, rfl, h1, _⟩ := h.insI hl
  exact T.ty h1
end
section
variable {Y : Vol} {K : PySem.W.Frag} {es : List Ent} {ta tk : TA} {te ue : TE} {c f : Str} {o x d : PyData} {ks : List Str} {ds : List PyData} {P : PyData → Prop} {Qq : PyData → PyData → Prop} {P2 : PyData → PyData → Prop} {Q2 : PyData → PyData → PyData → Prop}
theorem DaT.dict {Hi H : Hp} {v : V} {z : List (PyData × PyData)} (h : DaT Y K Hi H v (.dict z)) : Da K Hi v (.dict z) := by
  rcases h with h | ⟨a, vs, ds', h1, h2, _⟩
  · exact h
  · cases h2
/-- isinstance, of a value that is none of our own -/
theorem ev_isPl {w : V} {u : Value} {b : Bool} (ha : EvT Y K es te (· = d)) (hd : Pl d) (hw : ClsV w u) (hk : PySem.W.kitOne K (.type (tyN d)) u = some b) : EvD Y K es (tCB (rIsi K) (tCons te (tCons (tC w) tNil))) (· = .bool b) := fun H0i H0 Hi H σ s Q q =>
  ha H0i H0 Hi H σ s _ fun v a Hi1 H1 f1 va pa => by
    subst pa
    exact ⟨v, w, _, u, b, rfl, hw, tyX_pl hd (va.full f1.sub), hk, q _ _ Hi1 H1 f1 (.bl b) rfl⟩
theorem cb_lenO {n : Int} (hl : ks.length = ds.length) (hp : P (objD c ks ds)) (hq : ∀ d, Qq (objD c ks ds) d → d = .int n) (h0 : 0 ≤ n) (h1 : n < 2 ^ 63) : CbS Y K (rLenO (He.ga K c) (sp1 K P Qq)) [objD c ks ds] (· = .int n) := cb_of fun Hi H vs p hv Q q => by
  cases hv with
  | cons g1 g2 =>
    cases g2
    have hd := g1.dict
    obtain ⟨a, dx, ws, rfl, e1, e2⟩ := hd.insI hl
    refine ⟨a, dx, _, rfl, p.sub _ _ e1, rfl, Y, Hi, [_], p, .cons hd .nil, ⟨_, rfl, hp⟩, fun v d Hi' H' f hv po => ?_⟩
    have e := hq d (po _ rfl)
    subst e
    cases hv
    exact ⟨n, rfl, h0, h1, q _ Hi' H' f (.int n)⟩
theorem cb_boolO {n : Int} (hl : ks.length = ds.length) (hp : P (objD c ks ds)) (hq : ∀ d, Qq (objD c ks ds) d → d = .int n) (h0 : 0 ≤ n) (h1 : n < 2 ^ 63) : CbS Y K (rTruO (He.ga K c) (sp1 K P Qq)) [objD c ks ds] (· = .bool (n != 0)) := cb_of fun Hi H vs p hv Q q => by
  cases hv with
  | cons g1 g2 =>
    cases g2
    have hd := g1.dict
    obtain ⟨a, dx, ws, rfl, e1, e2⟩ := hd.insI hl
    refine ⟨a, dx, _, rfl, p.sub _ _ e1, rfl, Y, Hi, [_], p, .cons hd .nil, ⟨_, rfl, hp⟩, fun v d Hi' H' f hv po => ?_⟩
    have e := hq d (po _ rfl)
    subst e
    cases hv
    exact ⟨n, rfl, h0, h1, q _ Hi' H' f (.bl _)⟩
theorem cb_strO {y : Str} (hl : ks.length = ds.length) (hp : P (objD c ks ds)) (hq : ∀ d, Qq (objD c ks ds) d → d = .str y) : CbS Y K (rStrO (He.ga K c) (sp1 K P Qq)) [objD c ks ds] (· = .str y) := cb_of fun Hi H vs p hv Q q => by
  cases hv with
  | cons g1 g2 =>
    cases g2
    have hd := g1.dict
    obtain ⟨a, dx, ws, rfl, e1, e2⟩ := hd.insI hl
    refine ⟨a, dx, _, rfl, p.sub _ _ e1, rfl, Y, Hi, [_], p, .cons hd .nil, ⟨_, rfl, hp⟩, fun v d Hi' H' f hv po => ?_⟩
    have e := hq d (po _ rfl)
    subst e
    cases hv
    exact ⟨y, rfl, q _ Hi' H' f (.str y)⟩
/-- what y's type is -/
def TyIs (K : PySem.W.Frag) (y : PyData) (t : Value) : Prop := ∀ (H : Hp) (v : V), Da K H v y → TyX K H v t
theorem tyIs_pl (h : Pl d) : TyIs K d (.type (tyN d)) := fun _ _ => tyX_pl h
theorem tyIs_obj (T : ObC K (He.ga K c)) (hl : ks.length = ds.length) : TyIs K (objD c ks ds) (.ref (He.ga K c)) := fun _ _ => tyX_obj T hl
end
section
variable {Y : Vol} {K : PySem.W.Frag} {es : List Ent} {te ue : TE} {c f : Str} {o x y d : PyData} {ks : List Str} {ds : List PyData} {P : PyData → Prop} {Qq : PyData → PyData → Prop} {P2 : PyData → PyData → Prop} {Q2 : PyData → PyData → PyData → Prop} {b : Bool} {t : Value}
/-- o == y, y data that stand -/
theorem ev_eqO (ha : EvD Y K es te (· = objD c ks ds)) (hb : EvD Y K es ue (· = y)) (hl : ks.length = ds.length) (ht : TyIs K y t) (nf : PySem.W.notFirst K (He.ga K c) t = true) (hp : P2 (objD c ks ds) y) (hq : ∀ d, Q2 (objD c ks ds) y d → d = .bool b) : EvD Y K es (tOp (rEqO K (He.ga K c) (sp2 K P2 Q2)) te ue) (· = .bool b) := fun H0i H0 Hi H σ s Q q =>
  ha H0i H0 Hi H σ s _ fun v d Hi1 H1 f1 hv e1 => hb H0i H0 Hi1 H1 σ (s.step f1) _ fun w d2 Hi2 H2 f2 hw e2 => by
    subst e1 e2
    have hv2 := Da.mono f2.hi _ _ hv
    obtain ⟨a, dx, ws, rfl, g1, g2⟩ := hv2.insI hl
    refine ⟨a, dx, _, t, rfl, f2.sub _ _ g1, ht _ _ (Da.mono f2.sub _ _ hw), nf, rfl, Y, Hi2, [_, _], f2.pre, .cons hv2 (.cons hw .nil), ⟨_, _, rfl, hp⟩, fun r d Hi3 H3 f3 hr po => ?_⟩
    have e := hq d (po _ _ rfl)
    subst e
    cases hr
    exact ⟨b, rfl, q _ _ Hi3 H3 ((f1.trans f2).trans f3) (.bl b) rfl⟩
theorem ev_neO (ha : EvD Y K es te (· = objD c ks ds)) (hb : EvD Y K es ue (· = y)) (hl : ks.length = ds.length) (ht : TyIs K y t) (nf : PySem.W.notFirst K (He.ga K c) t = true) (hp : P2 (objD c ks ds) y) (hq : ∀ d, Q2 (objD c ks ds) y d → d = .bool b) : EvD Y K es (tOp (rNeO K (He.ga K c) (sp2 K P2 Q2)) te ue) (· = .bool (!b)) := fun H0i H0 Hi H σ s Q q =>
  ha H0i H0 Hi H σ s _ fun v d Hi1 H1 f1 hv e1 => hb H0i H0 Hi1 H1 σ (s.step f1) _ fun w d2 Hi2 H2 f2 hw e2 => by
    subst e1 e2
    have hv2 := Da.mono f2.hi _ _ hv
    obtain ⟨a, dx, ws, rfl, g1, g2⟩ := hv2.insI hl
    refine ⟨a, dx, _, t, rfl, f2.sub _ _ g1, ht _ _ (Da.mono f2.sub _ _ hw), nf, rfl, Y, Hi2, [_, _], f2.pre, .cons hv2 (.cons hw .nil), ⟨_, _, rfl, hp⟩, fun r d Hi3 H3 f3 hr po => ?_⟩
    have e := hq d (po _ _ rfl)
    subst e
    cases hr
    exact ⟨b, rfl, q _ _ Hi3 H3 ((f1.trans f2).trans f3) (.bl _) rfl⟩
/-- o.p, p a property -/
theorem ev_prop {E : XK} (ha : EvD Y K es te (· = objD c ks ds)) (hl : ks.length = ds.length) (hp : P (objD c ks ds)) : EvD Y K es (tProp (He.ga K c) (sp1 K P Qq) [] E te) (Qq (objD c ks ds)) := fun H0i H0 Hi H σ s Q q =>
  ha H0i H0 Hi H σ s _ fun v d Hi1 H1 f1 hv e1 => by
    subst e1
    obtain ⟨a, dx, ws, rfl, g1, g2⟩ := hv.insI hl
    refine ⟨a, dx, _, rfl, f1.sub _ _ g1, rfl, Y, Hi1, [_], f1.pre, .cons hv .nil, ⟨_, rfl, hp⟩, fun r d Hi3 H3 f3 hr po => ?_⟩
    exact q _ _ Hi3 H3 (f1.trans f3) hr (po _ rfl)
theorem lk_no {ks : List Str} {vs : List V} {m : Str} (h : m ∉ ks) : (ks.zip vs).lookup m = none := by
  induction ks generalizing vs with
  | nil => rfl
  | cons k ks ih =>
    cases vs with
    | nil => rfl
    | cons v vs =>
      rw [List.zip_cons_cons, List.lookup_cons]
      have h1 : (m == k) = false := by
        rw [beq_eq_false_iff_ne]
        exact fun e => h (e ▸ List.mem_cons_self)
      rw [h1]
      exact ih fun z => h (List.mem_cons_of_mem _ z)
/-- o.m(..), m a method of the class -/
theorem ev_methO {E : XK} {n : Nat} {tr : TA} {rs : List PyData} {m : Str} {pre : List PyData → Prop} {post : List PyData → PyData → Prop} (ha : EvD Y K es te (· = objD c ks ds)) (hl : ks.length = ds.length) (hm : m ∉ ks) (hr : ArD Y K es tr (· = rs)) (hn : rs.length + 1 = n) (hp : pre (objD c ks ds :: rs)) : EvD Y K es (tMeth (He.ga K c) m (spF K n pre post) [] E te tr) (post (objD c ks ds :: rs)) := fun H0i H0 Hi H σ s Q q =>
  ha H0i H0 Hi H σ s _ fun v d Hi1 H1 f1 hv e1 => by
    subst e1
    obtain ⟨a, dx, ws, rfl, g1, g2⟩ := hv.insI hl
    refine ⟨a, dx, _, rfl, f1.sub _ _ g1, lk_no hm, hr H0i H0 Hi1 H1 σ (s.step f1) _ fun vs ds' Hi2 H2 f2 hw e2 => ?_⟩
    subst e2
    rw [List.append_nil]
    exact ⟨by rw [List.length_cons, hw.len, hn], Y, Hi2, _, f2.pre, .cons (Da.mono f2.hi _ _ hv) hw, hp, fun r d Hi3 H3 f3 hr po => q _ _ Hi3 H3 ((f1.trans f2).trans f3) hr po⟩
end
end FR
set_option maxRecDepth 100000
set_option maxHeartbeats 400000
namespace FR
open PySem PySem.Spec PySem.Calls PyProof.Rows
/-! ### enumerate over a tuple -/
section
variable {prog : Program} {w : World} {A : Around} {E : Value → Shared → Prop} {s : Shared} {it t : Addr} {i : Nat} {items : Array Value} {x : Value}
theorem isTI {M : Model} {h : Heap} {j : Nat} (h1 : h.IsTupleIter it t j) : PySem.W.Looks M h (isInstance (.ref it) (.type "tuple_iterator")) true := fun A Q E s kp q =>
  wpAny_isInstance (T := "tuple_iterator") (by obtain ⟨o, e1, e2, _⟩ := h1; exact ⟨o, kp _ _ e1, e2⟩) (by rfl) q
theorem nextOf_tuple {Q : Value → Shared → Prop} (h1 : s.heap.IsTupleIter it t i) (h2 : s.heap.IsTuple t items) (hx : items[i]? = some x) (q : ∀ h' : Heap, h'.IsTupleIter it t (i + 1) → Heap.SameBut it s.heap h' → Q x { s with heap := h' }) : wpAny (model prog w) A (Builtin.SmallTypes.nextOf (.ref it)) Q E s := by
  unfold Builtin.SmallTypes.nextOf
  refine wpAny_bind (wpAny_callSpecial?_slot (T := "tuple_iterator") h1.typeIs F.slot_tuple_iterator_next ?_)
  refine wpAny_call (codeAny_call_builtin (by decide +kernel) F.entry_tuple_iterator_next ?_)
  refine PySem.W.check_slot (i := "tuple_iterator.__next__") (self := .ref it) (rest := []) (kw := []) (owner := "tuple_iterator") (n := "__next__") (by decide +kernel) (by decide +kernel) (isTI h1) (F.args_tuple_iterator_next_1 _) ?_
  unfold Builtin.«tuple_iterator.__next__»
  show wpAny _ _ (slotArgs "__next__" 0 ⟨[.ref it], []⟩ >>= _) _ _ _
  refine wpAny_bind ?_
  show wpAny _ _ (pure _) _ _ _
  refine wpAny_pure ?_
  obtain ⟨o, e1, e2, e3⟩ := h1
  obtain ⟨ot, g1, g2, n, g3⟩ := h2
  refine wpAny_bind (wpAny_field e1 e3 (i := 0) (x := .ref t) rfl ?_)
  dsimp only
  rw [if_neg (by show ¬ ((Value.ref t == Value.none) = true); simp)]
  refine wpAny_bind (wpAny_field e1 e3 (i := 1) (x := .int (i : Int) 0) rfl ?_)
  refine wpAny_bind (wpAny_seqItems g1 g3 ?_)
  simp only [Int.toNat_natCast, hx]
  refine wpAny_bind (wpAny_setField e1 e3 (by show 1 < 2; decide) ?_)
  refine wpAny_pure (wpAny_pure ?_)
  refine q _ ⟨_, Heap.get?_update_self _ e1 ?_, ?_, ?_⟩ ⟨?_, fun b hb => Heap.get?_update_ne _ _ _ _ hb⟩
  · obtain ⟨c, d, data, sl⟩ := o
    have e3 : data = _ := e3
    subst e3
    rfl
  · obtain ⟨c, d, data, sl⟩ := o
    have e3 : data = _ := e3
    subst e3
    exact e2
  · obtain ⟨c, d, data, sl⟩ := o
    have e3 : data = _ := e3
    subst e3
    show Data.fields #[Value.ref t, Value.int ((i : Int) + 1) 0] = _
    rw [Int.natCast_add]
    rfl
  · exact Heap.size_update _ _ _
theorem nextOf_tuple_end {Q : Value → Shared → Prop} (hA : A.handled = none) (h1 : s.heap.IsTupleIter it t i) (h2 : s.heap.IsTuple t items) (hx : items[i]? = none) (q : ∀ (h' : Heap) (e : Addr), Heap.ExtBut it s.heap h' → (∃ o, h'.get? e = some o ∧ o.cls = Value.type "StopIteration") → E (.ref e) { s with heap := h' }) : wpAny (model prog w) A (Builtin.SmallTypes.nextOf (.ref it)) Q E s := by
  unfold Builtin.SmallTypes.nextOf
  refine wpAny_bind (wpAny_callSpecial?_slot (T := "tuple_iterator") h1.typeIs F.slot_tuple_iterator_next ?_)
  refine wpAny_call (codeAny_call_builtin (by decide +kernel) F.entry_tuple_iterator_next ?_)
  refine PySem.W.check_slot (i := "tuple_iterator.__next__") (self := .ref it) (rest := []) (kw := []) (owner := "tuple_iterator") (n := "__next__") (by decide +kernel) (by decide +kernel) (isTI h1) (F.args_tuple_iterator_next_1 _) ?_
  unfold Builtin.«tuple_iterator.__next__»
  show wpAny _ _ (slotArgs "__next__" 0 ⟨[.ref it], []⟩ >>= _) _ _ _
  refine wpAny_bind ?_
  show wpAny _ _ (pure _) _ _ _
  refine wpAny_pure ?_
  obtain ⟨o, e1, e2, e3⟩ := h1
  obtain ⟨ot, g1, g2, n, g3⟩ := h2
  refine wpAny_bind (wpAny_field e1 e3 (i := 0) (x := .ref t) rfl ?_)
  dsimp only
  rw [if_neg (by show ¬ ((Value.ref t == Value.none) = true); simp)]
  refine wpAny_bind (wpAny_field e1 e3 (i := 1) (x := .int (i : Int) 0) rfl ?_)
  refine wpAny_bind (wpAny_seqItems g1 g3 ?_)
  simp only [Int.toNat_natCast, hx]
  refine wpAny_bind (wpAny_rule (wpAny_bind (wpAny_setField e1 e3 (by show 0 < 2; decide) ?_)))
  unfold Builtin.SmallTypes.stopIteration
  unfold newExc
  refine wpAny_bind ?_
  repeat wp_step
  refine wpAny_raiseNew_none hA ?_
  refine q _ _ (fun b ob hb e => ?_) ⟨_, Heap.get?_push_at rfl rfl, rfl⟩
  exact Heap.get?_push_of_some _ (Heap.get?_push_of_some _ ((Heap.get?_update_ne _ _ _ _ hb).trans e))
theorem draws_tuple (hA : A.handled = none) (hne : t ≠ it) : Draws prog w A it [it, t] items.size (fun i v => items[i]? = some v) fun i h => h.IsTupleIter it t i ∧ h.IsTuple t items where
  live := fun i h ⟨⟨o, e, _⟩, _⟩ => ⟨o, e⟩
  frame := fun i h h' ⟨⟨o, e1, e2⟩, ⟨o2, g1, g2⟩⟩ k => ⟨⟨o, k it (by simp) o e1, e2⟩, ⟨o2, k t (by simp) o2 g1, g2⟩⟩
  item := fun i s Q E hi ⟨h1, h2⟩ k => by
    have hx : items[i]? = some items[i] := Array.getElem?_eq_getElem hi
    refine nextOf_tuple h1 h2 hx fun h' j1 j2 => k _ h' s.toks hx ⟨j1, ?_⟩ j2
    obtain ⟨o, g1, g2⟩ := h2
    exact ⟨o, (j2.2 t hne).trans g1, g2⟩
  done := fun s Q E ⟨h1, h2⟩ k => nextOf_tuple_end hA h1 h2 (by simp) k
end
end FR
set_option maxRecDepth 100000
set_option maxHeartbeats 400000
namespace FR
open PySem PySem.Spec PySem.Calls PyProof.Rows L2
/-! ### for i, x in enumerate(t), t a tuple -/
def IteT (K : PySem.W.Frag) (a : Addr) : It where
  go := fun i H => ∃ xs x, SqT K H a xs ∧ xs[i]? = some x
  yld := fun i H v H' => ∃ T x, v = .ref T ∧ H T = none ∧ H' = upd H T (.tup [.int i, x]) ∧ ∀ xs, SqT K H a xs → xs[i]? = some x
  stop := fun i H => ∃ xs, SqT K H a xs ∧ xs.length ≤ i
theorem vals_get : ∀ {xs : List V} {us : List Value} {i : Nat} {u : Value}, Vals xs us → us[i]? = some u → ∃ x, xs[i]? = some x ∧ RelV x u
  | _, _, _, _, .nil, e => by simp at e
  | _, _, 0, _, .cons h _, e => by
    simp at e
    subst e
    exact ⟨_, rfl, h⟩
  | _, _, i + 1, u, .cons _ t, e => by
    obtain ⟨v, e1, h1⟩ := vals_get (i := i) (u := u) t (by simpa using e)
    exact ⟨v, by simpa using e1, h1⟩
theorem vals_len : ∀ {xs : List V} {us : List Value}, Vals xs us → xs.length = us.length
  | _, _, .nil => rfl
  | _, _, .cons _ t => by rw [List.length_cons, List.length_cons, vals_len t]
theorem turn_enumT {P : Program} {w : World} {K : PySem.W.Frag} {elts : List Expr} {kk : Nat} {tpos : Pos} (a e it : Addr) : Turn P w K (.Tuple elts kk tpos) (IteT K a) [e, it] e fun i h => (∃ old, IsEnum h e it (i : Int) old) ∧ h.IsTupleIter it a i ∧ e ≠ it where
  mem := by simp
  obj := fun i h ⟨⟨old, h1⟩, ⟨o, h2, _, h3⟩, _⟩ b hb => by
    rcases List.mem_cons.mp hb with rfl | hb
    · exact ⟨_, h1, fun v => by simp⟩
    · rw [List.mem_singleton] at hb
      subst hb
      exact ⟨o, h2, fun v => by rw [h3]; simp⟩
  keep := fun i h h' ⟨⟨old, h1⟩, ⟨o, h2, h3⟩, ne⟩ k => ⟨⟨old, k e (by simp) _ h1⟩, ⟨o, k it (by simp) _ h2, h3⟩, ne⟩
  self := fun A i s Q E ⟨⟨old, h1⟩, _, _⟩ q => wpAny_pyIter_enum h1 q
  done := fun X eP ew eK hc i pins s σ H E I fp ⟨⟨old, h1⟩, h2, ne⟩ ⟨xs, hs, hl⟩ => by
    subst eP ew eK
    obtain ⟨its, hv, ht, _⟩ := I.tuple hs
    have hd : X.A.in1.handled = none := I.ok.hd hc
    have D : Draws X.prog X.w X.A.in1 it [it, a] 0 (fun _ _ => False) fun _ h => h.IsTupleIter it a i ∧ h.IsTuple a its.toArray :=
      { live := fun _ h ⟨⟨o, e, _⟩, _⟩ => ⟨o, e⟩
        frame := fun _ h h' ⟨⟨o, e1, e2⟩, ⟨o2, g1, g2⟩⟩ k => ⟨⟨o, k it (by simp) o e1, e2⟩, ⟨o2, k a (by simp) o2 g1, g2⟩⟩
        item := fun j s Q E hj _ _ => absurd hj (Nat.not_lt_zero _)
        done := fun s Q E ⟨j1, j2⟩ k => nextOf_tuple_end hd j1 j2 (by
          have := vals_len hv
          simp
          omega) k }
    refine wpAny_pyNext_enum_endD D h1 ⟨h2, ht⟩ fun h' ex => ⟨rfl, ?_⟩
    exact I.turnedL (ch := [it]) (fun b o hb e => ex b o (by simpa using hb) e) (fun b hb => fp b (List.mem_cons_of_mem _ hb))
  item := fun X eP ew eK hc i pins s σ H E I fp ⟨⟨old, h1⟩, h2, ne⟩ ⟨xs, x0, hs, hx0⟩ => by
    subst eP ew eK
    obtain ⟨its, hv, ht, _⟩ := I.tuple hs
    have hd : X.A.in1.handled = none := I.ok.hd hc
    have na : a ≠ it := fun z => by
      subst z
      obtain ⟨o1, a1, a2, _⟩ := ht
      obtain ⟨o2, b1, b2, _⟩ := h2
      rw [a1] at b1
      cases b1
      rw [a2] at b2
      injection b2 with b2
      exact absurd b2 (by decide)
    have ne2 : e ≠ a := fun z => by
      subst z
      obtain ⟨o1, a1, a2, _⟩ := ht
      have h1 : s.heap.get? e = some _ := h1
      rw [a1] at h1
      injection h1 with h1
      subst h1
      injection a2 with a2
      exact absurd a2 (by decide)
    have D := draws_tuple (prog := X.prog) (w := X.w) (A := X.A.in1) (items := its.toArray) hd na
    have W := WalksT.enumerateD D e ne (by simp [ne, ne2]) (by simp)
    have hi : i < its.toArray.size := by
      have h5 := vals_len hv
      have h6 : i < xs.length := by
        rcases Nat.lt_or_ge i xs.length with z | z
        · exact z
        · rw [List.getElem?_eq_none z] at hx0
          cases hx0
      simp
      omega
    refine W.item i s _ _ hi ⟨⟨old, h1⟩, h2, ht⟩ fun T vals h' tk ⟨t, u, hu, ev⟩ hT hTup hMid kp => ⟨.ref T, rfl, ?_⟩
    refine W.go elts kk tpos i T _ _ _ hMid fun h'' hst kp2 => ?_
    have hTn : T ∉ [e, it] := W.apart i T _ hMid
    obtain ⟨xv, hxv, rxv⟩ := vals_get (i := i) hv (by simpa using hu)
    have kall : ∀ (b : Addr) (o : Obj), ¬ b ∈ [e, it] → s.heap.get? b = some o → h''.get? b = some o := fun b o hb eo => kp2 b o hb (kp b o hb eo)
    have hTf : H T = none := I.hok.fresh hT
    have ok : ObjOk X.prog X.w (upd H T (.tup [.int i, xv])) h'' T (.tup [.int i, xv]) := by
      refine ⟨by show 2 ≤ sizeLine; decide, [Value.int i t, u], .cons ⟨t, rfl⟩ (.cons rxv .nil), ?_⟩
      subst ev
      obtain ⟨o, g1, g2⟩ := hTup
      exact ⟨o, kp2 T o hTn g1, g2⟩
    refine ⟨.ref T, upd H T (.tup [.int i, xv]), I.turnedNew (ch := [e, it]) kall fp hT ok, rfl, ⟨T, xv, rfl, hTf, rfl, fun ys hy => ?_⟩, ⟨hst.1, hst.2.1, ne⟩, fun b hb => ?_⟩
    · rw [I.tuple_inj hy hs]
      exact hxv
    · rw [upd_ne fun (z : b = T) => hTn (z ▸ hb)]
      exact (fp b hb).1
end FR
set_option maxRecDepth 100000
set_option maxHeartbeats 400000
namespace FR
open PySem PySem.Spec PySem.Calls PyProof.Rows L2
theorem wpAny_stack {M : Model} {A : Around} {E : Value → Shared → Prop} {s : Shared} {Q : List (Code × Pos) → Shared → Prop} (h : ∀ st, Q st s) : wpAny M A stack Q E s := by
  intro Γ p hΓ
  unfold stack
  simp only [Sem.wp]
  exact h _
theorem wpAny_ite2 {α : Type} {M : Model} {A : Around} {E : Value → Shared → Prop} {s : Shared} {c : Prop} [Decidable c] {m1 m2 : Sem α} {Q : α → Shared → Prop} (h1 : wpAny M A m1 Q E s) (h2 : wpAny M A m2 Q E s) : wpAny M A (if c then m1 else m2) Q E s := by
  split
  · exact h1
  · exact h2
theorem call_enumT {prog : Program} {w : World} {A : Around} {E : Value → Shared → Prop} {s : Shared} {a : Addr} {items : Array Value} {Q : Value → Shared → Prop} (h : s.heap.IsTuple a items)
    (hq : Q (.ref (s.heap.objs.size + 1)) { s with heap := (s.heap.push { cls := Value.type "tuple_iterator", data := Data.fields #[Value.ref a, Value.int 0 0] }).push { cls := Value.type "enumerate", data := Data.fields #[Value.none, Value.bool false, Value.ref s.heap.objs.size, rawInt 0, Value.none, Value.none] } }) :
    wpAny (model prog w) A (call (.type "enumerate") [.ref a]) Q E s := by
  refine callType_newIn (S := fun A R s => s.heap.IsTuple a items ∧ R (.ok (.ret (.ref (s.heap.objs.size + 1)))) { s with heap := (s.heap.push { cls := Value.type "tuple_iterator", data := Data.fields #[Value.ref a, Value.int 0 0] }).push { cls := Value.type "enumerate", data := Data.fields #[Value.none, Value.bool false, Value.ref s.heap.objs.size, rawInt 0, Value.none, Value.none] } }) F.called_enumerate (by decide) (F.typeCall_enumerate_1 _) (F.newCall_enumerate_1 _) (fun obj => F.args_object_init_2 _ _) F.entry_enumerate_new ?_ ?_
  · intro A R s ⟨ht, h⟩
    unfold Builtin.«enumerate.__new__»
    repeat wp_step
    refine wpAny_of_eq sub_enumerate ?_
    dsimp only
    rw [if_neg (by simp)]
    refine wpAny_pure ?_
    dsimp only
    rw [if_pos (by rfl)]
    unfold Builtin.SmallTypes.calledThroughType
    refine wpAny_bind (wpAny_bind (wpAny_stack fun st => wpAny_pure ?_))
    have fin : wpAny (model prog w) A.in1 (do
          let it ← pyIter (.ref a)
          let r ← Builtin.SmallTypes.newRecord (.type "enumerate") (Builtin.SmallTypes.ownedTupleFields ++ [it, rawInt 0, .none, .none])
          ret r) (fun fin s' => match fin with
        | Fin.done f => R (Except.ok f) s'
        | Fin.again c' => c'.quiet = true ∧ codeAny (model prog w) A c' R s') (fun e s' => R (Except.error e) s') s := by
      refine wpAny_bind (wpAny_pyIter_tuple ht ?_)
      unfold Builtin.SmallTypes.newRecord Builtin.SmallTypes.ownedTupleFields
      repeat wp_step
      show R _ _
      rw [Heap.size_push]
      exact h
    refine wpAny_ite2 ?_ ?_
    · refine wpAny_bind ?_
      show wpAny _ _ (pure (Value.ref a, none)) _ _ _
      exact wpAny_pure fin
    · refine wpAny_bind ?_
      show wpAny _ _ (pure (Value.ref a, none)) _ _ _
      exact wpAny_pure fin
  · exact ⟨h, ⟨_, by heap_get, rfl⟩, hq⟩
end FR
set_option maxRecDepth 100000
set_option maxHeartbeats 400000
namespace FR
open PySem PySem.Spec PySem.Calls PyProof.Rows L2
def iEnumT (K : PySem.W.Frag) (ta : TA) : TI := fun σ H R => ta σ H fun vs H1 => ∃ a xs, vs = [.ref a] ∧ SqT K H1 a xs ∧ R (IteT K a) H1
theorem pi_enumT {X : Cx} {e : Expr} {ta : TA} {p pos tpos : Pos} {elts : List Expr} {kk : Nat} (hg : Gl X "enumerate") (hm : X.mg "enumerate" = none) (ha : PA X [e] ta) (hs : starEach [e] X.env = [(false, eval e X.env)] := by rfl) :
    PI X (.Tuple elts kk tpos) (.Call (.Name "enumerate" p) [e] [] pos) (iEnumT X.K ta) := by
  constructor
  intro pins s σ H R I h
  refine wpAny_Call_NameR (L2.ld_blt I hg hm (u := .type "enumerate") (by decide +kernel) ?_)
  refine PyProof.Rows.callWith_type1 (thn (ha.run pos pins s σ H _ I h) fun us s1 ⟨vs, H1, I1, rv, a, xs, ev, hq, q⟩ => ?_) hs
  subst ev
  obtain ⟨u, rfl, ru⟩ := vals1 rv
  obtain rfl : u = Value.ref a := ru
  obtain ⟨its, hv, ht, _⟩ := I1.tuple hq
  refine call_enumT ht ?_
  have hE : IsEnum ((s1.heap.push { cls := Value.type "tuple_iterator", data := Data.fields #[Value.ref a, Value.int 0 0] }).push { cls := Value.type "enumerate", data := Data.fields #[Value.none, Value.bool false, Value.ref s1.heap.objs.size, rawInt 0, Value.none, Value.none] }) (s1.heap.objs.size + 1) s1.heap.objs.size ((0 : Nat) : Int) .none := Heap.get?_push_at (Heap.size_push _ _).symm rfl
  refine wpAny_pyIter_enum hE ?_
  have kp : ∀ (b : Addr) (o : Obj), s1.heap.get? b = some o → ((s1.heap.push { cls := Value.type "tuple_iterator", data := Data.fields #[Value.ref a, Value.int 0 0] }).push { cls := Value.type "enumerate", data := Data.fields #[Value.none, Value.bool false, Value.ref s1.heap.objs.size, rawInt 0, Value.none, Value.none] }).get? b = some o := fun b o e => Heap.get?_push_of_some _ (Heap.get?_push_of_some _ e)
  refine ⟨s1.heap.objs.size + 1, [s1.heap.objs.size + 1, s1.heap.objs.size], _, IteT X.K a, H1, rfl, I1.kept (t' := s1.toks) kp, turn_enumT a _ _, ⟨⟨_, hE⟩, ⟨_, by heap_get, rfl, rfl⟩, Nat.succ_ne_self _⟩, fun b hb => ?_, q⟩
  have hb2 : s1.heap.objs.size ≤ b := by
    rcases List.mem_cons.mp hb with e | hb
    · rw [e]; exact Nat.le_succ _
    · rw [List.mem_singleton] at hb
      rw [hb]; exact Nat.le_refl _
  exact I1.fpOk hb2 (I1.hok.fresh hb2)
/-! enumerate over a list or a tuple, in the logic -/
def iEnumU (K : PySem.W.Frag) (ta : TA) : TI := fun σ H R => iEnum K ta σ H R ∨ iEnumT K ta σ H R
theorem pi_enumU {X : Cx} {e : Expr} {ta : TA} {p pos tpos : Pos} {elts : List Expr} {kk : Nat} (ha : PA X [e] ta) (hg : Gl X "enumerate" := by rfl) (hm : X.mg "enumerate" = none := by rfl) (hs : starEach [e] X.env = [(false, eval e X.env)] := by rfl) :
    PI X (.Tuple elts kk tpos) (.Call (.Name "enumerate" p) [e] [] pos) (iEnumU X.K ta) := PI.or (pi_enum hg hm ha hs) (pi_enumT hg hm ha hs)
end FR
set_option maxRecDepth 100000
set_option maxHeartbeats 400000
namespace FR
open PySem PySem.Spec PySem.Calls PyProof.Rows L2
theorem for_enumX {S : Hp → List V → Prop} {J : It} {g : TG} {tb : TS} {D : Ends} {xs : List V} {σ : L2.St} {H : Hp}
    (hgo : ∀ i H x, S H xs → xs[i]? = some x → J.go i H) (hst : ∀ i H, S H xs → xs.length ≤ i → J.stop i H)
    (hy : ∀ i H v H', S H xs → J.yld i H v H' → ∃ T x, v = .ref T ∧ H T = none ∧ H' = upd H T (.tup [.int i, x]) ∧ xs[i]? = some x)
    (W : Nat → L2.St → Hp → Prop) (h0 : W 0 σ H) (hs : ∀ k σ H, W k σ H → S H xs)
    (step : ∀ k x σ H T, xs[k]? = some x → W k σ H → H T = none → g (.ref T) σ (upd H T (.tup [.int k, x])) fun σ2 H2 => tb { nx := W (k + 1), rt := D.rt, bk := D.nx, ct := W (k + 1) } σ2 H2)
    (fin : ∀ σ H, W xs.length σ H → D.nx σ H) :
    ∃ W' : Nat → Nat → L2.St → Hp → Prop, (∃ m, W' 0 m σ H) ∧ ∀ (i m : Nat) (σ : L2.St) (H : Hp), W' i m σ H →
      J.stop i H ∧ D.nx σ H ∨ J.go i H ∧ ∃ N : L2.St → Hp → Prop, (∀ σ' H', N σ' H' → ∃ m', m' < m ∧ W' (i + 1) m' σ' H') ∧ ∀ x H', J.yld i H x H' → g x σ H' fun σ2 H2 => tb { nx := N, rt := D.rt, bk := D.nx, ct := N } σ2 H2 := by
  refine ⟨fun i m σ H => i + m = xs.length ∧ W i σ H, ⟨xs.length, Nat.zero_add _, h0⟩, fun i m σ H ⟨e, w⟩ => ?_⟩
  have sq := hs i σ H w
  cases hx : xs[i]? with
  | none =>
    have hl : xs.length ≤ i := List.getElem?_eq_none_iff.mp hx
    have ei : i = xs.length := by omega
    subst ei
    exact .inl ⟨hst _ _ sq hl, fin _ _ w⟩
  | some x =>
    have hl : i < xs.length := by
      rcases Nat.lt_or_ge i xs.length with z | z
      · exact z
      · rw [List.getElem?_eq_none z] at hx
        cases hx
    refine .inr ⟨hgo _ _ x sq hx, W (i + 1), fun σ' H' w' => ⟨m - 1, by omega, by omega, w'⟩, fun v H' y => ?_⟩
    obtain ⟨T, x', rfl, hT, rfl, hx'⟩ := hy _ _ _ _ sq y
    exact step i x' σ H T hx' w hT
section
variable {Y : Vol} {K : PySem.W.Frag} {es : List Ent} {te : TE} {t1 : TS} {O : Out}
abbrev gPair (K : PySem.W.Frag) (i j : Nat) : TG := gTup K 2 (gCons (gName i) (gCons (gName j) gNil))
/-- for i, x in enumerate(xs) -/
theorem ss_forE {i j : Nat} {d : PyData} {ds : List PyData} (h : EvD Y K es te (· = d)) (hd : d = .list ds ∨ d = .tuple ds) (Inv : Nat → List Ent → Prop) (h0 : Inv 0 es)
    (hs : ∀ k x e, ds[k]? = some x → Inv k e → StS Y K ((e.set i (.dat (.int (k : Int)))).set j (.dat x)) t1 { nx := Inv (k + 1), ct := Inv (k + 1), bk := O.nx, rt := O.rt }) (he : ∀ e, Inv ds.length e → O.nx e) : StS Y K es (tFor (iEnumU K (tCons te tNil)) (gPair K i j) t1) O := fun H0i H0 Hi H σ s Dn n b c r => by
  have key : ∀ (J : It) (S : Hp → List V → Prop) (xs : List V) (Hi1 H1 : Hp), FR.Fr Y Hi H Hi1 H1 → DaAll K Hi1 xs ds → (∀ i H x, S H xs → xs[i]? = some x → J.go i H) → (∀ i H, S H xs → xs.length ≤ i → J.stop i H) → (∀ i H v H', S H xs → J.yld i H v H' → ∃ T x, v = .ref T ∧ H T = none ∧ H' = upd H T (.tup [.int i, x]) ∧ xs[i]? = some x) → (∀ Hi' H', Same Hi1 Hi' → Same Hi' H' → S H' xs) →
      ∃ W' : Nat → Nat → L2.St → Hp → Prop, (∃ m, W' 0 m σ H1) ∧ ∀ (i' m : Nat) (σ : L2.St) (H : Hp), W' i' m σ H →
      J.stop i' H ∧ Dn.nx σ H ∨ J.go i' H ∧ ∃ N : L2.St → Hp → Prop, (∀ σ' H', N σ' H' → ∃ m', m' < m ∧ W' (i' + 1) m' σ' H') ∧ ∀ x H', J.yld i' H x H' → gPair K i j x σ H' fun σ2 H2 => t1 { nx := N, rt := Dn.rt, bk := Dn.nx, ct := N } σ2 H2 := by
    intro J S xs Hi1 H1 f1 hxs hgo hst hy hS
    refine for_enumX (S := S) hgo hst hy (fun k σ' H' => ∃ Hi' e', StIs Y K H0i H0 Hi' H' σ' e' ∧ Same Hi1 Hi' ∧ Inv k e') ⟨Hi1, es, s.step f1, Same.refl _, h0⟩ (fun k σ' H' ⟨Hi', e', s', sm, _⟩ => hS Hi' H' sm s'.fr.sub) (fun k x σ' H' T hx ⟨Hi', e', s', sm, iv⟩ hT => ?_) (fun σ' H' ⟨Hi', e', s', sm, iv⟩ => ?_)
    · obtain ⟨x', hd1, hd2⟩ := hxs.get' hx
      have g := Fr.alloc s'.pre hT (o := .tup [.int (k : Int), x]) not_tb_tup
      refine ⟨T, [.int (k : Int), x], rfl, .inl (.inl upd_same), rfl, _, _, rfl, _, _, rfl, rfl, ?_⟩
      have st := ((s'.step g).setDat (i := i) (.int (k : Int))).setDat (i := j) (Da.mono (sm.trans g.hi) _ _ hd2)
      exact hs k x' e' hd1 iv H0i H0 _ _ _ st _ (fun Hi2 H2 σ2 e2 m s3 i2 => ⟨Hi2, e2, s3, (sm.trans g.hi).trans m, i2⟩) (fun Hi2 H2 σ2 e2 m s3 i2 => n _ _ _ e2 (f1.hi.trans ((sm.trans g.hi).trans m)) s3 i2) (fun Hi2 H2 σ2 e2 m s3 i2 => ⟨Hi2, e2, s3, (sm.trans g.hi).trans m, i2⟩) r
    · rw [hxs.len] at iv
      exact n _ _ _ e' (f1.hi.trans sm) s' (he e' iv)
  rcases hd with e | e
  · refine .inl (h H0i H0 Hi H σ s _ fun v d' Hi1 H1 f1 hv ed => ?_)
    subst ed e
    cases hv with
    | @lst a xs _ ha hxs =>
      have sq0 : SqL K H1 a xs := .inl (.inl (f1.sub _ _ ha))
      refine ⟨a, xs, rfl, sq0, key (Ite K a) (fun H' ys => H' a = some (.lst ys)) xs Hi1 H1 f1 hxs (fun i H x sq hx => ⟨xs, x, .inl (.inl sq), hx⟩) (fun i H sq hl => ⟨xs, .inl (.inl sq), hl⟩) (fun i H v H' sq ⟨T, x, e1, e2, e3, e4⟩ => ⟨T, x, e1, e2, e3, e4 xs (.inl (.inl sq))⟩) (fun Hi' H' m1 m2 => m2 _ _ (m1 _ _ ha))⟩
  · refine .inr (h H0i H0 Hi H σ s _ fun v d' Hi1 H1 f1 hv ed => ?_)
    subst ed e
    cases hv with
    | @tup a xs _ ha hxs =>
      refine ⟨a, xs, rfl, sqt_mono f1.sub ha, key (IteT K a) (fun H' ys => SqT K H' a ys) xs Hi1 H1 f1 hxs (fun i H x sq hx => ⟨xs, x, sq, hx⟩) (fun i H sq hl => ⟨xs, sq, hl⟩) (fun i H v H' sq ⟨T, x, e1, e2, e3, e4⟩ => ⟨T, x, e1, e2, e3, e4 xs sq⟩) (fun Hi' H' m1 m2 => sqt_mono (m1.trans m2) ha)⟩
end
end FR
set_option maxRecDepth 100000
set_option maxHeartbeats 400000
namespace FR
open PySem PySem.Spec PySem.Calls PyProof.Rows L2
/-! ### the rules for own objects and the like, with K named -/
section
variable {X : Cx} {K : PySem.W.Frag} {e o a b : Expr} {es elts : List Expr} {f : Str} {p pos tpos apos : Pos} {ta tk : TA} {te ue : TE} {rest : List Expr} {kk n : Nat}
theorem kpe_fld (hK : X.K = K) (h : PE X e te) (hb : attributeBase e f X.env (eval e X.env) = eval e X.env := by rfl) : PE X (.Attribute e f pos) (tFld K te f) := by
  subst hK
  exact pe_fld h hb
theorem kpe_orT (hK : X.K = K) (h1 : PE X a te) (h2 : PE X (.BoolOp .Or (b :: rest) pos) ue) : PE X (.BoolOp .Or (a :: b :: rest) pos) (tOrT K te ue) := by
  subst hK
  exact pe_orT h1 h2
theorem kpa_star (hK : X.K = K) (h1 : PE X e te) (h2 : PA X es ta) : PA X (.Starred e p :: es) (StX.tStar K te ta) := by
  subst hK
  exact StX.pa_star h1 h2
theorem kpg_pair (hK : X.K = K) {x y : Str} {px py : Pos} {i j : Nat} (hc : X.calm = true) (hN : X.N.Nodup) (hi : X.N[i]? = some x) (hj : X.N[j]? = some y) (hx : Loc X.env.scope x) (hy : Loc X.env.scope y) (fx : X.fn x = true ∨ X.env.scope.names.lookup x = some .local := by first | exact Or.inl rfl | exact Or.inr rfl) (fy : X.fn y = true ∨ X.env.scope.names.lookup y = some .local := by first | exact Or.inl rfl | exact Or.inr rfl) : PG X (.Tuple [.Name x px, .Name y py] kk pos) (gPair K i j) := by
  subst hK
  exact pg_tup hc (pgs_cons (pg_name hN hi hx fx) (pgs_cons (pg_name hN hj hy fy) pgs_nil rfl) rfl) rfl rfl
theorem kpi_enum (hK : X.K = K) (ha : PA X [e] ta) (hg : Gl X "enumerate" := by rfl) (hm : X.mg "enumerate" = none) (hs : starEach [e] X.env = [(false, eval e X.env)] := by rfl) :
    PI X (.Tuple elts kk tpos) (.Call (.Name "enumerate" p) [e] [] pos) (iEnumU K ta) := by
  subst hK
  exact pi_enumU ha hg hm hs
theorem kop_inDa (hK : X.K = K) (hu : X.A.units + 64 < cLine) : OpR X (compareOp .In) (rInDa K false) := by
  subst hK
  exact op_inDa hu
theorem kop_notInDa (hK : X.K = K) (hu : X.A.units + 64 < cLine) : OpR X (compareOp .NotIn) (rInDa K true) := by
  subst hK
  exact op_notInDa hu
end
/-! split, in the logic -/
section
variable {Y : Vol} {K : PySem.W.Frag} {es : List Ent} {te ue : TE} {a b : Str}
theorem daAll_strs {H : Hp} : ∀ ns : List Str, DaAll K H (ns.map V.str) (ns.map PyData.str)
  | [] => .nil
  | n :: ns => .cons (.str n) (daAll_strs ns)
theorem ev_split (ha : EvD Y K es te (· = .str a)) (hb : EvD Y K es ue (· = .str b)) (h1 : (b.length == 0) = false) (h2 : a.length + 2 ≤ 1000000) : EvD Y K es (tM1 (fun x xs H Q => ∃ a b, x = V.str a ∧ xs = [V.str b] ∧ (b.length == 0) = false ∧ a.length + 2 ≤ sizeLine ∧ rNewStrs (Txt.split a b) H Q) te ue) (· = .list ((Txt.split a b).map .str)) := fun H0i H0 Hi H σ s Q q =>
  ha H0i H0 Hi H σ s _ fun v d Hi1 H1 f1 hv e1 => by
    subst e1
    cases hv
    refine ⟨⟨a, rfl⟩, hb H0i H0 Hi1 H1 σ (s.step f1) _ fun w d2 Hi2 H2 f2 hw e2 => ?_⟩
    subst e2
    cases hw
    refine ⟨a, b, rfl, rfl, h1, Nat.le_trans h2 (by decide), fun p hp => ?_⟩
    exact q _ _ _ _ ((f1.trans f2).trans (Fr.alloc f2.pre hp not_tb_lst)) (.lst upd_same (DaAll.mono (same_upd (f2.sub.free hp)) _ _ (daAll_strs _))) rfl
end
end FR
set_option maxRecDepth 100000
set_option maxHeartbeats 400000
namespace FR
open PySem PySem.Spec PySem.Calls PyProof.Rows L2
section
variable {X : Cx}
theorem op_is_non : OpR X (compareOp .Is) (fun x y H Q => y = .non ∧ Q (.bl (decide (x = .non))) H) := op_isN
theorem op_isnot_non : OpR X (compareOp .IsNot) (fun x y H Q => y = .non ∧ Q (.bl (!decide (x = .non))) H) := op_notN
end
section
variable {Y : Vol} {K : PySem.W.Frag} {es : List Ent} {te ue : TE} {d : PyData}
def isNo : PyData → Bool
  | .none => true
  | _ => false
theorem da_non {H : Hp} {v : V} (h : Da K H v d) : decide (v = .non) = isNo d := by
  cases h <;> rfl
theorem os_isN : OpS Y K (fun x y H Q => y = .non ∧ Q (.bl (decide (x = .non))) H) d .none (· = .bool (isNo d)) := os_of fun Hi H v w p ha hb Q q =>
  ⟨hb.none, by
    rw [da_non (ha.full p.sub)]
    exact q _ Hi H (Fr.refl p) (.bl _)⟩
theorem os_isnotN : OpS Y K (fun x y H Q => y = .non ∧ Q (.bl (!decide (x = .non))) H) d .none (· = .bool (!isNo d)) := os_of fun Hi H v w p ha hb Q q =>
  ⟨hb.none, by
    rw [da_non (ha.full p.sub)]
    exact q _ Hi H (Fr.refl p) (.bl _)⟩
end
/-! words -/
abbrev dW (ws : List (List Nat)) : PyData := .list (ws.map dS)
def AscW (ws : List (List Nat)) : Prop := ∀ w ∈ ws, Asc w
theorem AscW.take {ws : List (List Nat)} (h : AscW ws) (n : Nat) : AscW (ws.take n) := fun w hw => h w (List.mem_of_mem_take hw)
theorem AscW.drop {ws : List (List Nat)} (h : AscW ws) (n : Nat) : AscW (ws.drop n) := fun w hw => h w (List.mem_of_mem_drop hw)
theorem layW {ws : List (List Nat)} (h : AscW ws) : PyData.canLayAll0 (ws.map dS) = true := lay_all fun d hd => by
  obtain ⟨w, hw, rfl⟩ := List.mem_map.mp hd
  exact lay_A (h w hw)
theorem depthW (ws : List (List Nat)) : PyData.depthAll (ws.map dS) ≤ 0 := dp_all fun d hd => by
  obtain ⟨w, hw, rfl⟩ := List.mem_map.mp hd
  exact Nat.le_refl _
theorem shaped_W {ws : List (List Nat)} (h : AscW ws) : SeqAt.shaped (dW ws) = true := by
  show (PyData.canLayAll0 (ws.map dS) && decide (PyData.depthAll (ws.map dS) + 1 ≤ 64)) = true
  rw [layW h, Nat.le_zero.mp (depthW ws)]
  rfl
theorem eqvAll_W : ∀ (a b : List (List Nat)), PyData.eqvAll (a.map dS) (b.map dS) = decide (a = b)
  | [], [] => rfl
  | [], _ :: _ => rfl
  | _ :: _, [] => rfl
  | x :: xs, y :: ys => by
    show ((SX.S x == SX.S y) && PyData.eqvAll (xs.map dS) (ys.map dS)) = _
    rw [eqvAll_W xs ys]
    by_cases h : x = y
    · subst h
      simp
    · have h1 : (SX.S x == SX.S y) = false := by
        rw [beq_eq_false_iff_ne]
        exact fun z => h (SX.S_inj z)
      rw [h1]
      simp [h]
theorem eqv_W (a b : List (List Nat)) : (dW a).eqv (dW b) = decide (a = b) := eqvAll_W a b
section
variable {Y : Vol} {K : PySem.W.Frag}
theorem os_eqW {a b : List (List Nat)} (ha : AscW a) (hb : AscW b) : OpS Y K (rEqU K) (dW a) (dW b) (· = .bool (decide (a = b))) := (os_eqD (shaped_W ha) (shaped_W hb)).mono fun d e => by rw [e, eqv_W]
theorem hasDict_W : ∀ ws : List (List Nat), PyData.hasDictAll (ws.map dS) = false
  | [] => rfl
  | w :: ws => by
    show (false || PyData.hasDictAll (ws.map dS)) = false
    rw [hasDict_W ws]
    rfl
/-- a list of words in a tuple of such lists -/
theorem os_inW {neg : Bool} {a : List (List Nat)} {bs : List (List (List Nat))} (ha : AscW a) (hb : ∀ b ∈ bs, AscW b) : OpS Y K (rInDa K neg) (dW a) (.tuple (bs.map dW)) (· = .bool (if neg = true then !decide (a ∈ bs) else decide (a ∈ bs))) := by
  have e : ((bs.map dW).any fun z => z.eqv (dW a)) = decide (a ∈ bs) := by
    rw [List.any_map]
    by_cases h : a ∈ bs
    · rw [decide_eq_true h]
      exact List.any_eq_true.mpr ⟨a, h, by rw [Function.comp, eqv_W]; simp⟩
    · rw [decide_eq_false h]
      apply List.any_eq_false.mpr
      intro b hb2
      rw [Function.comp, eqv_W]
      simp
      exact fun z => h (z ▸ hb2)
  refine (os_inDa (neg := neg) (d := dW a) (ds := bs.map dW) (hasDict_W a) ?_ ?_ (layW ha) ?_).mono fun d ed => by rw [ed, e]
  · clear e hb
    induction bs with
    | nil => rfl
    | cons b bs ih =>
      show (PyData.hasDictAll (b.map dS) || PyData.hasDictAll (bs.map dW)) = false
      rw [hasDict_W b, ih]
      rfl
  · exact lay_all fun d hd => by
      obtain ⟨b, hb2, rfl⟩ := List.mem_map.mp hd
      exact layW (hb b hb2)
  · show PyData.depthAll (a.map dS) + 1 ≤ 60
    have := depthW a
    omega
end
end FR
set_option maxRecDepth 100000
set_option maxHeartbeats 400000
namespace FR
open PySem PySem.Spec PySem.Calls PyProof.Rows L2
/-! parts of lists of words -/
section
variable {Y : Vol} {K : PySem.W.Frag} {ds : List PyData} {ws : List (List Nat)} {k i j : Nat}
theorem six_neg {n d k : Nat} (h : 0 < k) : HT.sIx n d (some (-(k : Int))) = n - k := by
  show (if (-(k : Int)) < 0 then ((-(k : Int)) + (n : Int)).toNat else _) = _
  rw [if_pos (by omega)]
  omega
theorem cutD_mfrom (h : 0 < k) : cutD ds (some (-(k : Int))) none = ds.drop (ds.length - k) := by
  unfold cutD
  rw [HT.sIx_none, six_neg h, List.take_of_length_le (by rw [List.length_drop]; exact Nat.le_refl _)]
theorem cutD_mto (h : 0 < k) : cutD ds none (some (-(k : Int))) = ds.take (ds.length - k) := by
  unfold cutD
  rw [HT.sIx_none, six_neg h, List.drop_zero, Nat.sub_zero]
theorem cutD_mm (h : 0 < j) (h2 : 0 < k) : cutD ds (some (-(k : Int))) (some (-(j : Int))) = (ds.drop (ds.length - k)).take (ds.length - j - (ds.length - k)) := by
  unfold cutD
  rw [six_neg h, six_neg h2]
theorem cutD_to : cutD ds none (some (i : Int)) = ds.take i := by
  unfold cutD
  rw [HT.sIx_none, HT.sIx_nat, List.drop_zero, Nat.sub_zero, ← List.take_take, List.take_length]
theorem cutD_nn : cutD ds (some (i : Int)) (some (j : Int)) = (ds.drop i).take (j - i) := by
  unfold cutD
  rw [HT.sIx_nat, HT.sIx_nat]
  by_cases h1 : i ≤ ds.length
  · rw [Nat.min_eq_left h1]
    by_cases h2 : j ≤ ds.length
    · rw [Nat.min_eq_left h2]
    · have e : min j ds.length = ds.length := by omega
      rw [e, List.take_of_length_le (by rw [List.length_drop]; omega), List.take_of_length_le (by rw [List.length_drop]; omega)]
  · have e : min i ds.length = ds.length := by omega
    rw [e, List.drop_of_length_le (Nat.le_refl _), List.drop_of_length_le (by omega : ds.length ≤ i), List.take_nil, List.take_nil]
theorem sw_mfrom (h : 0 < k) : SlS Y K (rSlU K) (dW ws) (some (-(k : Int))) none (· = dW (ws.drop (ws.length - k))) := by
  have e : PyData.list (cutD (ws.map dS) (some (-(k : Int))) none) = dW (ws.drop (ws.length - k)) := by
    rw [cutD_mfrom h, List.length_map, ← List.map_drop]
  exact e ▸ ss_L
theorem sw_mto (h : 0 < k) : SlS Y K (rSlU K) (dW ws) none (some (-(k : Int))) (· = dW (ws.take (ws.length - k))) := by
  have e : PyData.list (cutD (ws.map dS) none (some (-(k : Int)))) = dW (ws.take (ws.length - k)) := by
    rw [cutD_mto h, List.length_map, ← List.map_take]
  exact e ▸ ss_L
theorem sw_mm (h : 0 < j) (h2 : 0 < k) : SlS Y K (rSlU K) (dW ws) (some (-(k : Int))) (some (-(j : Int))) (· = dW ((ws.drop (ws.length - k)).take (ws.length - j - (ws.length - k)))) := by
  have e : PyData.list (cutD (ws.map dS) (some (-(k : Int))) (some (-(j : Int)))) = dW ((ws.drop (ws.length - k)).take (ws.length - j - (ws.length - k))) := by
    rw [cutD_mm h h2, List.length_map, ← List.map_drop, ← List.map_take]
  exact e ▸ ss_L
theorem sw_to : SlS Y K (rSlU K) (dW ws) none (some (i : Int)) (· = dW (ws.take i)) := by
  have e : PyData.list (cutD (ws.map dS) none (some (i : Int))) = dW (ws.take i) := by
    rw [cutD_to, ← List.map_take]
  exact e ▸ ss_L
theorem sw_from : SlS Y K (rSlU K) (dW ws) (some (i : Int)) none (· = dW (ws.drop i)) := by
  have e : PyData.list (cutD (ws.map dS) (some (i : Int)) none) = dW (ws.drop i) := by
    rw [cut_from, ← List.map_drop]
  exact e ▸ ss_L
theorem sw_nn : SlS Y K (rSlU K) (dW ws) (some (i : Int)) (some (j : Int)) (· = dW ((ws.drop i).take (j - i))) := by
  have e : PyData.list (cutD (ws.map dS) (some (i : Int)) (some (j : Int))) = dW ((ws.drop i).take (j - i)) := by
    rw [cutD_nn, ← List.map_drop, ← List.map_take]
  exact e ▸ ss_L
theorem os_ixW {w : List Nat} (h : ws[i]? = some w) : OpS Y K (rIx K) (dW ws) (.int (i : Int)) (· = dS w) := os_ixL (by
  have hi : i < ws.length := by
    rcases Nat.lt_or_ge i ws.length with z | z
    · exact z
    · rw [List.getElem?_eq_none z] at h
      cases h
  unfold atI ixN
  rw [List.length_map, if_pos (by omega), if_pos (by omega)]
  show (ws.map dS)[(i : Int).toNat]? = _
  rw [Int.toNat_natCast, List.getElem?_map, h]
  rfl)
theorem os_ixWm {w : List Nat} (h1 : 0 < k) (h2 : k ≤ ws.length) (h : ws[ws.length - k]? = some w) : OpS Y K (rIx K) (dW ws) (.int (-(k : Int))) (· = dS w) := os_ixL (by
  unfold atI ixN
  rw [List.length_map, if_neg (by omega), if_pos (by omega)]
  show (ws.map dS)[(-(k : Int) + (ws.length : Int)).toNat]? = _
  rw [show (-(k : Int) + (ws.length : Int)).toNat = ws.length - k by omega, List.getElem?_map, h]
  rfl)
end
theorem dW_injW {a b : List (List Nat)} (h : dW a = dW b) : a = b := by
  have e : decide (a = b) = true := by
    rw [← eqv_W, h, eqv_W]
    simp
  exact of_decide_eq_true e
/-- the words without these last ones, and whether they stood there -/
def cutF (ws l : List (List Nat)) : List (List Nat) × Bool := if ws.drop (ws.length - l.length) = l then (ws.take (ws.length - l.length), true) else (ws, false)
theorem cutF_asc {ws l : List (List Nat)} (h : AscW ws) : AscW (cutF ws l).1 := by
  unfold cutF
  split
  · exact h.take _
  · exact h
theorem cutF_len {ws l : List (List Nat)} : (cutF ws l).1.length ≤ ws.length := by
  unfold cutF
  split
  · rw [List.length_take]
    exact Nat.min_le_right _ _
  · exact Nat.le_refl _
end FR
set_option maxRecDepth 100000
set_option maxHeartbeats 4000000
namespace FR
open PySem PySem.Spec PySem.Calls PyProof.Rows L2
section
variable {Y : Vol} {K : PySem.W.Frag} {es : List Ent} {tt : TT} {te : TE} {j : Nat}
/-- [e for x in range(lo, n) if t] -/
theorem ev_lcR2 {lo n : Int} {tl : TA} (h : ArD Y K es tl (· = [.int lo, .int n])) (p : Nat → Bool) (G : Nat → PyData → Prop) (ht : ∀ k : Nat, lo + (k : Int) < n → TsB Y K (es.set j (.dat (.int (lo + k)))) tt (· = p k)) (he : ∀ k : Nat, lo + (k : Int) < n → p k = true → EvD Y K (es.set j (.dat (.int (lo + k)))) te (G k)) (hl0 : -1000000 ≤ lo) (hl1 : lo ≤ 1000000) (hl : n < 1000000) (hl2 : -1000000 ≤ n) (hm : (n - lo).toNat < 1000000) :
    EvD Y K es (tLc (iRng2 tl) (gName j) tt te [j]) (fun r => ∃ ys, r = .list ys ∧ Paired G ((List.range (n - lo).toNat).filter p) ys) := fun H0i H0 Hi H σ s Q q => by
  refine h H0i H0 Hi H σ s _ fun vs ds Hi1 H1 f1 hv e => ?_
  subst e
  cases hv with
  | cons h1 h2 =>
    cases h1
    cases h2 with
    | cons h3 h4 =>
      cases h3
      cases h4
      have s1 := s.step f1
      refine ⟨lo, n, rfl, ⟨by omega, by omega, by omega, by omega⟩, fun Dl hD => ?_⟩
      refine lc_range (lo := lo) (n := (n - lo).toNat) (fun k H' => LcW Y K Hi1 H1 Dl (fun ys => Paired G (((List.range (n - lo).toNat).take k).filter p) ys) H') (LcW.init f1.pre hD (by rw [List.take_zero]; exact .nil)) (fun k H' hk w => ⟨wipe1 σ _, ?_⟩) (fun H' w => ?_)
      · have hd1 := range_get (m := (n - lo).toNat) hk
        exact LcW.turn (n := (n - lo).toNat) s1 hD w (fun ys py => by rw [← Paired.length py]; exact Nat.le_trans (List.length_filter_le _ _) (by rw [List.length_take, List.length_range]; exact Nat.min_le_right _ _)) (by omega) (Same.refl Hi1)
          (fun Hi' sm f => (s1.step f).turn (.int (lo + (k : Int)))) (fun Hi' f => f.hi) (ht k (by omega)) (fun e => he k (by omega) e)
          (fun ys y py e g => by rw [take_succ_filter hd1, if_pos e]; exact paired_snoc g py) (fun ys py e => by rw [take_succ_filter hd1, e, if_neg Bool.false_ne_true, List.append_nil]; exact py)
      · obtain ⟨Hi', ys, g, hd, rr⟩ := w.fin f1 hD
        have e : (List.range (n - lo).toNat).take (n - lo).toNat = List.range (n - lo).toNat := List.take_of_length_le (by rw [List.length_range]; exact Nat.le_refl _)
        rw [e] at rr
        exact q _ _ _ _ g hd ⟨ys, rfl, rr⟩
theorem ev_lcR2f {lo n : Int} {tl : TA} (p : Nat → Bool) (f : Nat → PyData) (h : ArD Y K es tl (· = [.int lo, .int n])) (ht : ∀ k : Nat, lo + (k : Int) < n → TsB Y K (es.set j (.dat (.int (lo + k)))) tt (· = p k)) (he : ∀ k : Nat, lo + (k : Int) < n → p k = true → EvD Y K (es.set j (.dat (.int (lo + k)))) te (· = f k)) (hl0 : -1000000 ≤ lo) (hl1 : lo ≤ 1000000) (hl : n < 1000000) (hl2 : -1000000 ≤ n) (hm : (n - lo).toNat < 1000000) :
    EvD Y K es (tLc (iRng2 tl) (gName j) tt te [j]) (· = .list (((List.range (n - lo).toNat).filter p).map f)) :=
  (ev_lcR2 h p (fun d y => y = f d) ht he hl0 hl1 hl hl2 hm).mono fun r ⟨ys, e, p⟩ => by rw [e, paired_map p]
theorem ev_lcR2d {lo n : Int} {tl : TA} (f : Nat → PyData) (h : ArD Y K es tl (· = [.int lo, .int n])) (he : ∀ k : Nat, lo + (k : Int) < n → EvD Y K (es.set j (.dat (.int (lo + k)))) te (· = f k)) (hl0 : -1000000 ≤ lo) (hl1 : lo ≤ 1000000) (hl : n < 1000000) (hl2 : -1000000 ≤ n) (hm : (n - lo).toNat < 1000000) :
    EvD Y K es (tLc (iRng2 tl) (gName j) tYes te [j]) (· = .list ((List.range (n - lo).toNat).map f)) :=
  (ev_lcR2 h (fun _ => true) (fun d y => y = f d) (fun _ _ => tb_yes) (fun d hd _ => he d hd) hl0 hl1 hl hl2 hm).mono fun r ⟨ys, e, p⟩ => by
    rw [List.filter_eq_self.mpr (fun _ _ => rfl)] at p
    rw [e, paired_map p]
end
/-! texts of small numbers -/
theorem log_small {i : Int} (h : i.natAbs < 10) : i.natAbs.log2 < 1920 := by
  have h1 : i.natAbs.log2 ≤ i.natAbs := Nat.log2_le_self _
  omega
def digN (n : Nat) : List Nat := [48 + n]
theorem dig_str : ∀ k : Fin 10, ((toString ((k.val : Nat) : Int) : String) : Str) = SX.S (digN k.val) := by decide +kernel
theorem dig_int : ∀ k : Fin 10, PySem.intText? (SX.S (digN k.val)) = some (k.val : Int) := by decide +kernel
section
variable {Y : Vol} {K : PySem.W.Frag}
theorem os_inWs {w : List Nat} {ws : List (List Nat)} : OpS Y K (rInU K) (dS w) (dW ws) (· = .bool (decide (w ∈ ws))) := by
  have e : dW ws = .list ((ws.map SX.S).map .str) := by
    show PyData.list _ = PyData.list _
    rw [List.map_map]
    rfl
  rw [e]
  refine os_inL.mono fun d ed => ?_
  rw [ed]
  congr 1
  by_cases h : w ∈ ws
  · rw [decide_eq_true h, decide_eq_true (List.mem_map.mpr ⟨w, h, rfl⟩)]
  · rw [decide_eq_false h, decide_eq_false]
    intro z
    obtain ⟨v, hv, ev⟩ := List.mem_map.mp z
    exact h (SX.S_inj ev ▸ hv)
theorem os_inWt {w : List Nat} {ws : List (List Nat)} : OpS Y K (rInU K) (dS w) (.tuple (ws.map dS)) (· = .bool (decide (w ∈ ws))) := by
  have e : (PyData.tuple (ws.map dS)) = .tuple ((ws.map SX.S).map .str) := by
    show PyData.tuple _ = PyData.tuple _
    rw [List.map_map]
    rfl
  rw [e]
  refine os_inT.mono fun d ed => ?_
  rw [ed]
  congr 1
  by_cases h : w ∈ ws
  · rw [decide_eq_true h, decide_eq_true (List.mem_map.mpr ⟨w, h, rfl⟩)]
  · rw [decide_eq_false h, decide_eq_false]
    intro z
    obtain ⟨v, hv, ev⟩ := List.mem_map.mp z
    exact h (SX.S_inj ev ▸ hv)
end
theorem asc_of {u : List Nat} (h : (u.all fun c => decide (c < 128)) = true) : Asc u := fun c hc => of_decide_eq_true (List.all_eq_true.mp h c hc)
theorem ascW_of {ws : List (List Nat)} (h : (ws.all fun u => u.all fun c => decide (c < 128)) = true) : AscW ws := fun u hu => asc_of (List.all_eq_true.mp h u hu)
/-! words of layers -/
abbrev wEvery : List Nat := [101, 118, 101, 114, 121]
abbrev wOwn : List Nat := [111, 119, 110]
abbrev wFor : List Nat := [102, 111, 114]
abbrev wTrue : List Nat := [116, 114, 117, 101]
abbrev wLook : List Nat := [108, 111, 111, 107]
abbrev wAdd : List Nat := [97, 100, 100]
abbrev wRow : List Nat := [114, 111, 119]
abbrev wLine : List Nat := [108, 105, 110, 101]
abbrev wAll : List Nat := [97, 108, 108]
abbrev wAt : List Nat := [97, 116]
abbrev wBack : List Nat := [98, 97, 99, 107]
abbrev wAhead : List Nat := [97, 104, 101, 97, 100]
abbrev wAround : List Nat := [97, 114, 111, 117, 110, 100]
abbrev wFirst : List Nat := [102, 105, 114, 115, 116]
abbrev wLast : List Nat := [108, 97, 115, 116]
/-- the texts of the numbers from a to b -/
def numsW (a b : Nat) : List (List Nat) := (List.range (b + 1 - a)).map fun k => digN (a + k)
def oInt : Option Nat → PyData
  | none => .none
  | some n => .int n
/-- the number that a sign tells -/
def dig1 : List Nat → Nat
  | [c] => c - 48
  | _ => 0
theorem dig1_of {a b : Nat} {w : List Nat} (hb : b < 10) (h : w ∈ numsW a b) : dig1 w < 10 ∧ w = digN (dig1 w) := by
  obtain ⟨k, hk, rfl⟩ := List.mem_map.mp h
  have hk := List.mem_range.mp hk
  have e : dig1 (digN (a + k)) = a + k := by show 48 + (a + k) - 48 = _; omega
  rw [e]
  exact ⟨by omega, rfl⟩
/-- the words without "every M" at the end, and M -/
def everF (ws : List (List Nat)) : List (List Nat) × Option Nat :=
  if (ws.drop (ws.length - 2)).take (ws.length - 1 - (ws.length - 2)) = [wEvery] ∧ ws.getLastD [] ∈ numsW 2 3 then (ws.take (ws.length - 2), some (dig1 (ws.getLastD []))) else (ws, none)
theorem oInt_inj {a b : Option Nat} (h : oInt a = oInt b) : a = b := by
  cases a with
  | none =>
    cases b with
    | none => rfl
    | some _ => cases h
  | some n =>
    cases b with
    | none => cases h
    | some m =>
      have h : PyData.int (n : Int) = .int (m : Int) := h
      injection h with h
      have : n = m := by omega
      rw [this]
/-- the width that a RANGE tells -/
def widF (ws : List (List Nat)) (m : Option Nat) : Nat :=
  if ws.length = 1 then 1 else if ws[1]? = some wAll then m.getD 1 else dig1 (ws[1]?.getD [])
end FR
set_option maxRecDepth 100000
set_option maxHeartbeats 400000
namespace FR
open PySem PySem.Spec PySem.Calls PyProof.Rows L2
theorem vals_app : ∀ {vs ws : List V} {us xs : List Value}, Vals vs us → Vals ws xs → Vals (vs ++ ws) (us ++ xs)
  | _, _, _, _, .nil, s => s
  | _, _, _, _, .cons h t, s => .cons h (vals_app t s)
section
variable {X : Cx} {x : Str} {C fI : Addr} {fd : FuncData} {ps fl ks : List Str} {n : Nat} {p pos : Pos} {e : Expr} {es : List Expr} {kws : List Keyword} {t tk : TA} {g : List Value → List Value → List Value} {gV : List V → List V → List V}
/-- C(a, .., k = b, ..), C an own class that keeps its parameters -/
theorem pe_mkO (hm : X.mg x = some (.ref C)) (M : Mk X.K C fI) (F : FnOk X.prog X.w X.K X.mg X.base CX0 1 fI fd ps (spIn C fl)) (hb : KBn X.K fd ps (n + 1) ks g gV) (hr : Room 2 X.A) (ha : PA X (e :: es) t) (hk : PK X kws tk) (hg : Gl X x := by rfl)
    (c1 : (backToKw pos (keywordEach kws X.env)).all (·.1.isSome) = true := by rfl) (c2 : (backToKw pos (keywordEach kws X.env)).filterMap (·.1) = ks := by rfl) (hdb : (x == ("__debug__" : Str)) = false := by decide) (he : starEach (e :: es) X.env = (false, eval e X.env) :: starEach es X.env := by rfl) (c3 : ((backTo pos (starEach (e :: es) X.env)).any (·.1) || (backToKw pos (keywordEach kws X.env)).any (·.1.isNone)) = false := by rfl) :
    PE X (.Call (.Name x p) (e :: es) kws pos) (tMakeK C n ks.length (spIn C fl) gV E0 t tk) :=
  pe_makeK M F hr hg hm hb (fun _ _ _ _ _ _ _ h => h.elim) ha hk c1 c2 hdb he c3
end
/-- what is known of an own class whose __init__ keeps its parameters, for calls with the keywords ks: the defaults' place -/
structure MkO (P : Program) (w : World) (K : PySem.W.Frag) (mg : Str → Option Value) (base : Heap) (x : Str) (fl : List Str) (n : Nat) (ks : List Str) (gV : List V → List V → List V) : Prop where
  gm : mg x = some (.ref (He.ga K x))
  ini : ∃ fI fd g, Mk K (He.ga K x) fI ∧ FnOk P w K mg base CX0 1 fI fd ("self" :: fl) (spIn (He.ga K x) fl) ∧ KBn K fd ("self" :: fl) (n + 1) ks g gV
theorem pe_mk1 {X : Cx} {x : Str} {fl ks : List Str} {n : Nat} {p pos : Pos} {e : Expr} {es : List Expr} {kws : List Keyword} {t tk : TA} {gV : List V → List V → List V} (h : MkO X.prog X.w X.K X.mg X.base x fl n ks gV) (hr : Room 2 X.A) (ha : PA X (e :: es) t) (hk : PK X kws tk) (hg : Gl X x := by rfl)
    (c1 : (backToKw pos (keywordEach kws X.env)).all (·.1.isSome) = true := by rfl) (c2 : (backToKw pos (keywordEach kws X.env)).filterMap (·.1) = ks := by rfl) (hdb : (x == ("__debug__" : Str)) = false := by decide) (he : starEach (e :: es) X.env = (false, eval e X.env) :: starEach es X.env := by rfl) (c3 : ((backTo pos (starEach (e :: es) X.env)).any (·.1) || (backToKw pos (keywordEach kws X.env)).any (·.1.isNone)) = false := by rfl) :
    PE X (.Call (.Name x p) (e :: es) kws pos) (tMakeK (He.ga X.K x) n ks.length (spIn (He.ga X.K x) fl) gV E0 t tk) := by
  obtain ⟨fI, fd, g, M, F, hb⟩ := h.ini
  exact pe_mkO h.gm M F hb hr ha hk hg c1 c2 hdb he c3
end FR
namespace FR
open PySem PySem.Spec PySem.Calls PyProof.Rows L2
theorem kpe_mk1 {X : Cx} {K : PySem.W.Frag} (hK : X.K = K) {x : Str} {fl ks : List Str} {n : Nat} {p pos : Pos} {e : Expr} {es : List Expr} {kws : List Keyword} {t tk : TA} {gV : List V → List V → List V} (h : MkO X.prog X.w K X.mg X.base x fl n ks gV) (hr : Room 2 X.A) (ha : PA X (e :: es) t) (hk : PK X kws tk) (hg : Gl X x := by rfl)
    (c1 : (backToKw pos (keywordEach kws X.env)).all (·.1.isSome) = true := by rfl) (c2 : (backToKw pos (keywordEach kws X.env)).filterMap (·.1) = ks := by rfl) (hdb : (x == ("__debug__" : Str)) = false := by decide) (he : starEach (e :: es) X.env = (false, eval e X.env) :: starEach es X.env := by rfl) (c3 : ((backTo pos (starEach (e :: es) X.env)).any (·.1) || (backToKw pos (keywordEach kws X.env)).any (·.1.isNone)) = false := by rfl) :
    PE X (.Call (.Name x p) (e :: es) kws pos) (tMakeK (He.ga K x) n ks.length (spIn (He.ga K x) fl) gV E0 t tk) := by
  subst hK
  exact pe_mk1 h hr ha hk hg c1 c2 hdb he c3
/-! spans -/
abbrev spanFl : List Str := ["back", "ahead", "distances", "every", "ends"]
abbrev spanD (a b : Bool) (ds : PyData) (m : Nat) (ends : List Int) : PyData := objD "Span" spanFl [.bool a, .bool b, ds, .int m, .tuple (ends.map .int)]
/-- the distances that a near text and an every tell -/
def distF (near : List Nat) (m : Nat) : PyData := if near = wAll then .none else .tuple (((List.range (dig1 near)).filter fun k => decide ((1 + k) % m = 0)).map fun k : Nat => PyData.int (1 + (k : Int)))
def wideF (way near : List Nat) (m : Nat) : PyData := spanD (decide (way ≠ wAhead)) (decide (way ≠ wBack)) (distF near m) m []
/-- the i-th word -/
def wrd (ws : List (List Nat)) (i : Nat) : List Nat := ws[i]?.getD []
theorem wrd_at {ws : List (List Nat)} {i : Nat} (h : i < ws.length) : ws[i]? = some (wrd ws i) := by
  unfold wrd
  rw [List.getElem?_eq_getElem h]
  rfl
/-- what a RANGE tells; None if it is none with this scope -/
def spanF (ws : List (List Nat)) (m : Option Nat) (scope : List Nat) : PyData :=
  if (decide (ws.length = 2) && (decide (wrd ws 0 ∈ [wBack, wAhead, wAround]) && decide (wrd ws 1 ∈ numsW 1 3 ++ [wAll]))) = true then wideF (wrd ws 0) (wrd ws 1) (m.getD 1)
  else if m.isSome = true then .none
  else if (decide (ws.length = 3) && (decide (wrd ws 0 = wAt) && (decide (wrd ws 1 ∈ numsW 1 3) && decide (wrd ws 2 ∈ [wBack, wAhead])))) = true then spanD (decide (wrd ws 2 = wBack)) (decide (wrd ws 2 = wAhead)) (.tuple [.int (dig1 (wrd ws 1))]) 1 []
  else if (decide (scope = wRow) && decide (ws = [wFirst])) = true then spanD true false .none 1 [0, 3]
  else if (decide (scope = wRow) && decide (ws = [wLast])) = true then spanD false true .none 1 [4, 3]
  else .none
section
variable {Y : Vol} {K : PySem.W.Frag} {es : List Ent} {ws : List (List Nat)} {i j : Nat}
theorem ev_wrd (h0 : es[j]? = some (.dat (dW ws))) (h : i < ws.length) : EvD Y K es (tOp (rIx K) (tVar j) (tC (.int (i : Int)))) (· = dS (wrd ws i)) := ev_opd (ev_var h0).tt ev_int.tt (os_ixW (wrd_at h))
theorem ev_lenW (h0 : es[j]? = some (.dat (dW ws))) {n : Nat} : TsB Y K es (tTest (tOp (rEqU K) (tCB (rLenU K) (tCons (tVar j) tNil)) (tC (.int (n : Int))))) (· = decide (ws.length = n)) := (tb_testd (ev_opd (ev_cb1d (ev_var h0).tt (cb_lenL (ds := ws.map dS))).tt et_int os_eqI)).mono fun d e => e.trans (decide_eq_decide.mpr (by rw [List.length_map]; omega))
end
end FR
set_option maxRecDepth 100000
set_option maxHeartbeats 400000
namespace FR
open PySem PySem.Spec PySem.Calls PyProof.Rows L2
/-! ### layers, read from their words -/
def wordsF (u : List Nat) : List (List Nat) := (Txt.split (SX.S u) (SX.S [32])).map fun x => x.cps.toList
theorem S_cps (x : Str) : SX.S x.cps.toList = x := by
  cases x
  rfl
theorem words_W (u : List Nat) : PyData.list ((Txt.split (SX.S u) (SX.S [32])).map .str) = dW (wordsF u) := by
  unfold wordsF
  show PyData.list _ = PyData.list _
  rw [List.map_map]
  congr 1
abbrev wClear : List Nat := [99, 108, 101, 97, 114]
abbrev layFl : List Str := ["width", "scope", "span", "own", "for_true", "clears"]
abbrev layD (n : Nat) (sc : List Nat) (sp : PyData) (own ft cl : Bool) : PyData := objD "Layer" layFl [.int n, dS sc, sp, .bool own, .bool ft, .bool cl]
/-- the layer of these words, with "for true", "own" and "every M" taken away -/
def layG (ft own : Bool) (ws : List (List Nat)) (m : Option Nat) : PyData :=
  if (!decide (ws.take 1 ∈ [[wLook], [wAdd]]) || !decide ((ws.drop 1).take 1 ∈ [[wRow], [wTrue], [wLine]])) = true then .none
  else if (isNo (spanF (ws.drop 2) m (wrd ws 1)) || (decide (wrd ws 0 = wAdd) && own)) = true then .none
  else layD (widF (ws.drop 2) m) (wrd ws 1) (spanF (ws.drop 2) m (wrd ws 1)) (own || decide (wrd ws 0 = wAdd)) ft false
/-- the layer that is written so; None if it is none -/
def layF (u : List Nat) : PyData :=
  if u = wClear then layD 0 wRow (spanD false false (.tuple []) 1 []) false false true
  else layG (cutF (wordsF u) [wFor, wTrue]).2 (cutF (cutF (wordsF u) [wFor, wTrue]).1 [wOwn]).2 (everF (cutF (cutF (wordsF u) [wFor, wTrue]).1 [wOwn]).1).1 (everF (cutF (cutF (wordsF u) [wFor, wTrue]).1 [wOwn]).1).2
theorem everF_asc {ws : List (List Nat)} (h : AscW ws) : AscW (everF ws).1 := by
  unfold everF
  split
  · exact h.take _
  · exact h
theorem everF_num {ws : List (List Nat)} {n : Nat} (h : (everF ws).2 = some n) : 0 < n ∧ n < 100 := by
  unfold everF at h
  split at h
  · rename_i c
    obtain ⟨k, hk, ek⟩ := List.mem_map.mp c.2
    have hk := List.mem_range.mp hk
    have h : some (dig1 (ws.getLastD [])) = some n := h
    injection h with h
    rw [← ek] at h
    have e : dig1 (digN (2 + k)) = 2 + k := by show 48 + (2 + k) - 48 = _; omega
    rw [e] at h
    omega
  · cases h
/-- where a RANGE tells a span, the words tell a width -/
theorem spanF_wid {ws : List (List Nat)} {m : Option Nat} {sc : List Nat} (h : isNo (spanF ws m sc) = false) : 1 ≤ ws.length ∧ (ws.length ≠ 1 → ws[1]? = some wAll ∨ ∃ n, 0 < n ∧ n < 10 ∧ ws[1]? = some (digN n)) := by
  unfold spanF at h
  have nums : ∀ {w : List Nat}, w ∈ numsW 1 3 → ∃ n, 0 < n ∧ n < 10 ∧ w = digN n := fun {w} z => by
    obtain ⟨k, hk, ek⟩ := List.mem_map.mp z
    have hk := List.mem_range.mp hk
    exact ⟨1 + k, by omega, by omega, ek.symm⟩
  split at h
  · rename_i c
    rw [Bool.and_eq_true, Bool.and_eq_true, decide_eq_true_eq, decide_eq_true_eq, decide_eq_true_eq] at c
    refine ⟨by omega, fun _ => ?_⟩
    rw [wrd_at (i := 1) (by omega)]
    rcases List.mem_append.mp c.2.2 with z | z
    · obtain ⟨n, n0, n1, e⟩ := nums z
      exact .inr ⟨n, n0, n1, by rw [e]⟩
    · exact .inl (by rw [List.mem_singleton.mp z])
  · split at h
    · cases h
    · split at h
      · rename_i c
        rw [Bool.and_eq_true, Bool.and_eq_true, Bool.and_eq_true, decide_eq_true_eq, decide_eq_true_eq, decide_eq_true_eq, decide_eq_true_eq] at c
        refine ⟨by omega, fun _ => ?_⟩
        rw [wrd_at (i := 1) (by omega)]
        obtain ⟨n, n0, n1, e⟩ := nums c.2.2.1
        exact .inr ⟨n, n0, n1, by rw [e]⟩
      · split at h
        · rename_i c
          rw [Bool.and_eq_true, decide_eq_true_eq, decide_eq_true_eq] at c
          rw [c.2]
          exact ⟨Nat.le_refl _, fun z => absurd rfl z⟩
        · split at h
          · rename_i c
            rw [Bool.and_eq_true, decide_eq_true_eq, decide_eq_true_eq] at c
            rw [c.2]
            exact ⟨Nat.le_refl _, fun z => absurd rfl z⟩
          · cases h
end FR
set_option maxRecDepth 100000
set_option maxHeartbeats 400000
namespace FR
open PySem PySem.Spec PySem.Calls PyProof.Rows L2
structure Bi2 (mg : Str → Option Value) : Prop where
  enum : mg "enumerate" = none
/-- what read_layer may be given -/
def okL (y : PyData) : Prop := (Pl y ∧ tyN y ≠ "str") ∨ ∃ u, y = dS u ∧ AscW (wordsF u) ∧ u.length ≤ 1000
def lyF : PyData → PyData
  | .str s => layF s.cps.toList
  | _ => .none
def widD : PyData → Nat
  | .dict (_ :: (_, .int n) :: _) => n.toNat
  | _ => 0
theorem layF_is (u : List Nat) : layF u = .none ∨ ∃ n sc sp own ft cl, layF u = layD n sc sp own ft cl := by
  unfold layF layG
  split
  · exact .inr ⟨_, _, _, _, _, _, rfl⟩
  · split
    · exact .inl rfl
    · split
      · exact .inl rfl
      · exact .inr ⟨_, _, _, _, _, _, rfl⟩
theorem lyF_is (y : PyData) : lyF y = .none ∨ ∃ n sc sp own ft cl, lyF y = layD n sc sp own ft cl := by
  cases y with
  | str s => exact layF_is _
  | _ => exact .inl rfl
theorem lyF_of {y d : PyData} (h : okL y) (h2 : (tyN y ≠ "str" → d = .none) ∧ ∀ u, y = dS u → d = layF u) : d = lyF y := by
  rcases h with ⟨_, hn⟩ | ⟨u, rfl, _⟩
  · rw [h2.1 hn]
    cases y with
    | str s => exact absurd rfl hn
    | _ => rfl
  · rw [h2.2 u rfl]
    show layF u = layF (SX.S u).cps.toList
    congr 1
/-- the index of the first one that is no layer, too many or with which they are too wide -/
def firstF : List PyData → Nat → Nat → Option Nat
  | [], _, _ => none
  | y :: r, k, w => if (decide (k = 4) || isNo (lyF y)) = true then some k else if 8 < w + widD (lyF y) then some k else firstF r (k + 1) (w + widD (lyF y))
end FR
set_option maxRecDepth 100000
set_option maxHeartbeats 400000
namespace FR
open PySem PySem.Spec PySem.Calls PyProof.Rows L2
/-! ### methods, as defs over data -/
section
variable {P : Program} {w : World} {K : PySem.W.Frag} {mg : Str → Option Value} {base : Heap} {k : Nat} {x q : Str} {st : Stmt} {f : Addr} {fd : FuncData} {N ps : List Str}
theorem fn_ofD {n : Nat} {pre : List PyData → Prop} {post : List PyData → PyData → Prop} (F : Fun K x q st f fd) (S : FnScope N ps (defScope st)) (hn : ps.length = n) (hN : n ≤ N.length)
    (body : ∀ (cdv : Value) (A : Around) (outer : List Env) (s : Shared) (H : Hp) (E : XK), Room k (A.deeper (envOfC q (defScope st) s.heap.objs.size f cdv)) →
      ∃ t, PSs (cxOf CX0 P w K mg base N q (defScope st) f cdv A outer s H E).nox (defBody st) t ∧ ∀ (Y : Vol) (ds : List PyData), ds.length = n → pre ds → StS Y K (ds.map .dat ++ List.replicate (N.length - n) .unk) t { nx := fun _ => post ds .none, rt := post ds }) :
    FnOk P w K mg base CX0 (k + 1) f fd ps (spF K n pre post) := by
  refine F.ok S (fun vs H Q E h => by rw [hn]; exact h.1) (fun cdv A outer s H vs Q E hr h => ?_)
  obtain ⟨t, ht, hs⟩ := body cdv A outer s H E hr
  exact ⟨t, ht, fn_read hN hs vs H Q E h⟩
theorem fn_ofD1 {p1 : Str} {Pp : PyData → Prop} {Q : PyData → PyData → Prop} (F : Fun K x q st f fd) (S : FnScope N [p1] (defScope st)) (hN : 1 ≤ N.length)
    (body : ∀ (cdv : Value) (A : Around) (outer : List Env) (s : Shared) (H : Hp) (E : XK), Room k (A.deeper (envOfC q (defScope st) s.heap.objs.size f cdv)) → (A.deeper (envOfC q (defScope st) s.heap.objs.size f cdv)).units + 64 < cLine →
      ∃ t, PSs (cxOf CX0 P w K mg base N q (defScope st) f cdv A outer s H E).nox (defBody st) t ∧ ∀ (Y : Vol) (d : PyData), Pp d → StS Y K (.dat d :: List.replicate (N.length - 1) .unk) t { nx := fun _ => Q d .none, rt := Q d }) :
    FnOk P w K mg base CX0 (k + 1) f fd [p1] (sp1 K Pp Q) := by
  refine fn_ofD F S rfl hN fun cdv A outer s H E hr => ?_
  obtain ⟨t, ht, hs⟩ := body cdv A outer s H E hr (by have := hr.un; omega)
  refine ⟨t, ht, fun Y ds hl ⟨d, e, hp⟩ => ?_⟩
  subst e
  exact (hs Y d hp).mono (fun _ q y e => by cases e; exact q) (fun _ q y e => by cases e; exact q) (fun _ z => z) (fun _ z => z)
theorem fn_ofD2 {p1 p2 : Str} {Pp : PyData → PyData → Prop} {Q : PyData → PyData → PyData → Prop} (F : Fun K x q st f fd) (S : FnScope N [p1, p2] (defScope st)) (hN : 2 ≤ N.length)
    (body : ∀ (cdv : Value) (A : Around) (outer : List Env) (s : Shared) (H : Hp) (E : XK), Room k (A.deeper (envOfC q (defScope st) s.heap.objs.size f cdv)) → (A.deeper (envOfC q (defScope st) s.heap.objs.size f cdv)).units + 64 < cLine →
      ∃ t, PSs (cxOf CX0 P w K mg base N q (defScope st) f cdv A outer s H E).nox (defBody st) t ∧ ∀ (Y : Vol) (d e : PyData), Pp d e → StS Y K (.dat d :: .dat e :: List.replicate (N.length - 2) .unk) t { nx := fun _ => Q d e .none, rt := Q d e }) :
    FnOk P w K mg base CX0 (k + 1) f fd [p1, p2] (sp2 K Pp Q) := by
  refine fn_ofD F S rfl hN fun cdv A outer s H E hr => ?_
  obtain ⟨t, ht, hs⟩ := body cdv A outer s H E hr (by have := hr.un; omega)
  refine ⟨t, ht, fun Y ds hl ⟨d, e, e1, hp⟩ => ?_⟩
  subst e1
  exact (hs Y d e hp).mono (fun _ q y z e => by cases e; exact q) (fun _ q y z e => by cases e; exact q) (fun _ z => z) (fun _ z => z)
end
/-! programs, as data -/
abbrev progD (ls : List PyData) : PyData := objD "Program" ["_layers"] [.tuple ls]
theorem progD_inj {a b : List PyData} (h : progD a = progD b) : a = b := by
  injection h with h
  injection h with _ h
  injection h with h _
  injection h with _ h
  injection h
end FR
set_option maxRecDepth 100000
set_option maxHeartbeats 400000
namespace FR
open PySem PySem.Spec PySem.Calls PyProof.Rows L2
/-- good layers: at least one, and none is wrong -/
structure GoodL (ls : List PyData) : Prop where
  ne : ls ≠ []
  ok : ∀ y ∈ ls, okL y
  fs : firstF ls 0 0 = none
/-- Program's __init__, of good layers -/
def spProg (K : PySem.W.Frag) (C : Addr) : Sp := fun vs H Q _ => ∃ (a dx : Addr) (v : V) (Y : Vol) (Hi : Hp) (ls : List PyData), vs = [.ref a, v] ∧ H a = some (.ins C dx []) ∧ Pre Y Hi H ∧ ¬ Y.W a ∧ Da K Hi v (.tuple ls) ∧ GoodL ls ∧ ∀ Hi' H', Fr Y Hi H Hi' H' → Q .non (upd H' a (.ins C dx [("_layers", v)]))
theorem prog_core {Y : Vol} {K : PySem.W.Frag} {Hi H Hi1 H1 : Hp} {v : V} {E : XK} {ls : List PyData} {Q : VK} (f1 : Fr Y Hi H Hi1 H1) (hv1 : Da K Hi1 v (.tuple ls)) (g : GoodL ls) (q : ∀ v d Hi' H', Fr Y Hi H Hi' H' → Da K Hi' v d → d = progD ls → Q v H') :
    ∀ a dx, H1 a = none → H1 dx = none → dx ≠ a → spProg K (He.ga K "Program") [.ref a, v] (upd (upd H1 dx (.own a)) a (.ins (He.ga K "Program") dx [])) (fun v H2 => v = .non ∧ Q (.ref a) H2) E := by
    intro a dx ha hd ne
    have wa : ¬ Y.W a := fun z => Y.there _ _ z f1.inv ha
    have e1 : Same H1 (upd (upd H1 dx (.own a)) a (.ins (He.ga K "Program") dx [])) := by
      refine (same_upd hd).trans (same_upd ?_)
      rw [upd_ne ne.symm]
      exact ha
    have p1 := (Fr.grow f1.pre e1).pre
    refine ⟨a, dx, v, Y, Hi1, ls, rfl, upd_same, p1, wa, hv1, g, fun Hi' H' f => ⟨rfl, ?_⟩⟩
    have hia : Hi1 a = none := f1.sub.free ha
    have ka : H' a = some (.ins (He.ga K "Program") dx []) := f.keep a _ upd_same wa not_tb_ins
    have hia' : Hi' a = none := by
      cases z : Hi' a with
      | none => rfl
      | some o =>
        rcases f.new a o z with z1 | z1
        · rw [hia] at z1
          cases z1
        · exact absurd (z1 _ upd_same) not_tb_ins
    have fin : Fr Y Hi1 H1 (upd Hi' a (.ins (He.ga K "Program") dx [("_layers", v)])) (upd H' a (.ins (He.ga K "Program") dx [("_layers", v)])) := by
      refine ⟨fun b o eb => ?_, fun b o eb => ?_, ?_, fun b o eb => ?_, fun b o eb wb tb => ?_, fun b o eb => ?_⟩
      · by_cases hb : b = a
        · subst hb
          rw [hia] at eb
          cases eb
        · rw [upd_ne hb]
          exact f.hi b o eb
      · by_cases hb : b = a
        · subst hb
          rw [upd_same] at eb ⊢
          exact eb
        · rw [upd_ne hb] at eb ⊢
          exact f.sub b o eb
      · refine Y.stable H' _ (fun b o eb hx => ?_) f.inv
        by_cases hb : b = a
        · subst hb
          rw [ka] at eb
          cases eb
          rcases hx with hx | hx | ⟨_, hx⟩
          · exact absurd hx wa
          · exact absurd hx not_tb_ins
          · cases hx
        · rw [upd_ne hb]
          exact eb
      · by_cases hb : b = a
        · subst hb
          rw [upd_same] at eb
          cases eb
          exact ⟨wa, not_tb_ins⟩
        · rw [upd_ne hb] at eb
          exact f.out b o eb
      · have hb : b ≠ a := fun z => by
          subst z
          rw [ha] at eb
          cases eb
        rw [upd_ne hb]
        exact f.keep b o (e1 b o eb) wb tb
      · by_cases hb : b = a
        · subst hb
          exact .inr fun u hu => by
            rw [ha] at hu
            cases hu
        · rw [upd_ne hb] at eb
          rcases f.new b o eb with z | z
          · exact .inl z
          · exact .inr fun u hu => z u (e1 b u hu)
    refine q _ _ _ _ (f1.trans fin) ?_ rfl
    exact .ins (ks := ["_layers"]) (ds := [.tuple ls]) (vs := [v]) rfl rfl upd_same (.cons (Da.mono fin.hi _ _ hv1) .nil)
theorem ev_mkProg {Y : Vol} {K : PySem.W.Frag} {es : List Ent} {ta : TA} {E : XK} {ls : List PyData} (h : ArD Y K es ta (· = [.tuple ls])) (g : GoodL ls) : EvD Y K es (tMake (He.ga K "Program") (spProg K (He.ga K "Program")) [] E ta) (· = progD ls) := fun H0i H0 Hi H σ s Q q =>
  h H0i H0 Hi H σ s _ fun vs ds Hi1 H1 f1 hv e => by
    subst e
    obtain ⟨v, rfl, hv1⟩ : ∃ v, vs = [v] ∧ Da K Hi1 v (.tuple ls) := by
      cases hv with
      | cons p r =>
        cases r
        exact ⟨_, rfl, p⟩
    exact prog_core f1 hv1 g q
/-- Program(layers=..) -/
theorem ev_mkProgK {Y : Vol} {K : PySem.W.Frag} {es : List Ent} {tk : TA} {E : XK} {ls : List PyData} (h : ArD Y K es tk (· = [.tuple ls])) (g : GoodL ls) : EvD Y K es (tMakeK (He.ga K "Program") 0 1 (spProg K (He.ga K "Program")) (fun vs zs => vs ++ zs) E tNil tk) (· = progD ls) := fun H0i H0 Hi H σ s Q q =>
  h H0i H0 Hi H σ s _ fun vs ds Hi1 H1 f1 hv e => by
    subst e
    obtain ⟨v, rfl, hv1⟩ : ∃ v, vs = [v] ∧ Da K Hi1 v (.tuple ls) := by
      cases hv with
      | cons p r =>
        cases r
        exact ⟨_, rfl, p⟩
    exact ⟨rfl, rfl, prog_core f1 hv1 g q⟩
section
variable {Y : Vol} {K : PySem.W.Frag} {H0i H0 Hi H : Hp} {σ : L2.St} {es : List Ent} {t : TT} {t1 u : TS} {te : TE} {D : Ends} {i : Nat} {d : PyData}
/-- if t: ..., t false; then u -/
theorem st_skip (s : StIs Y K H0i H0 Hi H σ es) (h : TsB Y K es t (· = false)) (k : ∀ Hi' H', Same Hi Hi' → StIs Y K H0i H0 Hi' H' σ es → u D σ H') : tSeq (tIfS t t1 tNext) u D σ H :=
  h H0i H0 Hi H σ s _ fun b Hi1 H1 f1 e => by
    subst e
    exact k Hi1 H1 f1.hi (s.step f1)
theorem st_set (s : StIs Y K H0i H0 Hi H σ es) (h : EvD Y K es te (· = d)) (k : ∀ v Hi' H', Same Hi Hi' → StIs Y K H0i H0 Hi' H' (σ.set i (some v)) (es.set i (.dat d)) → u D (σ.set i (some v)) H') : tSeq (tAsg te (gName i)) u D σ H :=
  h H0i H0 Hi H σ s _ fun v d' Hi1 H1 f1 hv e => by
    subst e
    exact k v Hi1 H1 f1.hi ((s.step f1).setDat hv)
end
end FR
set_option maxRecDepth 100000
set_option maxHeartbeats 400000
namespace FR
open PySem PySem.Spec PySem.Calls PyProof.Rows L2
theorem mt_joinT {Y : Vol} {K : PySem.W.Frag} {a : List Nat} {ys : List (List Nat)} (hl : (ys.map (·.length)).sum + ys.length * a.length ≤ 1000000) : MtS Y K "str" (rJoin K) (.str (SX.S a)) [.tuple (ys.map fun y => .str (SX.S y))] (· = .str (SX.S (TL.joinL a ys))) := fun Hi H v vs p hv h Q q => by
  obtain ⟨w, rfl, hw⟩ := pair1 h
  obtain ⟨b, ws, rfl, h1, _, h2⟩ := hw.tup p.sub
  have e0 : (ys.map fun y => PyData.str (SX.S y)) = (ys.map SX.S).map PyData.str := by rw [List.map_map]; rfl
  rw [e0] at h2
  have e := h2.strs
  subst e
  refine ⟨SX.S a, b, ys.map SX.S, hv.str, rfl, .inr h1, ?_, ?_⟩
  · rw [SX.lens, List.length_map, SX.S_len]
    exact Nat.le_trans hl (by decide)
  · rw [SX.join_S]
    exact q _ _ Hi H (Fr.refl p) (.str _) rfl
end FR
set_option maxRecDepth 100000
set_option maxHeartbeats 400000
namespace FR
open PySem PySem.Spec PySem.Calls PyProof.Rows L2
/-! ### t[::-1] of a tuple -/
section
variable {prog : Program} {w : World} {A : Around} {E : Value → Shared → Prop} {s : Shared}
theorem rev_adjust (n : Nat) : Builtin.Slice.sliceAdjust none none (-1) (n : Int) = ((n : Int) - 1, -1) := by
  unfold Builtin.Slice.sliceAdjust
  rfl
theorem rev_places (n : Nat) : Builtin.Slice.slicePlaces ((n : Int) - 1) (-1) (-1) = n := by
  unfold Builtin.Slice.slicePlaces
  have h1 : ¬ ((-1 : Int) > 0) := by decide
  simp only [h1, if_false]
  split
  · have e : ((n : Int) - 1 - -1 - 1) / (- -1) = (n : Int) - 1 := by
      rw [show (- -1 : Int) = 1 by decide, Int.ediv_one]
      omega
    rw [e]
    omega
  · omega
theorem filterMap_cg {α β : Type} {f g : α → Option β} : ∀ {l : List α}, (∀ x ∈ l, f x = g x) → l.filterMap f = l.filterMap g
  | [], _ => rfl
  | x :: l, h => by
    rw [List.filterMap_cons, List.filterMap_cons, h x List.mem_cons_self, filterMap_cg fun y hy => h y (List.mem_cons_of_mem _ hy)]
theorem rev_pick (xs : Array Value) : ((List.range xs.size).filterMap fun (m : Nat) => xs[(((xs.size : Int) - 1) + (m : Int) * (-1)).toNat]?).toArray = xs.toList.reverse.toArray := by
  have e : ∀ m ∈ List.range xs.size, xs[(((xs.size : Int) - 1) + (m : Int) * (-1)).toNat]? = xs[xs.size - 1 - m]? := fun m hm => by
    have := List.mem_range.mp hm
    congr 1
    omega
  have e2 : ((List.range xs.size).filterMap fun (m : Nat) => xs[(((xs.size : Int) - 1) + (m : Int) * (-1)).toNat]?) = (List.range xs.size).filterMap fun m => xs[xs.size - 1 - m]? := filterMap_cg e
  rw [e2]
  have e3 : ((List.range xs.size).filterMap fun m => xs[xs.size - 1 - m]?) = ((List.range xs.size).map fun k => xs.size - 1 - k).filterMap (xs[·]?) := by
    rw [List.filterMap_map]
    rfl
  rw [e3, PySem.W.krv_range, List.filterMap_reverse, PySem.W.krv_all]
theorem sliceApplied_rev {sl : Addr} {n : Nat} {uk : Tok} {Q : Int × Int × Nat → Shared → Prop} (hs : s.heap.IsSliceOf sl .none .none (.int (-1) uk))
    (h : Q ((n : Int) - 1, -1, n) s) : wpAny (model prog w) A (Builtin.Slice.sliceApplied (.ref sl) (pure (n : Int))) Q E s := by
  obtain ⟨os, hos, hcs, hds⟩ := id hs
  unfold Builtin.Slice.sliceApplied Builtin.Slice.sliceFields
  refine wpAny_bind (wpAny_bind (wpAny_field hos hds (x := .none) rfl (wpAny_bind (wpAny_field hos hds (x := .none) rfl (wpAny_bind (wpAny_field hos hds (x := .int (-1) uk) rfl (wpAny_pure ?_)))))))
  refine wpAny_bind (HT.slicePart_ (o := some (-1)) (.int _ _) ?_)
  show wpAny _ _ (if ((-1 : Int) == 0) = true then _ else _) _ _ s
  rw [if_neg (by decide)]
  refine wpAny_bind (HT.slicePart_ (o := none) .none (wpAny_bind (HT.slicePart_ (o := none) .none (wpAny_bind (wpAny_pure ?_)))))
  show wpAny _ _ (match Builtin.Slice.sliceAdjust none none (-1) (n : Int) with | (lo, hi) => pure (lo, (-1 : Int), Builtin.Slice.slicePlaces lo hi (-1))) _ _ s
  rw [rev_adjust n]
  show wpAny _ _ (pure ((n : Int) - 1, (-1 : Int), Builtin.Slice.slicePlaces ((n : Int) - 1) (-1) (-1))) _ _ s
  rw [rev_places]
  exact wpAny_pure h
theorem getItem_tuple_rev {t sl : Addr} {items : Array Value} {uk : Tok} {Q : Value → Shared → Prop} (ht : IsTup s.heap t items) (hs : s.heap.IsSliceOf sl .none .none (.int (-1) uk))
    (h : Q (.ref s.heap.objs.size) { s with heap := s.heap.push { cls := .type "tuple", data := .seq items.toList.reverse.toArray } })
    (hsz : items.size ≤ sizeLine) : wpAny (model prog w) A (getItem (.ref t) (.ref sl)) Q E s := by
  have htake : sizeOk (.seq items.toList.reverse.toArray) := by
    show items.toList.reverse.toArray.size ≤ sizeLine
    rw [List.size_toArray, List.length_reverse, Array.length_toList]
    exact hsz
  obtain ⟨os, hos, hcs, hds⟩ := id hs
  have hTs : s.TypeIs (.ref sl) "slice" := ⟨os, hos, hcs⟩
  unfold getItem
  try with_reducible refine wpAny_holding ?_
  first | refine wpAny_bind (wpAny_pure ?_) | skip
  refine wpAny_bind (wpAny_sequenceKey ht.typeIs (by decide) ?_)
  refine wpAny_bind (wpAny_callSpecial?_slot (name := Str.ofString "__getitem__") ht.typeIs PyProof.Rows.slot_tuple_getitem
    (wpAny_call_entry PyProof.Rows.slot_tuple_getitem ht.typeIs entry_tuple_getitem ?_ (args_tuple_getitem _ _)))
  show wpAny _ _ (Builtin.Tuple.tupleItemsOf (.ref t) >>= _) _ _ s
  refine wpAny_bind (tupleItemsOf_ ht ?_)
  refine wpAny_bind (wpAny_typeOf hTs ?_)
  rw [if_pos (by decide)]
  refine wpAny_bind (sliceApplied_rev hs ?_)
  have hno : ¬ (((((items.size : Nat) : Int) - 1) == 0 && (-1 : Int) == 1 && items.size == items.size) = true) := by
    intro q
    rw [Bool.and_eq_true, Bool.and_eq_true] at q
    exact absurd q.1.2 (by decide)
  show wpAny _ _ (if ((((items.size : Nat) : Int) - 1) == 0 && (-1 : Int) == 1 && items.size == items.size) = true then _ else _) _ _ s
  rw [if_neg hno, rev_pick]
  first
    | exact wpAny_bind (m := Builtin.Tuple.tupleExact _) (wpAny_newObj_type (wpAny_pure ⟨_, rfl, wpAny_pure h⟩) htake)
    | exact wpAny_bind (m := Builtin.Tuple.tupleExact _) (wpAny_newObj_type (wpAny_bind (wpAny_pure (wpAny_pure ⟨_, rfl, wpAny_pure h⟩))) htake)
    | exact wpAny_bind (wpAny_bind (m := Builtin.Tuple.tupleExact _) (wpAny_newObj_type (wpAny_pure (wpAny_pure ⟨_, rfl, wpAny_pure h⟩)) htake))
    | exact wpAny_bind (wpAny_bind (m := Builtin.Tuple.tupleExact _) (wpAny_newObj_type (wpAny_pure ⟨_, rfl, wpAny_pure h⟩) htake))
end
def tRevT (K : PySem.W.Frag) (te : TE) : TE := fun σ H Q => te σ H fun x H1 => ∃ a xs, x = .ref a ∧ SqT K H1 a xs ∧ ∀ p, H1 p = none → Q (.ref p) (upd H1 p (.tup xs.reverse))
theorem vals_rev : ∀ {vs : List V} {us : List Value}, Vals vs us → Vals vs.reverse us.reverse
  | _, _, .nil => .nil
  | _, _, .cons h t => by
    rw [List.reverse_cons, List.reverse_cons]
    exact (vals_rev t).append (.cons h .nil)
theorem pe_revT {X : Cx} {e : Expr} {te : TE} {k : Nat} {p1 p2 p3 pos : Pos} (he : PE X e te) : PE X (.Subscript e (.Slice none none (some (.UnaryOp .USub (.Constant (.int 1) k p1) p2)) p3) pos) (tRevT X.K te) := by
  refine ⟨fun pins s σ H Q I h => ?_⟩
  refine Subscript_ (thn (he.run pins s σ H _ I h) fun v s1 ⟨x, H1, I1, r1, q1⟩ => ?_)
  obtain ⟨a, xs, rfl, hx, q⟩ := q1
  have hst : PO X (some (.UnaryOp .USub (.Constant (.int 1) k p1) p2)) (tPart (tUn (rU fun i => .int (-i)) (tC (.int 1)))) := po_some (pe_un un_neg pe_int)
  refine wpAny_Slice (thn (po_none.run pins s1 σ H1 (fun o H2 => o = none ∧ H2 = H1) I1 ⟨rfl, rfl⟩) fun vl s2 ⟨l, H2, I2, pl, el, e2⟩ => ?_)
  subst el e2
  refine thn (po_none.run pins s2 σ H2 (fun o H3 => o = none ∧ H3 = H2) I2 ⟨rfl, rfl⟩) fun vu s3 ⟨u, H3, I3, pu, eu, e3⟩ => ?_
  subst eu e3
  refine thn (hst.run pins s3 σ H3 (fun o H4 => o = some (-1) ∧ H4 = H3) I3 ⟨1, rfl, -1, rfl, rfl, rfl⟩) fun vs s4 ⟨o, H4, I4, ps, eo, e4⟩ => ?_
  subst eo e4
  cases pl
  cases pu
  obtain ⟨uk, rfl⟩ : ∃ uk, vs = .int (-1) uk := by
    cases ps
    exact ⟨_, rfl⟩
  have I5 : Inv X pins σ H4 { s4 with heap := s4.heap.push { cls := .type "slice", data := .fields #[.none, .none, .int (-1) uk] } } := I4.kept (t' := s4.toks) fun b ob q => Heap.get?_push_of_some _ q
  cases r1
  obtain ⟨its, r, ht, hz⟩ := I5.tuple hx
  have hlen : its.toArray.size = xs.length := by rw [List.size_toArray]; exact r.length.symm
  show wpAny (model X.prog X.w) X.A (subscriptTail e (.Slice none none (some (.UnaryOp .USub (.Constant (.int 1) k p1) p2)) p3) (.ref a) (.ref s4.heap.objs.size)) (EP X pins σ Q) X.xe { s4 with heap := s4.heap.push { cls := .type "slice", data := .fields #[.none, .none, .int (-1) uk] } }
  refine tail_any (ops := [.ref a, .ref s4.heap.objs.size]) ht.typeIs PyProof.Rows.slot_tuple_getitem.lookup ?_ (by with_unfolding_all rfl)
  refine getItem_tuple_rev ht (Heap.IsSliceOf.new ..) ?_ (by rw [hlen]; exact hz)
  refine ⟨.ref _, _, I5.laid (t' := s4.toks) (o := .tup xs.reverse) (fun b ob q => Heap.get?_push_of_some _ q) (Nat.le_refl _) ?_, rfl, q _ (I5.hok.fresh (Nat.le_refl _))⟩
  exact ⟨by rw [List.length_reverse]; exact hz, _, vals_rev r, IsTup.new _ _⟩
theorem kpe_revT {X : Cx} {K : PySem.W.Frag} (hK : X.K = K) {e : Expr} {te : TE} {k : Nat} {p1 p2 p3 pos : Pos} (he : PE X e te) : PE X (.Subscript e (.Slice none none (some (.UnaryOp .USub (.Constant (.int 1) k p1) p2)) p3) pos) (tRevT K te) := by
  subst hK
  exact pe_revT he
section
variable {Y : Vol} {K : PySem.W.Frag} {es : List Ent} {te : TE} {ta : TA} {ds : List PyData}
theorem DaAll.rev {H : Hp} : ∀ {vs : List V} {ds : List PyData}, DaAll K H vs ds → DaAll K H vs.reverse ds.reverse
  | _, _, .nil => .nil
  | _, _, .cons h t => by
    rw [List.reverse_cons, List.reverse_cons]
    exact (DaAll.rev t).append (.cons h .nil)
theorem ev_revT (h : EvD Y K es te (· = .tuple ds)) : EvD Y K es (tRevT K te) (· = .tuple ds.reverse) := fun H0i H0 Hi H σ s Q q =>
  h H0i H0 Hi H σ s _ fun v d Hi1 H1 f1 hv e => by
    subst e
    cases hv with
    | @tup a xs _ ha hxs =>
      exact ⟨a, xs, rfl, sqt_mono f1.sub ha, fun p hp => q _ _ _ _ (f1.trans (Fr.alloc f1.pre hp not_tb_tup)) (.tup (.inl (.inl upd_same)) (DaAll.mono (same_upd (f1.sub.free hp)) _ _ hxs.rev)) rfl⟩
end
end FR
set_option maxRecDepth 100000
set_option maxHeartbeats 400000
namespace FR
open PySem PySem.Spec PySem.Calls PyProof.Rows L2
/-! ### drawn layers, as they are said -/
structure Sd where
  verb : List Nat
  scope : List Nat
  way : List Nat
  num : Nat
  ev : Nat
  own : Bool
  sp : Bool
abbrev sdD (s : Sd) : PyData := .tuple [dS s.verb, dS s.scope, dS s.way, .int (s.num : Int), .int (s.ev : Int), .bool s.own, .bool s.sp]
abbrev wAtBack : List Nat := [97, 116, 32, 98, 97, 99, 107]
abbrev wAtAhead : List Nat := [97, 116, 32, 97, 104, 101, 97, 100]
def sdClear : Sd := ⟨wClear, [], [], 0, 1, false, false⟩
def scopesL : List (List Nat) := [wRow, wTrue, wLine]
def waysL : List (List Nat) := [wBack, wAhead, wAround, wAtBack, wAtAhead, wFirst, wLast]
/-- scope, way, number, every go together -/
def goB (sc wy : List Nat) (n e : Nat) : Bool :=
  if wy = wFirst ∨ wy = wLast then decide (sc = wRow ∧ n = 0 ∧ e = 1) else if wy = wAtBack ∨ wy = wAtAhead then decide (1 ≤ n ∧ e = 1) else true
def partsL : List (List Nat × List Nat × Nat × Nat) := scopesL.flatMap fun sc => waysL.flatMap fun wy => (List.range 4).flatMap fun n => ((List.range 3).map fun k => (sc, wy, n, 1 + k)).filter fun p => goB p.1 p.2.1 p.2.2.1 p.2.2.2
def verbsL : List (List Nat × Bool) := [(wLook, true), (wLook, false), (wAdd, false)]
def sdAll : List Sd := sdClear :: partsL.flatMap fun p => verbsL.flatMap fun v => [true, false].map fun sp => ⟨v.1, p.1, p.2.1, p.2.2.1, p.2.2.2, v.2, sp⟩
theorem sdAll_mem {vb sc wy : List Nat} {n e : Nat} {ow sp : Bool} (h1 : (vb, ow) ∈ verbsL) (h2 : sc ∈ scopesL) (h3 : wy ∈ waysL) (h4 : n < 4) (h5 : 1 ≤ e) (h6 : e < 4) (h7 : goB sc wy n e = true) : (⟨vb, sc, wy, n, e, ow, sp⟩ : Sd) ∈ sdAll := by
  refine List.mem_cons_of_mem _ (List.mem_flatMap.mpr ⟨(sc, wy, n, e), ?_, List.mem_flatMap.mpr ⟨(vb, ow), h1, List.mem_map.mpr ⟨sp, by cases sp <;> simp, rfl⟩⟩⟩)
  refine List.mem_flatMap.mpr ⟨sc, h2, List.mem_flatMap.mpr ⟨wy, h3, List.mem_flatMap.mpr ⟨n, List.mem_range.mpr h4, List.mem_filter.mpr ⟨List.mem_map.mpr ⟨e - 1, List.mem_range.mpr (by omega), ?_⟩, h7⟩⟩⟩⟩
  rw [show 1 + (e - 1) = e by omega]
/-- a layer as it is written -/
def numT (n : Nat) : List Nat := if n = 0 then wAll else digN n
def txWay (wy : List Nat) (n : Nat) : List Nat := if wy ∈ [wAtBack, wAtAhead] then [97, 116, 32] ++ numT n ++ wy.drop 2 else if wy ∈ [wFirst, wLast] then wy else wy ++ [32] ++ numT n
def txEnd (s : Sd) : List Nat := (if 1 < s.ev then [32, 101, 118, 101, 114, 121, 32] ++ digN s.ev else []) ++ (if s.own = true then [32, 111, 119, 110] else []) ++ (if s.sp = true then [32, 102, 111, 114, 32, 116, 114, 117, 101] else [])
def txF (s : Sd) : List Nat := if s.verb = wClear then wClear else s.verb ++ [32] ++ s.scope ++ [32] ++ txWay s.way s.num ++ txEnd s
/-- its width -/
def wdF (s : Sd) : Nat := if s.verb = wClear then 0 else if s.way ∈ [wFirst, wLast] then 1 else if 0 < s.num then s.num else s.ev
/-! the layer that is read from it -/
def layU (u : List Nat) (ws : List (List Nat)) : PyData :=
  if u = wClear then layD 0 wRow (spanD false false (.tuple []) 1 []) false false true
  else layG (cutF ws [wFor, wTrue]).2 (cutF (cutF ws [wFor, wTrue]).1 [wOwn]).2 (everF (cutF (cutF ws [wFor, wTrue]).1 [wOwn]).1).1 (everF (cutF (cutF ws [wFor, wTrue]).1 [wOwn]).1).2
theorem wordsF_spl (u : List Nat) : wordsF u = TL.spl [32] 0 [] u := by
  unfold wordsF
  rw [SX.split_S (by simp) (by decide), List.map_map]
  have e : ((fun x : Str => x.cps.toList) ∘ SX.S) = id := by
    funext l
    simp [SX.S]
  rw [e, List.map_id]
theorem layF_U (u : List Nat) : layF u = layU u (TL.spl [32] 0 [] u) := by
  rw [← wordsF_spl]
  rfl
def goodSd (s : Sd) : Bool :=
  let u := txF s
  let ws := TL.spl [32] 0 [] u
  let l := layU u ws
  decide (u.length ≤ 60) && u.all (fun c => decide (c < 128)) && ws.all (fun w => w.all fun c => decide (c < 128)) && !isNo l && decide (widD l = wdF s) && decide (wdF s ≤ 3)
theorem sd_good : (sdAll.all goodSd) = true := by decide +kernel
structure GoodSd (s : Sd) : Prop where
  len : (txF s).length ≤ 60
  asc : Asc (txF s)
  wa : AscW (wordsF (txF s))
  ne : isNo (layF (txF s)) = false
  wd : widD (layF (txF s)) = wdF s
  le : wdF s ≤ 3
theorem sdAll_good {s : Sd} (h : s ∈ sdAll) : GoodSd s := by
  have g := List.all_eq_true.mp sd_good s h
  unfold goodSd at g
  simp only [Bool.and_eq_true, decide_eq_true_eq, Bool.not_eq_true'] at g
  obtain ⟨⟨⟨⟨⟨h1, h2⟩, h3⟩, h4⟩, h5⟩, h6⟩ := g
  refine ⟨h1, fun c hc => of_decide_eq_true (List.all_eq_true.mp h2 c hc), ?_, ?_, ?_, h6⟩
  · rw [wordsF_spl]
    exact ascW_of h3
  · rw [layF_U]
    exact h4
  · rw [layF_U]
    exact h5
/-! ### programs' texts -/
def wdT (u : List Nat) : Nat := widD (layF u)
/-- the texts of a program's layers -/
structure GoodT (a : List (List Nat)) : Prop where
  ne : a ≠ []
  len : a.length ≤ 4
  sd : ∀ u ∈ a, ∃ s ∈ sdAll, u = txF s
  wd : (a.map wdT).sum ≤ 8
theorem firstF_none : ∀ {a : List (List Nat)} {k w : Nat}, k + a.length ≤ 4 → (∀ u ∈ a, ∃ s ∈ sdAll, u = txF s) → w + (a.map wdT).sum ≤ 8 → firstF (a.map dS) k w = none
  | [], _, _, _, _, _ => rfl
  | u :: r, k, w, h1, h2, h3 => by
    rw [List.length_cons] at h1
    rw [List.map_cons, List.sum_cons] at h3
    obtain ⟨s, hs, e⟩ := h2 u List.mem_cons_self
    have g := sdAll_good hs
    have e1 : lyF (dS u) = layF u := by
      show layF (SX.S u).cps.toList = layF u
      simp [SX.S]
    rw [List.map_cons]
    unfold firstF
    have e2 : decide (k = 4) = false := decide_eq_false (by omega)
    have e3 : isNo (layF u) = false := by
      have := g.ne
      rwa [← e] at this
    rw [e1, e2, e3, if_neg (by decide), if_neg (by
      show ¬ 8 < w + wdT u
      omega)]
    exact firstF_none (by omega) (fun v hv => h2 v (List.mem_cons_of_mem _ hv)) (by show w + wdT u + _ ≤ 8; omega)
theorem GoodT.good {a : List (List Nat)} (h : GoodT a) : GoodL (a.map dS) := by
  refine ⟨fun z => h.ne (List.map_eq_nil_iff.mp z), fun y hy => ?_, firstF_none (by have := h.len; omega) h.sd (by have := h.wd; omega)⟩
  obtain ⟨u, hu, rfl⟩ := List.mem_map.mp hy
  obtain ⟨s, hs, e⟩ := h.sd u hu
  have g := sdAll_good hs
  exact .inr ⟨u, rfl, by rw [e]; exact g.wa, by rw [e]; have := g.len; omega⟩
theorem GoodT.asc {a : List (List Nat)} (h : GoodT a) : AscW a := fun u hu => by
  obtain ⟨s, hs, e⟩ := h.sd u hu
  rw [e]
  exact (sdAll_good hs).asc
theorem GoodT.short {a : List (List Nat)} (h : GoodT a) : ∀ u ∈ a, u.length ≤ 60 := fun u hu => by
  obtain ⟨s, hs, e⟩ := h.sd u hu
  rw [e]
  exact (sdAll_good hs).len
theorem sum_short {L : Nat} : ∀ {a : List (List Nat)}, (∀ u ∈ a, u.length ≤ L) → (a.map (·.length)).sum ≤ a.length * L
  | [], _ => Nat.zero_le _
  | u :: r, h => by
    rw [List.map_cons, List.sum_cons, List.length_cons, Nat.add_mul, Nat.one_mul]
    have h1 := h u List.mem_cons_self
    have h2 := sum_short (a := r) fun v hv => h v (List.mem_cons_of_mem _ hv)
    omega
theorem GoodT.sum {a : List (List Nat)} (h : GoodT a) : (a.map (·.length)).sum ≤ 240 := by
  have h1 := sum_short h.short
  have h2 := h.len
  have h3 : a.length * 60 ≤ 4 * 60 := Nat.mul_le_mul_right _ h2
  omega
theorem GoodT.rev {a : List (List Nat)} (h : GoodT a) : GoodT a.reverse := by
  refine ⟨fun z => h.ne (List.reverse_eq_nil_iff.mp z), by rw [List.length_reverse]; exact h.len, fun u hu => h.sd u (List.mem_reverse.mp hu), ?_⟩
  rw [List.map_reverse, List.sum_reverse]
  exact h.wd
theorem GoodT.one {a : List (List Nat)} (h : GoodT a) : GoodT (a.take 1) := by
  refine ⟨fun z => h.ne ?_, ?_, fun u hu => h.sd u (List.mem_of_mem_take hu), ?_⟩
  · match a, z with
    | [], _ => rfl
  · rw [List.length_take]
    omega
  · match a, h.ne, h.wd with
    | u :: r, _, hw =>
      rw [List.map_cons, List.sum_cons] at hw
      show ([u].map wdT).sum ≤ 8
      show wdT u + 0 ≤ 8
      omega
end FR
set_option maxRecDepth 100000
set_option maxHeartbeats 400000
namespace FR
open PySem PySem.Spec PySem.Calls PyProof.Rows L2
theorem sdD_inj {a b : Sd} (h : sdD a = sdD b) : a = b := by
  obtain ⟨a1, a2, a3, a4, a5, a6, a7⟩ := a
  obtain ⟨b1, b2, b3, b4, b5, b6, b7⟩ := b
  injection h with h
  injection h with h1 h
  injection h with h2 h
  injection h with h3 h
  injection h with h4 h
  injection h with h5 h
  injection h with h6 h
  injection h with h7 _
  have h1 := SX.S_inj (PyData.str.inj h1)
  have h2 := SX.S_inj (PyData.str.inj h2)
  have h3 := SX.S_inj (PyData.str.inj h3)
  have h4 : a4 = b4 := by injection h4 with h4; exact Int.ofNat.inj h4
  have h5 : a5 = b5 := by injection h5 with h5; exact Int.ofNat.inj h5
  have h6 := PyData.bool.inj h6
  have h7 := PyData.bool.inj h7
  simp only at h1 h2 h3 h6 h7
  rw [h1, h2, h3, h4, h5, h6, h7]
section
variable {Y : Vol} {K : PySem.W.Frag} {es : List Ent} {ta tr : TA} {te ue : TE} {t2 : TS} {O : Out} {P : PyData → Prop}
/-- xs, b = [], v -/
theorem ss_parOwn1 {i j : Nat} {v : V} {d : PyData} (hv : Da K (fun _ => none) v d) (k : O.nx ((es.set i (.own [])).set j (.dat d))) : StS Y K es (tPar i j (tCons (tLst tNil) (tCons (tC v) tNil))) O := fun H0i H0 Hi H σ s Dn n b c r =>
  ⟨Nat.zero_le _, fun q hq => ⟨.ref q, v, rfl, n Hi _ _ _ (Same.refl _) ((s.setOwn (i := i) hq .nil).setDat (i := j) (Da.mono (fun _ _ e => by cases e) _ _ hv)) k⟩⟩
theorem qs_parOwn1 {i j : Nat} {v : V} {d : PyData} (hv : Da K (fun _ => none) v d) (k : StS Y K ((es.set i (.own [])).set j (.dat d)) t2 O) : StS Y K es (tSeq (tPar i j (tCons (tLst tNil) (tCons (tC v) tNil))) t2) O :=
  ss_seq (M := fun e => e = (es.set i (.own [])).set j (.dat d)) (ss_parOwn1 hv rfl) fun e e1 => e1 ▸ k
theorem qs_parx {i j : Nat} {Pr : PyData → PyData → Prop} (h : ArD Y K es ta (fun ds => ∃ a b, ds = [a, b] ∧ Pr a b)) (k : ∀ a b, Pr a b → StS Y K ((es.set i (.dat a)).set j (.dat b)) t2 O) : StS Y K es (tSeq (tPar i j ta) t2) O :=
  ss_seq (M := fun e => ∃ a b, Pr a b ∧ e = (es.set i (.dat a)).set j (.dat b)) (ss_par h fun ds ⟨a, b, e, p⟩ => ⟨a, b, e, a, b, p, rfl⟩) fun e ⟨a, b, p, e1⟩ => e1 ▸ k a b p
theorem ar_two {P1 : PyData → Prop} {P2 : PyData → Prop} (h1 : EvD Y K es te P1) (h2 : EvD Y K es ue P2) : ArD Y K es (tCons te (tCons ue tNil)) (fun ds => ∃ a b, ds = [a, b] ∧ P1 a ∧ P2 b) :=
  (ar_cons h1 fun _ _ => ar_cons h2 fun _ _ => ar_nil).mono fun ds ⟨a, r, e1, p1, b, r2, e2, p2, e3⟩ => ⟨a, b, by rw [e1, e2, e3], p1, p2⟩
theorem os_pick {ds : List PyData} {r : Int} (h0 : 0 ≤ r) (h1 : r < ds.length) : OpS Y K (rIx K) (.list ds) (.int r) (fun d => d ∈ ds) := by
  obtain ⟨n, rfl⟩ := Int.eq_ofNat_of_zero_le h0
  have hn : n < ds.length := by omega
  exact (os_ixL (atI_nat (List.getElem?_eq_getElem hn))).mono fun d e => e ▸ List.getElem_mem hn
/-- xs[draw], of words -/
theorem ev_pickW {ws : List (List Nat)} {m : Int} (ha : EvT Y K es te (· = dW ws)) (hb : EvD Y K es ue (fun d => ∃ r : Int, d = .int r ∧ 0 ≤ r ∧ r < m)) (hm : m = ws.length) : EvD Y K es (tOp (rIx K) te ue) (fun d => ∃ w ∈ ws, d = dS w) :=
  ev_op ha (fun _ _ => hb.tt) fun a b e1 ⟨r, e2, h0, h1⟩ => by
    subst e1 e2
    refine (os_pick h0 (by rw [List.length_map]; omega)).mono fun d h => ?_
    obtain ⟨w, hw, e⟩ := List.mem_map.mp h
    exact ⟨w, hw, e.symm⟩
abbrev drawSp (K : PySem.W.Frag) : Sp := spW1 K (fun x => ∃ m : Int, x = .int m ∧ 0 < m ∧ m < 1000000) (fun x d => ∀ m : Int, x = .int m → ∃ r : Int, d = .int r ∧ 0 ≤ r ∧ r < m)
theorem ev_draw {i : Nat} {a : Addr} {E : XK} {m : Int} (hi : es[i]? = some (.raw (.ref a))) (hW : Y.Well a) (h0 : 0 < m) (h1 : m < 1000000) : EvD Y K es (tCall (drawSp K) [] E (tCons (tVar i) (tCons (tC (.int m)) tNil))) (fun d => ∃ r : Int, d = .int r ∧ 0 ≤ r ∧ r < m) :=
  (ev_w1 hi hW ev_int ⟨m, rfl, h0, h1⟩).mono fun d h => h m rfl
end
section
variable {X : Cx} {K : PySem.W.Frag} {kk : Nat} {pos : Pos}
abbrev gTri (K : PySem.W.Frag) (i j l : Nat) : TG := gTup K 3 (gCons (gName i) (gCons (gName j) (gCons (gName l) gNil)))
theorem kpg_tri (hK : X.K = K) {x y z : Str} {px py pz : Pos} {i j l : Nat} (hc : X.calm = true) (hN : X.N.Nodup) (hi : X.N[i]? = some x) (hj : X.N[j]? = some y) (hl : X.N[l]? = some z) (hx : Loc X.env.scope x) (hy : Loc X.env.scope y) (hz : Loc X.env.scope z) (fx : X.fn x = true ∨ X.env.scope.names.lookup x = some .local := by first | exact Or.inl rfl | exact Or.inr rfl) (fy : X.fn y = true ∨ X.env.scope.names.lookup y = some .local := by first | exact Or.inl rfl | exact Or.inr rfl) (fz : X.fn z = true ∨ X.env.scope.names.lookup z = some .local := by first | exact Or.inl rfl | exact Or.inr rfl) : PG X (.Tuple [.Name x px, .Name y py, .Name z pz] kk pos) (gTri K i j l) := by
  subst hK
  exact pg_tup hc (pgs_cons (pg_name hN hi hx fx) (pgs_cons (pg_name hN hj hy fy) (pgs_cons (pg_name hN hl hz fz) pgs_nil rfl) rfl) rfl) rfl rfl
end
section
variable {Y : Vol} {K : PySem.W.Frag} {es : List Ent} {te : TE} {t2 : TS} {O : Out} {a b c : PyData}
theorem ss_unp3 {i j l : Nat} {P : PyData → Prop} (h : EvD Y K es te P) (k : ∀ d, P d → ∃ a b c, d = .tuple [a, b, c] ∧ O.nx (((es.set i (.dat a)).set j (.dat b)).set l (.dat c))) : StS Y K es (tAsg te (gTri K i j l)) O := fun H0i H0 Hi H σ s Dn n b c r =>
  h H0i H0 Hi H σ s _ fun v d Hi' H' f hd p => by
    obtain ⟨x, y, z, e, kk⟩ := k d p
    subst e
    cases hd with
    | tup h1 h2 =>
      cases h2 with
      | cons g1 g2 =>
        cases g2 with
        | cons g3 g4 =>
          cases g4 with
          | cons g5 g6 =>
            cases g6
            exact ⟨_, _, rfl, sqt_mono f.sub h1, rfl, _, _, rfl, _, _, rfl, _, _, rfl, rfl, n Hi' H' _ _ f.hi ((((s.step f).setDat g1).setDat g3).setDat g5) kk⟩
end
theorem str_dig {n : Nat} (h : n < 4) : (toString (n : Int) : Str) = SX.S (digN n) := by
  have h4 : n = 0 ∨ n = 1 ∨ n = 2 ∨ n = 3 := by omega
  rcases h4 with rfl | rfl | rfl | rfl <;> decide +kernel
theorem sdAll_len {s : Sd} (h : s ∈ sdAll) : s.verb.length ≤ 10 ∧ s.scope.length ≤ 10 ∧ s.way.length ≤ 10 := by
  have g : (sdAll.all fun s => decide (s.verb.length ≤ 10) && (decide (s.scope.length ≤ 10) && decide (s.way.length ≤ 10))) = true := by decide +kernel
  have := List.all_eq_true.mp g s h
  simpa using this
/-- a drawn program's layers -/
structure SaidsOk (m : Int) (ss : List Sd) : Prop where
  sd : ∀ s ∈ ss, s ∈ sdAll
  ne : ss ≠ []
  le : (ss.length : Int) ≤ m
  wd : (ss.map wdF).sum ≤ 8
theorem wdT_txF {s : Sd} (h : s ∈ sdAll) : wdT (txF s) = wdF s := (sdAll_good h).wd
theorem SaidsOk.good {m : Int} {ss : List Sd} (h : SaidsOk m ss) (hm : m ≤ 4) : GoodT (ss.map txF) := by
  refine ⟨fun z => h.ne (List.map_eq_nil_iff.mp z), by rw [List.length_map]; have := h.le; omega, fun u hu => ?_, ?_⟩
  · obtain ⟨s, hs, e⟩ := List.mem_map.mp hu
    exact ⟨s, h.sd s hs, e.symm⟩
  · have e : ((ss.map txF).map wdT) = ss.map wdF := by
      rw [List.map_map]
      exact List.map_congr_left fun s hs => wdT_txF (h.sd s hs)
    rw [e]
    exact h.wd
def txD : PyData → PyData
  | .tuple [.str v, .str sc, .str wy, .int n, .int e, .bool o, .bool sp] => dS (txF ⟨v.cps.toList, sc.cps.toList, wy.cps.toList, n.toNat, e.toNat, o, sp⟩)
  | _ => .none
theorem txD_sd (s : Sd) : txD (sdD s) = dS (txF s) := by
  obtain ⟨a1, a2, a3, a4, a5, a6, a7⟩ := s
  show dS (txF ⟨(SX.S a1).cps.toList, (SX.S a2).cps.toList, (SX.S a3).cps.toList, (a4 : Int).toNat, (a5 : Int).toNat, a6, a7⟩) = _
  simp [SX.S]
theorem sdAll_num {s : Sd} (h : s ∈ sdAll) : s.num < 4 ∧ s.ev < 4 := by
  have g : (sdAll.all fun s => decide (s.num < 4) && decide (s.ev < 4)) = true := by decide +kernel
  have := List.all_eq_true.mp g s h
  simpa using this
end FR
set_option maxRecDepth 100000
set_option maxHeartbeats 400000
namespace FR
open PySem PySem.Spec PySem.Calls PyProof.Rows L2
/-! ### what is known of the class Program -/
abbrev spLenP (K : PySem.W.Frag) : Sp := sp1 K (fun x => ∃ ls, x = progD ls) (fun x d => ∀ ls, x = progD ls → d = .int ls.length)
abbrev spLayP (K : PySem.W.Frag) : Sp := sp1 K (fun x => ∃ ls, x = progD ls) (fun x d => ∀ ls, x = progD ls → d = .tuple ls)
abbrev spStrP (K : PySem.W.Frag) : Sp := sp1 K (fun x => ∃ a : List (List Nat), x = progD (a.map dS) ∧ (a.map (·.length)).sum + a.length ≤ 1000000) (fun x d => ∀ a : List (List Nat), x = progD (a.map dS) → d = dS (TL.joinL [10] a))
abbrev spEqP (K : PySem.W.Frag) : Sp := sp2 K (fun x y => ∃ a : List (List Nat), x = progD (a.map dS) ∧ AscW a ∧ (Pl y ∨ ∃ b : List (List Nat), y = progD (b.map dS) ∧ AscW b)) (fun x y d => (Pl y → d = .bool false) ∧ ∀ (a b : List (List Nat)), x = progD (a.map dS) → y = progD (b.map dS) → d = .bool (decide (a = b)))
def tyNs : List String := ["NoneType", "bool", "int", "str", "list", "tuple", "dict"]
theorem tyN_mem (d : PyData) : tyN d ∈ tyNs := by
  cases d <;> simp [tyN, tyNs]
structure ProgO (P : Program) (w : World) (K : PySem.W.Frag) (mg : Str → Option Value) (base : Heap) : Prop where
  gm : mg "Program" = some (.ref (He.ga K "Program"))
  ob : ObC K (He.ga K "Program")
  nl : NoAttr K (He.ga K "Program") "_layers"
  k1 : PySem.W.kitOne K (.ref (He.ga K "Program")) (.ref (He.ga K "Program")) = some true
  k0 : ∀ t ∈ tyNs, PySem.W.kitOne K (.type t) (.ref (He.ga K "Program")) = some false
  nf : ∀ t ∈ tyNs, PySem.W.notFirst K (He.ga K "Program") (.type t) = true
  nfo : PySem.W.notFirst K (He.ga K "Program") (.ref (He.ga K "Program")) = true
  ne : PySem.W.findIn K (.ref (He.ga K "Program")) "__ne__" = some (some (.builtin "object.__ne__"))
  bl : PySem.W.findIn K (.ref (He.ga K "Program")) "__bool__" = some none
  ini : ∃ fI fd g, Mk K (He.ga K "Program") fI ∧ FnOk P w K mg base CX0 7 fI fd ["self", "layers"] (spProg K (He.ga K "Program")) ∧ Binds K fd ["self", "layers"] [] ∧ KBn K fd ["self", "layers"] 1 ["layers"] g (fun vs zs => vs ++ zs)
  len : ∃ f fd, FnOk P w K mg base CX0 1 f fd ["self"] (spLenP K) ∧ Binds K fd ["self"] [] ∧ PySem.W.findIn K (.ref (He.ga K "Program")) "__len__" = some (some (.ref f)) ∧ PySem.W.isFn K (.ref f) = true
  str : ∃ f fd, FnOk P w K mg base CX0 1 f fd ["self"] (spStrP K) ∧ Binds K fd ["self"] [] ∧ PySem.W.findIn K (.ref (He.ga K "Program")) "__str__" = some (some (.ref f)) ∧ PySem.W.isFn K (.ref f) = true
  eq : ∃ f fd, FnOk P w K mg base CX0 1 f fd ["self", "other"] (spEqP K) ∧ Binds K fd ["self", "other"] [] ∧ PySem.W.findIn K (.ref (He.ga K "Program")) "__eq__" = some (some (.ref f)) ∧ PySem.W.isFn K (.ref f) = true
  lay : ∃ p g fd, PropOf K (He.ga K "Program") "layers" p g ∧ FnOk P w K mg base CX0 1 g fd ["self"] (spLayP K) ∧ Binds K fd ["self"] []
section
variable {X : Cx} {K : PySem.W.Frag} {e : Expr} {es : List Expr} {p pos : Pos} {t tk : TA} {te : TE} {kws : List Keyword}
theorem kcall_lenP (hK : X.K = K) (PO : ProgO X.prog X.w K X.mg X.base) (hr : Room 2 X.A) : CallR X (.builtin "len") (rLenO (He.ga K "Program") (spLenP K)) := by
  subst hK
  obtain ⟨f, fd, F, hb, hf, ht⟩ := PO.len
  exact call_lenO F hb hr hf (beq_iff_eq.mp ht)
theorem kcall_strP (hK : X.K = K) (PO : ProgO X.prog X.w K X.mg X.base) (hr : Room 3 X.A) : CallR X (.type "str") (rStrO (He.ga K "Program") (spStrP K)) := by
  subst hK
  obtain ⟨f, fd, F, hb, hf, ht⟩ := PO.str
  exact call_strO F hb hr hf ht
theorem kcall_boolP (hK : X.K = K) (PO : ProgO X.prog X.w K X.mg X.base) (hr : Room 4 X.A) : CallR X (.type "bool") (rTruO (He.ga K "Program") (spLenP K)) := by
  subst hK
  obtain ⟨f, fd, F, hb, hf, ht⟩ := PO.len
  exact call_boolO F hb hr PO.bl hf (beq_iff_eq.mp ht)
theorem kop_eqP (hK : X.K = K) (PO : ProgO X.prog X.w K X.mg X.base) (hr : Room 1 X.A) : OpR X (compareOp .Eq) (rEqO K (He.ga K "Program") (spEqP K)) := by
  subst hK
  obtain ⟨f, fd, F, hb, hf, ht⟩ := PO.eq
  exact op_eqO F hb hr hf ht
theorem kop_neP (hK : X.K = K) (PO : ProgO X.prog X.w K X.mg X.base) (hr : Room 2 X.A) : OpR X (compareOp .NotEq) (rNeO K (He.ga K "Program") (spEqP K)) := by
  subst hK
  obtain ⟨f, fd, F, hb, hf, ht⟩ := PO.eq
  exact op_neO F hb hr PO.ob.mr PO.ne hf ht
theorem kpe_layP (hK : X.K = K) (PO : ProgO X.prog X.w K X.mg X.base) (hr : Room 2 X.A) (he : PE X e te) (hab : attributeBase e "layers" X.env (eval e X.env) = eval e X.env := by rfl) : PE X (.Attribute e "layers" pos) (tProp (He.ga K "Program") (spLayP K) [] E0 te) := by
  subst hK
  obtain ⟨p, g, fd, hp, F, hb⟩ := PO.lay
  exact pe_prop he PO.ob.cl hp F hr hb .nil (fun _ _ _ _ _ _ _ h => h.elim) hab
theorem kpe_mkP (hK : X.K = K) (PO : ProgO X.prog X.w K X.mg X.base) (hr : Room 8 X.A) (ha : PA X (e :: es) t) (hg : Gl X "Program" := by rfl)
    (he : starEach (e :: es) X.env = (false, eval e X.env) :: starEach es X.env := by rfl) (hpl : (backTo pos (starEach es X.env)).any (·.1) = false := by rfl) : PE X (.Call (.Name "Program" p) (e :: es) [] pos) (tMake (He.ga K "Program") (spProg K (He.ga K "Program")) [] E0 t) := by
  subst hK
  obtain ⟨fI, fd, g, M, F, hb, _⟩ := PO.ini
  exact pe_make M F hr hg PO.gm hb .nil (fun _ _ _ _ _ _ _ h => h.elim) ha (by decide) he hpl
theorem kpe_mkPK (hK : X.K = K) (PO : ProgO X.prog X.w K X.mg X.base) (hr : Room 8 X.A) (hk : PK X kws tk) (hg : Gl X "Program" := by rfl)
    (hall : (backToKw pos (keywordEach kws X.env)).all (·.1.isSome) = true := by rfl) (hks : (backToKw pos (keywordEach kws X.env)).filterMap (·.1) = (["layers"] : List Str) := by rfl)
    (hpl : ((backTo pos (starEach [] X.env)).any (·.1) || (backToKw pos (keywordEach kws X.env)).any (·.1.isNone)) = false := by rfl) : PE X (.Call (.Name "Program" p) [] kws pos) (tMakeK (He.ga K "Program") 0 1 (spProg K (He.ga K "Program")) (fun vs zs => vs ++ zs) E0 tNil tk) := by
  subst hK
  obtain ⟨fI, fd, g, M, F, _, hb⟩ := PO.ini
  exact pe_makeK0 M F hr hg PO.gm hb (fun _ _ _ _ _ _ _ h => h.elim) hk hall hks (by decide) hpl
end
/-! in the logic -/
section
variable {Pg : Program} {w : World} {mg : Str → Option Value} {base : Heap} {Y : Vol} {K : PySem.W.Frag} {es : List Ent} {te ue : TE} {ls : List PyData} {a b : List (List Nat)} {y : PyData} {E : XK}
theorem ev_lenP (h : EvD Y K es te (· = progD ls)) (hl : ls.length ≤ 1000000) : EvD Y K es (tCB (rLenO (He.ga K "Program") (spLenP K)) (tCons te tNil)) (· = .int ls.length) :=
  ev_cb1d h.tt (cb_lenO (ks := ["_layers"]) rfl ⟨ls, rfl⟩ (fun d h => h ls rfl) (by omega) (by omega))
theorem ev_boolP (h : EvD Y K es te (· = progD ls)) (hl : ls.length ≤ 1000000) : EvD Y K es (tCB (rTruO (He.ga K "Program") (spLenP K)) (tCons te tNil)) (· = .bool ((ls.length : Int) != 0)) :=
  ev_cb1d h.tt (cb_boolO (ks := ["_layers"]) rfl ⟨ls, rfl⟩ (fun d h => h ls rfl) (by omega) (by omega))
theorem ev_strP (h : EvD Y K es te (· = progD (a.map dS))) (hl : (a.map (·.length)).sum + a.length ≤ 1000000) : EvD Y K es (tCB (rStrO (He.ga K "Program") (spStrP K)) (tCons te tNil)) (· = dS (TL.joinL [10] a)) :=
  ev_cb1d h.tt (cb_strO (ks := ["_layers"]) rfl ⟨a, rfl, hl⟩ (fun d h => h a rfl))
theorem ev_layP (h : EvD Y K es te (· = progD ls)) : EvD Y K es (tProp (He.ga K "Program") (spLayP K) [] E te) (· = .tuple ls) :=
  (ev_prop (ks := ["_layers"]) h rfl ⟨ls, rfl⟩).mono fun d h => h ls rfl
theorem ev_isPr (PO : ProgO Pg w K mg base) (h : EvD Y K es te (· = progD ls)) : EvD Y K es (tCB (rIsi K) (tCons te (tCons (tC (.ref (He.ga K "Program"))) tNil))) (· = .bool true) :=
  ev_isObj (ks := ["_layers"]) h.tt rfl (.own _) PO.k1 PO.ob
theorem ev_eqPP (PO : ProgO Pg w K mg base) (h : EvD Y K es te (· = progD (a.map dS))) (h2 : EvD Y K es ue (· = progD (b.map dS))) (ha : AscW a) (hb : AscW b) : EvD Y K es (tOp (rEqO K (He.ga K "Program") (spEqP K)) te ue) (· = .bool (decide (a = b))) :=
  ev_eqO (ks := ["_layers"]) h h2 rfl (tyIs_obj PO.ob rfl) PO.nfo ⟨a, rfl, ha, .inr ⟨b, rfl, hb⟩⟩ fun d h => h.2 a b rfl rfl
theorem ev_nePP (PO : ProgO Pg w K mg base) (h : EvD Y K es te (· = progD (a.map dS))) (h2 : EvD Y K es ue (· = progD (b.map dS))) (ha : AscW a) (hb : AscW b) : EvD Y K es (tOp (rNeO K (He.ga K "Program") (spEqP K)) te ue) (· = .bool (!decide (a = b))) :=
  ev_neO (ks := ["_layers"]) h h2 rfl (tyIs_obj PO.ob rfl) PO.nfo ⟨a, rfl, ha, .inr ⟨b, rfl, hb⟩⟩ fun d h => h.2 a b rfl rfl
theorem ev_eqPx (PO : ProgO Pg w K mg base) (h : EvD Y K es te (· = progD (a.map dS))) (h2 : EvD Y K es ue (· = y)) (ha : AscW a) (hy : Pl y) : EvD Y K es (tOp (rEqO K (He.ga K "Program") (spEqP K)) te ue) (· = .bool false) :=
  ev_eqO (ks := ["_layers"]) h h2 rfl (tyIs_pl hy) (PO.nf _ (tyN_mem y)) ⟨a, rfl, ha, .inl hy⟩ fun d h => h.1 hy
theorem ev_nePx (PO : ProgO Pg w K mg base) (h : EvD Y K es te (· = progD (a.map dS))) (h2 : EvD Y K es ue (· = y)) (ha : AscW a) (hy : Pl y) : EvD Y K es (tOp (rNeO K (He.ga K "Program") (spEqP K)) te ue) (· = .bool (!false)) :=
  ev_neO (ks := ["_layers"]) h h2 rfl (tyIs_pl hy) (PO.nf _ (tyN_mem y)) ⟨a, rfl, ha, .inl hy⟩ fun d h => h.1 hy
theorem os_eqB {i j : Bool} : OpS Y K (rEqU K) (.bool i) (.bool j) (· = .bool (decide (i = j))) := fun Hi H v w p ha hb Q q => by
  rw [ha.bool, hb.bool]
  refine .inl ⟨rfl, ?_⟩
  have e : decide (V.bl i = V.bl j) = decide (i = j) := by
    by_cases e : i = j
    · subst e; simp
    · rw [decide_eq_false e, decide_eq_false fun z => e (V.bl.inj z)]
  rw [e]
  exact q _ _ Hi H (Fr.refl p) (.bl _) rfl
theorem os_neB {i j : Bool} : OpS Y K (rNeU K) (.bool i) (.bool j) (· = .bool (!decide (i = j))) := fun Hi H v w p ha hb Q q => by
  rw [ha.bool, hb.bool]
  refine .inl ⟨rfl, ?_⟩
  have e : decide (V.bl i = V.bl j) = decide (i = j) := by
    by_cases e : i = j
    · subst e; simp
    · rw [decide_eq_false e, decide_eq_false fun z => e (V.bl.inj z)]
  rw [e]
  exact q _ _ Hi H (Fr.refl p) (.bl _) rfl
end
/-- keywords that fill all that no position fills, no defaults -/
theorem kbn_all {K : PySem.W.Frag} {x qual : Str} {params : Arguments} {body : List Stmt} {scope : Scope} {kws : List (Str × V)} {f : Addr} {fd : FuncData} {ps : List Str} {n : Nat} {ks : List Str} (F : FunD K x qual params body scope [] kws f fd)
    (h : ∀ (kV doc pm : Value) (an : Option Addr) (cdv ct : Value) (us ws : List Value), us.length = n → ws.length = ks.length → bindArgs (PySem.W.fnOf x qual params body scope .none kV doc pm an cdv ct) ⟨us, ks.zip ws⟩ = pure (ps.zip (us ++ ws))) : KBn K fd ps n ks (fun us ws => us ++ ws) (fun vs zs => vs ++ zs) := by
  obtain ⟨oc, od, dV, kV, doc, pm, an, cdv, ct, osl, rfl, lk, hcd, hD, hK⟩ := F.ex
  rcases hD with ⟨_, rfl⟩ | ⟨e, _⟩
  · exact ⟨fun s us ws _ h1 h2 => .of_eq (h kV doc pm an cdv ct us ws h1 h2), fun r1 r2 => vals_app r1 r2⟩
  · exact absurd rfl e
end FR
set_option maxRecDepth 100000
set_option maxHeartbeats 400000
namespace FR
open PySem PySem.Spec PySem.Calls PyProof.Rows L2
/-! ### texts of programs, shown -/
theorem joinL_mem {s : List Nat} : ∀ {l : List (List Nat)} {c : Nat}, c ∈ TL.joinL s l → c ∈ s ∨ ∃ t ∈ l, c ∈ t
  | [], c, h => by
    have h : c ∈ ([] : List Nat) := h
    cases h
  | [p], c, h => .inr ⟨p, List.mem_cons_self, h⟩
  | p :: q :: r, c, h => by
    have h : c ∈ p ++ (s ++ TL.joinL s (q :: r)) := h
    rcases List.mem_append.mp h with h | h
    · exact .inr ⟨p, List.mem_cons_self, h⟩
    · rcases List.mem_append.mp h with h | h
      · exact .inl h
      · rcases joinL_mem h with h | ⟨t, ht, h⟩
        · exact .inl h
        · exact .inr ⟨t, List.mem_cons_of_mem _ ht, h⟩
theorem GoodT.join_asc {a : List (List Nat)} (g : GoodT a) : Asc (TL.joinL [10] a) := fun c hc => by
  rcases joinL_mem hc with h | ⟨t, ht, h⟩
  · rw [List.mem_singleton.mp h]
    decide
  · exact g.asc t ht c h
theorem GoodT.join_len {a : List (List Nat)} (g : GoodT a) : (TL.joinL [10] a).length ≤ 1000 := by
  have h1 := joinL_len (s := [10]) a g.short
  have h2 : a.length * (60 + ([10] : List Nat).length) ≤ 4 * (60 + ([10] : List Nat).length) := Nat.mul_le_mul_right _ g.len
  have h3 : 4 * (60 + ([10] : List Nat).length) = 244 := rfl
  omega
theorem texts_sm {a : List (List Nat)} (g : GoodT a) : Sm 1 3000 (.tuple (a.map dS)) := by
  refine (sm_tup (D := 0) (L := 602) fun d hd => ?_).mono (Nat.le_refl _) ?_
  · obtain ⟨u, hu, rfl⟩ := List.mem_map.mp hd
    have h1 := g.short u hu
    exact (sm_A (g.asc u hu)).mono (Nat.le_refl _) (by omega)
  · rw [List.length_map]
    have : a.length * (602 + 2) ≤ 4 * (602 + 2) := Nat.mul_le_mul_right _ g.len
    omega
section
variable {Y : Vol} {K : PySem.W.Frag} {d : PyData} {D L : Nat}
theorem rp (h : Sm D L d) (h1 : D ≤ 60) (h2 : L ≤ 1000000) : CbS Y K (rRepr K) [d] (· = .str d.shown) := cb_repr (h.shn h1 h2).sh (h.shn h1 h2).nd (h.shn h1 h2).dp (h.shn h1 h2).ln
end
theorem law_read0 {Y : Vol} {K : PySem.W.Frag} {T : List (Addr × Str)} {H : Hp} {a : Addr} {N : List Str} {Q : VK} {nx : L2.St → Hp → Prop} {bk ct : L2.St → Hp → Prop} {tw : TE} {j : Nat} {E : XK} (hN : 1 ≤ N.length) (hj : j < N.length) (hL : Y.Lam T) (p : Pre Y (fun _ => none) H)
    (hl : EvD Y K (.raw (.ref a) :: List.replicate (N.length - 1) .unk) tw (fun d => ∃ ds, d = .list ds ∧ ds.length ≤ 100 ∧ ∀ x ∈ ds, wellD x)) (hQ : ∀ H', Q (.bl true) H') :
    (tRet (tCB (rAll K) (tCons (tLc (iSeqU K tw) (gName j) tYes (tCall (spLW K T (· = .bool true)) [] E (tCons (tVar j) tNil)) [j]) tNil))) { nx := nx, bk := bk, ct := ct, rt := Q } (L2.start N [.ref a]) H :=
  law_read (t1 := tNext) hN hj hL p (ss_next ⟨hl, by rw [List.length_cons, List.length_replicate]; omega⟩) hQ
end FR
set_option maxRecDepth 100000
set_option maxHeartbeats 400000
namespace FR
open PySem PySem.Spec PySem.Calls PyProof.Rows L2
/-! ### the head: defs that stand at addresses found in K (getters of properties) -/
structure DefP where
  at_ : PySem.W.Frag → Addr
  name : Str
  qual : Str
  params : Arguments
  body : List Stmt
  scope : Scope
def fnWa (K : PySem.W.Frag) (a : Addr) : He.FnW := match K.lookup a with
  | some ⟨_, _, .func fd, _⟩ => some (fd.name, fd.qualname, fd.params, fd.body, fd.scope, fd.globals, fd.closure, fd.builtins)
  | _ => none
def DefP.val (d : DefP) : He.FnW := some (d.name, d.qual, d.params, .stmts d.body, d.scope, mainGlobals, [], builtinsNs)
def DefP.ok (K : PySem.W.Frag) (d : DefP) : Bool := PySem.W.keepIn K (.ref (d.at_ K)) && (match K.lookup (d.at_ K) with
  | some ⟨_, _, .func fd, _⟩ => PySem.W.codeIn K fd.code d.qual && (He.dflB K fd.defaults [] && He.kwdB K fd.kwdefaults [])
  | _ => false)
theorem DefP.funD {K : PySem.W.Frag} {d : DefP} (e : fnWa K (d.at_ K) = d.val) (c : d.ok K = true) : ∃ fd, FunD K d.name d.qual d.params d.body d.scope [] [] (d.at_ K) fd := by
  obtain ⟨kp, c2⟩ := He.ba c
  unfold fnWa at e
  cases q : K.lookup (d.at_ K) with
  | none =>
    rw [q] at c2
    cases c2
  | some o =>
    obtain ⟨oc, od, dt, osl⟩ := o
    rw [q] at c2 e
    cases dt with
    | func fd =>
      obtain ⟨n1, n2, n3, n4, n5, n6, n7, n8, n9, n10, n11, n12, n13, n14, n15⟩ := fd
      have e2 : (some (n1, n2, n3, n4, n5, n6, n7, n15) : He.FnW) = some (d.name, d.qual, d.params, .stmts d.body, d.scope, mainGlobals, [], builtinsNs) := e
      simp only [Option.some.injEq, Prod.mk.injEq] at e2
      obtain ⟨h1, h2, h3, h4, h5, h6, h7, h8⟩ := e2
      subst h1 h2 h3 h4 h5 h6 h7 h8
      have c3 : (PySem.W.codeIn K n13 d.qual && (He.dflB K n8 [] && He.kwdB K n9 [])) = true := c2
      obtain ⟨k1, k2⟩ := He.ba c3
      obtain ⟨k3, k4⟩ := He.ba k2
      exact ⟨_, ⟨oc, od, n8, n9, n10, n11, n12, n13, n14, osl, rfl, q, k1, He.dflB_ok k3, He.kwdB_ok k4⟩, kp⟩
    | _ => cases c2
abbrev AlP : Type := He.AlX × (List He.FnW × Bool)
def obsPK (pr : List DefP) (K : PySem.W.Frag) : List He.FnW × Bool := (pr.map fun d => fnWa K (d.at_ K), pr.all fun d => d.ok K)
def obsP (n : Nat) (fa : List He.Fa) (fn : List He.DefD) (ts : List He.Tab) (tf : List He.Defn) (ex : PySem.W.Frag → Bool) (pr : List DefP) (g : Addr → Option Obj) : AlP := (He.obsX n fa fn ts tf ex g, obsPK pr (He.frT g (He.asD g n)))
def SaysP (pr : List DefP) (K : PySem.W.Frag) : Prop := obsPK pr K = (pr.map DefP.val, true)
theorem SaysP.at_ {pr : List DefP} {K : PySem.W.Frag} (c : SaysP pr K) (i : Nat) {d : DefP} (h : pr[i]? = some d := by rfl) : ∃ fd, FunD K d.name d.qual d.params d.body d.scope [] [] (d.at_ K) fd := by
  have c2 : (pr.all fun d => d.ok K) = true := congrArg (fun z : List He.FnW × Bool => z.2) c
  have e : pr.map (fun d => fnWa K (d.at_ K)) = pr.map DefP.val := congrArg (fun z : List He.FnW × Bool => z.1) c
  have e2 : (pr.map fun d => fnWa K (d.at_ K))[i]? = (pr.map DefP.val)[i]? := by rw [e]
  rw [List.getElem?_map, List.getElem?_map, h] at e2
  exact DefP.funD (Option.some.inj e2) (List.all_eq_true.mp c2 d (List.mem_of_getElem? h))
def hookP (n : Nat) (fa : List He.Fa) (fn : List He.DefD) (ts : List He.Tab) (tf : List He.Defn) (ex : PySem.W.Frag → Bool) (pr : List DefP) : PySem.W.Hook where
  α := AlP
  obs := fun s => obsP n fa fn ts tf ex pr s.heap.get?
  val := fun w => (He.valX fn ts w, (pr.map DefP.val, true))
  says := fun w h => ∃ K : PySem.W.Frag, K.In h ∧ He.SaysX fa fn ts tf ex w h K ∧ SaysP pr K
  of := fun _ _ e => ⟨_, He.frT_in, He.saysX_of (congrArg (fun z : AlP => z.1) e), congrArg (fun z : AlP => z.2) e⟩
  keeps := fun _ _ _ ⟨K, hK, c, p⟩ k => ⟨K, PySem.W.Frag.In.keeps hK k, ⟨c.t, c.more, c.hd, c.out, fun p hp => k _ _ (c.empty p hp)⟩, p⟩
theorem obsP_eq {n : Nat} {fa : List He.Fa} {fn : List He.DefD} {ts : List He.Tab} {tf : List He.Defn} {ex : PySem.W.Frag → Bool} {pr : List DefP} {g : Addr → Option Obj} {s : Shared} (h : ∀ a, g a = s.heap.get? a) : obsP n fa fn ts tf ex pr g = (hookP n fa fn ts tf ex pr).obs s := by
  have e : g = s.heap.get? := funext h
  rw [e] <;> rfl
/-! a method; a keyword default that is an object; a property -/
def ddM (C m : Str) (st : Stmt) : He.DefD := ⟨(C, some m), m, C ++ "." ++ m, defArgs st, defBody st, defScope st, [], []⟩
def ddMk (C m : Str) (st : Stmt) (kw : List (Str × He.Dv)) : He.DefD := ⟨(C, some m), m, C ++ "." ++ m, defArgs st, defBody st, defScope st, [], kw⟩
def kwAt (f : Str × Option Str) (x : Str) (K : PySem.W.Frag) : Addr := match K.lookup (He.fAd K f) with
  | some ⟨_, _, .func fd, _⟩ => (match fd.kwdefaults with
    | .ref D => (match PySem.W.nsIn K D x with
      | some (some (.ref a)) => a
      | _ => 0)
    | _ => 0)
  | _ => 0
def getA (C m : Str) (K : PySem.W.Frag) : Addr := match PySem.W.recIn K (He.ma K (He.ga K C) m) "property" with
  | some (.ref g :: _) => g
  | _ => 0
def propB (K : PySem.W.Frag) (C m : Str) : Bool := decide (PySem.W.findIn K (.ref (He.ga K C)) m = some (some (.ref (He.ma K (He.ga K C) m)))) && (decide (PySem.W.specialIn K (.ref (He.ma K (He.ga K C) m)) "__get__" = some (some (.builtin "property.__get__"))) && (decide (PySem.W.takesIn K (.ref (He.ma K (He.ga K C) m)) = some true) && (match PySem.W.recIn K (He.ma K (He.ga K C) m) "property" with
  | some (.ref _ :: _) => true
  | _ => false)))
theorem propB_ok {K : PySem.W.Frag} {C m : Str} (h : propB K C m = true) : PropOf K (He.ga K C) m (He.ma K (He.ga K C) m) (getA C m K) := by
  unfold propB at h
  simp only [Bool.and_eq_true, decide_eq_true_eq] at h
  obtain ⟨h1, h2, h3, h4⟩ := h
  refine ⟨h1, h2, h3, ?_⟩
  unfold getA
  split at h4
  · rename_i g rest e
    rw [e]
    exact ⟨rest, rfl⟩
  · cases h4
def ddP (C m : Str) (st : Stmt) : DefP := ⟨getA C m, m, C ++ "." ++ m, defArgs st, defBody st, defScope st⟩
theorem fun_ofM {K : PySem.W.Frag} {x q : Str} {st : Stmt} {f : Addr} {fd : FuncData} (F : FunD K x q (defArgs st) (defBody st) (defScope st) [] [] f fd) : Fun K x q st f fd := by
  obtain ⟨oc, od, dV, kV, doc, pm, an, cdv, ct, osl, e, lk, hcd, hd, _⟩ := F.ex
  rcases hd with ⟨_, rfl⟩ | ⟨h, _⟩
  · exact ⟨⟨oc, od, kV, doc, pm, an, cdv, ct, osl, e, lk, hcd⟩, F.kp⟩
  · exact absurd rfl h
/-- what is asked of the class Program by itself -/
def progB (K : PySem.W.Frag) : Bool := obB K (He.ga K "Program") && (decide (PySem.W.kitOne K (.ref (He.ga K "Program")) (.ref (He.ga K "Program")) = some true) && ((tyNs.all fun t => decide (PySem.W.kitOne K (.type t) (.ref (He.ga K "Program")) = some false)) && ((tyNs.all fun t => PySem.W.notFirst K (He.ga K "Program") (.type t)) && (PySem.W.notFirst K (He.ga K "Program") (.ref (He.ga K "Program")) && (decide (PySem.W.findIn K (.ref (He.ga K "Program")) "__ne__" = some (some (.builtin "object.__ne__"))) && (decide (PySem.W.findIn K (.ref (He.ga K "Program")) "__bool__" = some none) && propB K "Program" "layers"))))))
theorem progB_ok {K : PySem.W.Frag} (h : progB K = true) : ObC K (He.ga K "Program") ∧ PySem.W.kitOne K (.ref (He.ga K "Program")) (.ref (He.ga K "Program")) = some true ∧ (∀ t ∈ tyNs, PySem.W.kitOne K (.type t) (.ref (He.ga K "Program")) = some false) ∧ (∀ t ∈ tyNs, PySem.W.notFirst K (He.ga K "Program") (.type t) = true) ∧ PySem.W.notFirst K (He.ga K "Program") (.ref (He.ga K "Program")) = true ∧ PySem.W.findIn K (.ref (He.ga K "Program")) "__ne__" = some (some (.builtin "object.__ne__")) ∧ PySem.W.findIn K (.ref (He.ga K "Program")) "__bool__" = some none ∧ PropOf K (He.ga K "Program") "layers" (He.ma K (He.ga K "Program") "layers") (getA "Program" "layers" K) := by
  unfold progB at h
  simp only [Bool.and_eq_true, decide_eq_true_eq, List.all_eq_true] at h
  obtain ⟨h1, h2, h3, h4, h5, h6, h7, h8⟩ := h
  exact ⟨obB_ok h1, h2, h3, h4, h5, h6, h7, propB_ok h8⟩
/-! keyword defaults of the spans and the layers -/
section
variable {P : Program} {w : World} {K : PySem.W.Frag} {mg : Str → Option Value} {base : Heap}
theorem mkO_of {x : Str} {fl ks : List Str} {n : Nat} {gV : List V → List V → List V} {fI : Addr} {fd : FuncData} (gm : mg x = some (.ref (He.ga K x))) (M : Mk K (He.ga K x) fI) (F : FnOk P w K mg base CX0 1 fI fd ("self" :: fl) (spIn (He.ga K x) fl)) {g : List Value → List Value → List Value} (b : KBn K fd ("self" :: fl) (n + 1) ks g gV) : MkO P w K mg base x fl n ks gV := ⟨gm, fI, fd, g, M, F, b⟩
end
end FR
set_option maxRecDepth 100000
set_option maxHeartbeats 400000
namespace FR
open PySem PySem.Spec PySem.Calls PyProof.Rows L2
section
variable {Y : Vol} {K : PySem.W.Frag} {H0i H0 Hi H : Hp} {σ : L2.St} {es : List Ent} {te tb : TE} {t2 : TS} {O : Out} {ds xs : List PyData} {i j : Nat} {P : PyData → Prop}
/-- a slot's own list becomes data -/
theorem StIs.freeze (s : StIs Y K H0i H0 Hi H σ es) (h : es[i]? = some (.own ds)) : ∃ a vs, σ[i]? = some (some (.ref a)) ∧ Same Hi (upd Hi a (.lst vs)) ∧ StIs Y K H0i H0 (upd Hi a (.lst vs)) H σ (es.set i (.dat (.list ds))) := by
  obtain ⟨x, e1, a, vs, rfl, h1, h2, h3, h4, h5⟩ := s.env i _ h
  have sm := same_upd (o := HO.lst vs) h2
  have hl : i < es.length := (List.getElem?_eq_some_iff.mp h).1
  refine ⟨a, vs, e1, sm, ⟨s.fr.hi.trans sm, fun b o e => ?_, s.fr.inv, fun b o e => ?_, s.fr.keep, fun b o e => ?_⟩, by rw [List.length_set, s.len], fun j e hj => ?_, fun j k b ds1 ds2 hjk g1 g2 g3 => ?_⟩
  · by_cases hb : b = a
    · rw [hb, upd_same] at e
      rw [hb]
      cases e
      exact h4
    · rw [upd_ne hb] at e
      exact s.fr.sub b o e
  · by_cases hb : b = a
    · rw [hb, upd_same] at e
      cases e
      rw [hb]
      exact ⟨h3, not_tb_lst⟩
    · rw [upd_ne hb] at e
      exact s.fr.out b o e
  · by_cases hb : b = a
    · rw [hb]
      exact .inr h1
    · rw [upd_ne hb] at e
      exact s.fr.new b o e
  · by_cases hij : i = j
    · subst hij
      rw [List.getElem?_set_self hl] at hj
      cases hj
      exact ⟨_, e1, .ref a, rfl, .lst upd_same (DaAll.mono sm _ _ h5)⟩
    · rw [List.getElem?_set_ne hij] at hj
      obtain ⟨y, f1, f2⟩ := s.env j e hj
      refine ⟨y, f1, ?_⟩
      cases e with
      | unk => trivial
      | dat d =>
        obtain ⟨v, z1, z2⟩ := f2
        exact ⟨v, z1, Da.mono sm _ _ z2⟩
      | raw _ => exact f2
      | own ds3 =>
        obtain ⟨b, ws', z1, z2, z3, z4, z5, z6⟩ := f2
        refine ⟨b, ws', z1, z2, ?_, z4, z5, DaAll.mono sm _ _ z6⟩
        have hb : b ≠ a := fun q => by
          subst q
          subst z1
          exact s.dis i j b ds ds3 hij h hj e1 f1
        rw [upd_ne hb]
        exact z3
  · have old : ∀ (n : Nat) (ds' : List PyData), (es.set i (.dat (.list ds)))[n]? = some (.own ds') → es[n]? = some (.own ds') := fun n ds' g => by
      by_cases hn : i = n
      · subst hn
        rw [List.getElem?_set_self hl] at g
        cases g
      · rwa [List.getElem?_set_ne hn] at g
    exact s.dis j k b _ _ hjk (old _ _ g1) (old _ _ g2) g3
/-- xs.append(ys), both of one's own: ys becomes data -/
theorem ss_appOwn (hi : es[i]? = some (.own ds)) (hj : es[j]? = some (.own xs)) (hij : i ≠ j) (hz : ds.length < 100000) (k : O.nx ((es.set j (.dat (.list xs))).set i (.own (ds ++ [.list xs])))) : StS Y K es (tDrop (tBM K "list" rAppend (tVar i) (tCons (tVar j) tNil))) O := fun H0i H0 Hi H σ s Dn n b c r => by
  obtain ⟨a, vs, e1, sm, s'⟩ := s.freeze hj
  have hl : j < es.length := (List.getElem?_eq_some_iff.mp hj).1
  refine (ss_app (O := O) (es := es.set j (.dat (.list xs))) (P := (· = .list xs)) (by rw [List.getElem?_set_ne hij.symm]; exact hi) (ev_var (List.getElem?_set_self hl)) hz fun d e => by rw [e]; exact k) H0i H0 _ H σ s' Dn (fun _ _ _ _ m => n _ _ _ _ (sm.trans m)) (fun _ _ _ _ m => b _ _ _ _ (sm.trans m)) (fun _ _ _ _ m => c _ _ _ _ (sm.trans m)) r
/-- xs.extend(ys) -/
theorem ss_ext (hi : es[i]? = some (.own ds)) (h : EvD Y K es te (· = .list xs)) (hz : ds.length + xs.length ≤ 100000) (k : O.nx (es.set i (.own (ds ++ xs)))) : StS Y K es (tDrop (tBM K "list" rExtend (tVar i) (tCons te tNil))) O := fun H0i H0 Hi H σ s Dn n b c r => by
  obtain ⟨x, e1, a, vs, rfl, h1, h2, h3, h4, h5⟩ := s.env i _ hi
  refine ⟨.ref a, e1, .inl ⟨rfl, vs, .inl (.inl h4)⟩, ?_⟩
  refine h H0i H0 Hi H σ s _ fun v d Hi' H' f hd p => ?_
  subst p
  cases hd with
  | @lst q ws _ g1 g2 =>
    have s' := s.step f
    have h4' : H' a = some (.lst vs) := f.keep _ _ h4 h3 not_tb_lst
    have h5' := DaAll.mono f.hi _ _ h5
    exact ⟨a, q, vs, ws, rfl, rfl, h4', f.sub _ _ g1, by rw [h5'.len, g2.len]; exact Nat.le_trans hz (by decide), n Hi' _ _ _ f.hi (s'.putOwn (ws := vs ++ ws) hi e1 (h5'.append g2)) k⟩
theorem qs_ext (hi : es[i]? = some (.own ds)) (h : EvD Y K es te (· = .list xs)) (hz : ds.length + xs.length ≤ 100000) (k : StS Y K (es.set i (.own (ds ++ xs))) t2 O) : StS Y K es (tSeq (tDrop (tBM K "list" rExtend (tVar i) (tCons te tNil))) t2) O :=
  ss_seq (M := fun e => e = es.set i (.own (ds ++ xs))) (ss_ext hi h hz rfl) fun e e1 => e1 ▸ k
/-- n in t, ints -/
theorem os_inTi {x : Int} {ns : List Int} : OpS Y K (rInU K) (.int x) (.tuple (ns.map .int)) (· = .bool (decide (x ∈ ns))) := fun Hi H v w p ha hb Q q => by
  obtain ⟨b, vs, rfl, h1, _, h2⟩ := hb.tup p.sub
  have e := h2.ints
  subst e
  rw [ha.int]
  refine .inl (.inl ⟨b, _, rfl, .inr h1, rfl, by rw [List.all_map]; exact List.all_eq_true.mpr fun _ _ => rfl, ?_⟩)
  have e : inV (.int x) (ns.map V.int) = decide (x ∈ ns) := by
    unfold inV
    rw [List.any_map]
    by_cases hx : x ∈ ns
    · rw [decide_eq_true hx]
      exact List.any_eq_true.mpr ⟨x, hx, by simp [eqV]⟩
    · rw [decide_eq_false hx]
      apply List.any_eq_false.mpr
      intro y hy
      show ¬ ((y == x) = true)
      exact fun z => hx (by rw [← eq_of_beq z]; exact hy)
  show Q (.bl (if false = true then !inV _ _ else inV _ _)) H
  rw [if_neg Bool.false_ne_true, e]
  exact q _ _ Hi H (Fr.refl p) (.bl _) rfl
/-- the truth of a tuple -/
theorem tb_truT (h : EvD Y K es te (· = .tuple ds)) : TsB Y K es (tTru K te) (· = !ds.isEmpty) := fun H0i H0 Hi H σ s Q q =>
  h H0i H0 Hi H σ s _ fun v d Hi1 H1 f1 hv e => by
    subst e
    cases hv with
    | @tup a vs _ h1 h2 =>
      refine ⟨!vs.isEmpty, .inr (.inl ⟨vs, sqt_mono f1.sub h1, rfl⟩), q _ Hi1 H1 f1 ?_⟩
      have := h2.len
      cases vs <;> cases ds <;> first | rfl | cases this
end
/-! methods of own classes, as defs over data -/
structure MthO (P : Program) (w : World) (K : PySem.W.Frag) (mg : Str → Option Value) (base : Heap) (C m : Str) (k : Nat) (ps : List Str) (sp : Sp) : Prop where
  ex : ∃ f fd, Meth K (He.ga K C) m f ∧ FnOk P w K mg base CX0 k f fd ps sp ∧ Binds K fd ps []
theorem kpe_methO {X : Cx} {K : PySem.W.Frag} (hK : X.K = K) {C m : Str} {k : Nat} {ps : List Str} {sp : Sp} {o e : Expr} {es : List Expr} {ta : TE} {t : TA} {apos pos : Pos} {pl : Sem Bool} (M : MthO X.prog X.w K X.mg X.base C m k ps sp) (c : Cls K (He.ga K C)) (hr : Room k X.A) (he : PE X o ta) (ha : PA X (e :: es) t)
    (hst : starEach (e :: es) X.env = (false, eval e X.env) :: starEach es X.env := by rfl) (hpl : (backTo pos (starEach es X.env)).any (·.1) = false := by rfl)
    (ht : eval (.Call (.Attribute o m apos) (e :: es) [] pos) X.env = (do
      let ov ← eval o X.env
      standAt apos.atName
      let (f, first) ← holding [ov] (getMethod ov m pl)
      callWith pos f first (backTo pos (starEach (e :: es) X.env)) (backToKw pos (keywordEach [] X.env))) := by rfl) : PE X (.Call (.Attribute o m apos) (e :: es) [] pos) (tMeth (He.ga K C) m sp [] E0 ta t) := by
  subst hK
  obtain ⟨f, fd, hm, F, hb⟩ := M.ex
  exact pe_meth he c hm F hr hb .nil (fun _ _ _ _ _ _ _ h => h.elim) ha hst hpl ht
section
variable {Y : Vol} {K : PySem.W.Frag} {es : List Ent} {te ue : TE} {c m : Str} {ks : List Str} {ds : List PyData} {x : PyData} {E : XK} {P : PyData → PyData → Prop} {Q : PyData → PyData → PyData → Prop}
/-- o.m(x) -/
theorem ev_meth1 (ha : EvD Y K es te (· = objD c ks ds)) (hl : ks.length = ds.length) (hm : m ∉ ks) (hx : EvD Y K es ue (· = x)) (hp : P (objD c ks ds) x) : EvD Y K es (tMeth (He.ga K c) m (sp2 K P Q) [] E te (tCons ue tNil)) (Q (objD c ks ds) x) :=
  (ev_methO (pre := fun ds => ∃ x y, ds = [x, y] ∧ P x y) (post := fun ds d => ∀ x y, ds = [x, y] → Q x y d) ha hl hm (ar_consd hx ar_nil) rfl ⟨_, _, rfl, hp⟩).mono fun d h => h _ _ rfl
end
end FR
set_option maxRecDepth 100000
set_option maxHeartbeats 400000
namespace FR
open PySem PySem.Spec PySem.Calls PyProof.Rows L2
/-! ### data, compared sign by sign -/
mutual
def eqP : PyData → PyData → Bool
  | .none, .none => true
  | .bool a, .bool b => a == b
  | .int a, .int b => decide (a = b)
  | .str a, .str b => decide (a = b)
  | .list a, .list b => eqPs a b
  | .tuple a, .tuple b => eqPs a b
  | .dict a, .dict b => eqPd a b
  | _, _ => false
def eqPs : List PyData → List PyData → Bool
  | [], [] => true
  | a :: r, b :: q => eqP a b && eqPs r q
  | _, _ => false
def eqPd : List (PyData × PyData) → List (PyData × PyData) → Bool
  | [], [] => true
  | (a, x) :: r, (b, y) :: q => eqP a b && (eqP x y && eqPd r q)
  | _, _ => false
end
mutual
theorem eqP_ok : ∀ {a b : PyData}, eqP a b = true → a = b
  | .none, .none, _ => rfl
  | .bool a, .bool b, h => by rw [eqP] at h; rw [eq_of_beq h]
  | .int a, .int b, h => by rw [eqP] at h; rw [of_decide_eq_true h]
  | .str a, .str b, h => by rw [eqP] at h; rw [of_decide_eq_true h]
  | .list a, .list b, h => by rw [eqP] at h; rw [eqPs_ok h]
  | .tuple a, .tuple b, h => by rw [eqP] at h; rw [eqPs_ok h]
  | .dict a, .dict b, h => by rw [eqP] at h; rw [eqPd_ok h]
  | .none, .bool _, h | .none, .int _, h | .none, .str _, h | .none, .list _, h | .none, .tuple _, h | .none, .dict _, h => by simp [eqP] at h
  | .bool _, .none, h | .bool _, .int _, h | .bool _, .str _, h | .bool _, .list _, h | .bool _, .tuple _, h | .bool _, .dict _, h => by simp [eqP] at h
  | .int _, .none, h | .int _, .bool _, h | .int _, .str _, h | .int _, .list _, h | .int _, .tuple _, h | .int _, .dict _, h => by simp [eqP] at h
  | .str _, .none, h | .str _, .bool _, h | .str _, .int _, h | .str _, .list _, h | .str _, .tuple _, h | .str _, .dict _, h => by simp [eqP] at h
  | .list _, .none, h | .list _, .bool _, h | .list _, .int _, h | .list _, .str _, h | .list _, .tuple _, h | .list _, .dict _, h => by simp [eqP] at h
  | .tuple _, .none, h | .tuple _, .bool _, h | .tuple _, .int _, h | .tuple _, .str _, h | .tuple _, .list _, h | .tuple _, .dict _, h => by simp [eqP] at h
  | .dict _, .none, h | .dict _, .bool _, h | .dict _, .int _, h | .dict _, .str _, h | .dict _, .list _, h | .dict _, .tuple _, h => by simp [eqP] at h
theorem eqPs_ok : ∀ {a b : List PyData}, eqPs a b = true → a = b
  | [], [], _ => rfl
  | a :: r, b :: q, h => by
    rw [eqPs, Bool.and_eq_true] at h
    rw [eqP_ok h.1, eqPs_ok h.2]
  | [], _ :: _, h => by simp [eqPs] at h
  | _ :: _, [], h => by simp [eqPs] at h
theorem eqPd_ok : ∀ {a b : List (PyData × PyData)}, eqPd a b = true → a = b
  | [], [], _ => rfl
  | (a, x) :: r, (b, y) :: q, h => by
    rw [eqPd, Bool.and_eq_true, Bool.and_eq_true] at h
    rw [eqP_ok h.1, eqP_ok h.2.1, eqPd_ok h.2.2]
  | [], _ :: _, h => by simp [eqPd] at h
  | _ :: _, [], h => by simp [eqPd] at h
end
/-! ### layers, as they are read -/
structure Ly where
  w : Nat
  sc : List Nat
  a : Bool
  b : Bool
  ds : Option (List Int)
  m : Nat
  ends : List Int
  own : Bool
  ft : Bool
  cl : Bool
def dsD : Option (List Int) → PyData
  | none => .none
  | some l => .tuple (l.map .int)
abbrev spanOf (L : Ly) : PyData := spanD L.a L.b (dsD L.ds) L.m L.ends
abbrev lyD (L : Ly) : PyData := layD L.w L.sc (spanOf L) L.own L.ft L.cl
def lyOf (s : Sd) : Ly :=
  if s.verb = wClear then ⟨0, wRow, false, false, some [], 1, [], false, false, true⟩
  else if s.way = wFirst then ⟨1, s.scope, true, false, none, 1, [0, 3], s.own || decide (s.verb = wAdd), s.sp, false⟩
  else if s.way = wLast then ⟨1, s.scope, false, true, none, 1, [4, 3], s.own || decide (s.verb = wAdd), s.sp, false⟩
  else if s.way = wAtBack then ⟨wdF s, s.scope, true, false, some [(s.num : Int)], 1, [], s.own || decide (s.verb = wAdd), s.sp, false⟩
  else if s.way = wAtAhead then ⟨wdF s, s.scope, false, true, some [(s.num : Int)], 1, [], s.own || decide (s.verb = wAdd), s.sp, false⟩
  else ⟨wdF s, s.scope, decide (s.way ≠ wAhead), decide (s.way ≠ wBack), if s.num = 0 then none else some (((List.range s.num).filter fun k => decide ((1 + k) % s.ev = 0)).map fun k : Nat => 1 + (k : Int)), s.ev, [], s.own || decide (s.verb = wAdd), s.sp, false⟩
theorem ly_all : (sdAll.all fun s => eqP (layU (txF s) (TL.spl [32] 0 [] (txF s))) (lyD (lyOf s))) = true := by decide +kernel
theorem layF_sd {s : Sd} (h : s ∈ sdAll) : layF (txF s) = lyD (lyOf s) := by
  rw [layF_U]
  exact eqP_ok (List.all_eq_true.mp ly_all s h)
end FR
set_option maxRecDepth 100000
set_option maxHeartbeats 400000
namespace FR
open PySem PySem.Spec PySem.Calls PyProof.Rows L2
/-! ### the places of a line: signs, starts, pieces -/
def sgBlk (n : Int) : List Int := if n < 0 then List.replicate (-n).toNat 2 else if n = 1 then [3] else [0] ++ List.replicate (n - 2).toNat 1 ++ [4]
def sigN (ns : List Int) : List Int := (ns.map sgBlk).flatten
def pcB : Int → List Int → List Int
  | _, [] => []
  | k, n :: r => List.replicate (absI n).toNat k ++ pcB (k + 1) r
def sgAt (n : Int) (o : Nat) : Int := if n < 0 then 2 else if n = 1 then 3 else if o = 0 then 0 else if (o : Int) = n - 1 then 4 else 1
theorem absI_def (n : Int) : absI n = if n < 0 then -n else n := rfl
theorem sgBlk_len {n : Int} (h : n ≠ 0) : ((sgBlk n).length : Int) = absI n := by
  unfold sgBlk absI
  split
  · rw [List.length_replicate]
    omega
  · split
    · simp only [List.length_cons, List.length_nil]
      omega
    · simp only [List.length_append, List.length_cons, List.length_nil, List.length_replicate]
      omega
theorem sgBlk_get {n : Int} {o : Nat} (h : n ≠ 0) (ho : (o : Int) < absI n) : (sgBlk n)[o]? = some (sgAt n o) := by
  unfold sgBlk sgAt
  rw [absI_def] at ho
  by_cases h1 : n < 0
  · rw [if_pos h1] at ho
    rw [if_pos h1, if_pos h1, List.getElem?_replicate, if_pos (by omega)]
  · rw [if_neg h1] at ho
    rw [if_neg h1, if_neg h1]
    by_cases h2 : n = 1
    · have e : o = 0 := by omega
      subst e
      rw [if_pos h2, if_pos h2]
      rfl
    · rw [if_neg h2, if_neg h2]
      by_cases h3 : o = 0
      · subst h3
        rw [if_pos rfl]
        rfl
      · rw [if_neg h3]
        obtain ⟨o', rfl⟩ : ∃ o', o = o' + 1 := ⟨o - 1, by omega⟩
        show ((List.replicate (n - 2).toNat (1 : Int) ++ [4]) : List Int)[o']? = _
        by_cases h4 : ((o' + 1 : Nat) : Int) = n - 1
        · rw [if_pos h4, List.getElem?_append_right (by rw [List.length_replicate]; omega), List.length_replicate]
          have e : o' - (n - 2).toNat = 0 := by omega
          rw [e]
          rfl
        · rw [if_neg h4, List.getElem?_append_left (by rw [List.length_replicate]; omega), List.getElem?_replicate, if_pos (by omega)]
theorem blk_get {p n : Int} {o : Nat} (h : n ≠ 0) (ho : (o : Int) < absI n) : (blk p n)[o]? = some (if n < 0 then -1 else p) := by
  unfold blk
  rw [absI_def] at ho
  by_cases h1 : n < 0
  · rw [if_pos h1] at ho
    rw [if_neg (by omega), if_pos h1, List.getElem?_replicate, if_pos (by omega)]
  · rw [if_neg h1] at ho
    rw [if_pos (by omega), if_neg h1, List.getElem?_replicate, if_pos (by omega)]
theorem sum_abs_cons (n : Int) (ns : List Int) : sumAbs (n :: ns) = absI n + sumAbs ns := by
  unfold sumAbs
  rw [List.map_cons, List.sum_cons]
theorem absI_ps {n : Int} (h : n ≠ 0) : 0 < absI n := by
  rw [absI_def]
  split <;> omega
theorem sumAbs_nn : ∀ ns : List Int, 0 ≤ sumAbs ns
  | [] => Int.le_refl _
  | n :: ns => by
    rw [sum_abs_cons]
    have := absI_nn n
    have := sumAbs_nn ns
    omega
theorem sigN_len : ∀ {ns : List Int}, (∀ n ∈ ns, n ≠ 0) → ((sigN ns).length : Int) = sumAbs ns
  | [], _ => rfl
  | n :: ns, h => by
    have e : sigN (n :: ns) = sgBlk n ++ sigN ns := rfl
    rw [e, List.length_append, Int.natCast_add, sgBlk_len (h n List.mem_cons_self), sigN_len fun m hm => h m (List.mem_cons_of_mem _ hm), sum_abs_cons]
theorem pcB_len : ∀ (k : Int) (ns : List Int), ((pcB k ns).length : Int) = sumAbs ns
  | _, [] => rfl
  | k, n :: ns => by
    show ((List.replicate (absI n).toNat k ++ pcB (k + 1) ns).length : Int) = _
    rw [List.length_append, List.length_replicate, Int.natCast_add, pcB_len, sum_abs_cons]
    have := absI_nn n
    omega
/-- where a place stands -/
structure At (ns : List Int) (i : Nat) (pre : List Int) (n : Int) (o : Nat) : Prop where
  sp : ∃ post, ns = pre ++ n :: post
  ix : (i : Int) = sumAbs pre + o
  lt : (o : Int) < absI n
theorem dec : ∀ (ns : List Int) (p k : Int) (i : Nat), (∀ n ∈ ns, n ≠ 0) → (i : Int) < sumAbs ns → ∃ pre n o, At ns i pre n o ∧ (sigN ns)[i]? = some (sgAt n o) ∧ (stB p ns)[i]? = some (if n < 0 then -1 else p + sumAbs pre) ∧ (pcB k ns)[i]? = some (k + pre.length)
  | [], _, _, i, _, h => by
    have h : (i : Int) < 0 := h
    omega
  | n :: ns, p, k, i, hz, h => by
    have hn := hz n List.mem_cons_self
    have hp := absI_ps hn
    rw [sum_abs_cons] at h
    have e1 : sigN (n :: ns) = sgBlk n ++ sigN ns := rfl
    have e2 : stB p (n :: ns) = blk p n ++ stB (p + absI n) ns := rfl
    have e3 : pcB k (n :: ns) = List.replicate (absI n).toNat k ++ pcB (k + 1) ns := rfl
    have l1 := sgBlk_len hn
    have l2 : ((blk p n).length : Int) = absI n := blk_len p n
    by_cases hi : (i : Int) < absI n
    · refine ⟨[], n, i, ⟨⟨ns, rfl⟩, by show (i : Int) = 0 + i; omega, hi⟩, ?_, ?_, ?_⟩
      · rw [e1, List.getElem?_append_left (by omega)]
        exact sgBlk_get hn hi
      · rw [e2, List.getElem?_append_left (by omega), blk_get hn hi]
        show some (if n < 0 then -1 else p) = some (if n < 0 then -1 else p + 0)
        rw [Int.add_zero]
      · rw [e3, List.getElem?_append_left (by rw [List.length_replicate]; omega), List.getElem?_replicate, if_pos (by omega)]
        show some k = some (k + 0)
        rw [Int.add_zero]
    · obtain ⟨pre, m, o, ⟨⟨post, h1⟩, h2, h3⟩, g1, g2, g3⟩ := dec ns (p + absI n) (k + 1) (i - (absI n).toNat) (fun m hm => hz m (List.mem_cons_of_mem _ hm)) (by omega)
      refine ⟨n :: pre, m, o, ⟨⟨post, by rw [h1]; rfl⟩, by rw [sum_abs_cons]; omega, h3⟩, ?_, ?_, ?_⟩
      · rw [e1, List.getElem?_append_right (by omega), show i - (sgBlk n).length = i - (absI n).toNat by omega]
        exact g1
      · rw [e2, List.getElem?_append_right (by omega), show i - (blk p n).length = i - (absI n).toNat by omega, g2, sum_abs_cons, Int.add_assoc]
      · rw [e3, List.getElem?_append_right (by rw [List.length_replicate]; omega), List.length_replicate, g3, List.length_cons]
        congr 1
        omega
theorem sumAbs_app (a b : List Int) : sumAbs (a ++ b) = sumAbs a + sumAbs b := by
  unfold sumAbs
  rw [List.map_append, List.sum_append]
/-- two places: in the same piece, or one piece ahead of the other one -/
theorem at_two {ns pre1 pre2 : List Int} {i j : Nat} {n1 n2 : Int} {o1 o2 : Nat} (a : At ns i pre1 n1 o1) (b : At ns j pre2 n2 o2) : (pre1 = pre2 ∧ n1 = n2) ∨ (pre1.length < pre2.length ∧ sumAbs pre1 + absI n1 ≤ sumAbs pre2) ∨ (pre2.length < pre1.length ∧ sumAbs pre2 + absI n2 ≤ sumAbs pre1) := by
  obtain ⟨post1, e1⟩ := a.sp
  obtain ⟨post2, e2⟩ := b.sp
  have e := e1.symm.trans e2
  have key : ∀ {p q : List Int} {n m : Int} {r t : List Int}, p ++ n :: r = q ++ m :: t → p.length < q.length → sumAbs p + absI n ≤ sumAbs q := by
    intro p q n m r t e hl
    have h1 : q.take (p.length + 1) = p ++ [n] := by
      have z := congrArg (List.take (p.length + 1)) e
      rw [List.take_append, List.take_of_length_le (by omega), List.take_append, show p.length + 1 - p.length = 1 by omega, show p.length + 1 - q.length = 0 by omega] at z
      simpa using z.symm
    have h2 : q = (p ++ [n]) ++ q.drop (p.length + 1) := by
      rw [← h1, List.take_append_drop]
    rw [h2, sumAbs_app, sumAbs_app, sum_abs_cons]
    have := sumAbs_nn (q.drop (p.length + 1))
    show sumAbs p + absI n ≤ sumAbs p + (absI n + 0) + _
    omega
  rcases Nat.lt_trichotomy pre1.length pre2.length with h | h | h
  · exact .inr (.inl ⟨h, key e h⟩)
  · obtain ⟨z1, z2⟩ := List.append_inj e h
    injection z2 with z2 _
    exact .inl ⟨z1, z2⟩
  · exact .inr (.inr ⟨h, key e.symm h⟩)
end FR
set_option maxRecDepth 100000
set_option maxHeartbeats 1000000
namespace FR
open PySem PySem.Spec PySem.Calls PyProof.Rows L2
/-! ### from which places a place takes: by the program, by the law -/
def keepsB (L : Ly) (g : Int) : Bool := if L.cl = true then !decide (g = 2) else if (L.own || (L.ft && decide (g = 2))) = true then true else decide (g ∈ L.ends)
def asksB (L : Ly) (g : Int) : Bool := !decide (g = 2) || !L.ft
def seesB (L : Ly) (g : Int) : Bool := if L.ends.isEmpty = false then decide (g ∈ L.ends) else !decide (g = 2) || decide (L.sc = wLine)
def reachB (ds : Option (List Int)) (m : Nat) (n : Int) : Bool := match ds with
  | none => decide (n % (m : Int) = 0)
  | some l => decide (n ∈ l)
def leadsB (L : Ly) (t : Int) : Bool := (if t < 0 then L.a else L.b) && reachB L.ds L.m (absI t)
def takeB (L : Ly) (sg pc : List Int) (x z : Nat) : Bool :=
  if z = x then keepsB L (sg.getD x 0) else if (decide (L.sc = wRow) && !decide (pc.getD z 0 = pc.getD x 0)) = true then false
  else asksB L (sg.getD x 0) && seesB L (sg.getD z 0) && leadsB L ((z : Int) - (x : Int))
def farB (s : Sd) (x z : Int) : Bool :=
  let f0 := if s.way = wAhead ∨ s.way = wAtAhead then z - x else x - z
  let f := if s.way = wAround then absI f0 else f0
  if s.way = wAtBack ∨ s.way = wAtAhead then decide (f = (s.num : Int)) else decide (0 < f) && ((decide (s.num = 0) || decide (f ≤ (s.num : Int))) && decide (f % (s.ev : Int) = 0))
def looksB (s : Sd) (st : List Int) (x z : Nat) : Bool :=
  if s.scope = wRow ∧ (st.getD x 0 < 0 ∨ st.getD z 0 ≠ st.getD x 0) then false
  else if s.scope = wTrue ∧ st.getD z 0 < 0 then false
  else if s.way = wFirst then decide ((z : Int) = st.getD x 0)
  else if s.way = wLast then decide (z + 1 = st.length) || !decide (st.getD (z + 1) 0 = st.getD x 0)
  else farB s x z
def lawB (s : Sd) (st : List Int) (x z : Nat) : Bool :=
  if s.verb = wClear then decide (z = x) && !decide (st.getD x 0 < 0)
  else if s.sp = true ∧ st.getD x 0 < 0 then decide (z = x)
  else if s.verb = wAdd ∨ s.own = true then (looksB s st x z && !decide (z = x)) || decide (z = x)
  else looksB s st x z
theorem getD_of {α : Type} {l : List α} {i : Nat} {a d : α} (h : l[i]? = some a) : l.getD i d = a := by
  rw [List.getD, h]
  rfl
/-- what is known of two places of a line -/
structure Two (sg st pc : List Int) (N x z : Nat) (n1 n2 : Int) (o1 o2 : Nat) (S1 S2 k1 k2 : Int) : Prop where
  gx : sg.getD x 0 = sgAt n1 o1
  gz : sg.getD z 0 = sgAt n2 o2
  sx : st.getD x 0 = if n1 < 0 then -1 else S1
  sz : st.getD z 0 = if n2 < 0 then -1 else S2
  px : pc.getD x 0 = k1
  pz : pc.getD z 0 = k2
  nx : n1 ≠ 0
  nz : n2 ≠ 0
  q1 : 0 ≤ S1
  q2 : 0 ≤ S2
  ex : (x : Int) = S1 + o1
  ez : (z : Int) = S2 + o2
  lx : (o1 : Int) < absI n1
  lz : (o2 : Int) < absI n2
  tri : (k1 = k2 ∧ S1 = S2 ∧ n1 = n2) ∨ (k1 < k2 ∧ S1 + absI n1 ≤ S2) ∨ (k2 < k1 ∧ S2 + absI n2 ≤ S1)
  len : st.length = N
  zN : z < N
  next : ∀ h : z + 1 < N, 0 < n2 → (((o2 : Int) + 1 < n2 → st.getD (z + 1) 0 = S2) ∧ ((o2 : Int) + 1 = n2 → st.getD (z + 1) 0 = -1 ∨ st.getD (z + 1) 0 = S2 + n2))
  last : z + 1 = N → 0 < n2 → (o2 : Int) + 1 = n2
theorem two_of {ns : List Int} (h : lineB ns = true) {x z : Nat} (hx : x < (sigN ns).length) (hz : z < (sigN ns).length) : ∃ n1 n2 o1 o2 S1 S2 k1 k2, Two (sigN ns) (stB 0 ns) (pcB 0 ns) (sigN ns).length x z n1 n2 o1 o2 S1 S2 k1 k2 := by
  obtain ⟨hok, hne, hs⟩ := lineB_inv h
  have nz := hok.nz
  have ls := sigN_len nz
  obtain ⟨p1, n1, o1, a1, g1, s1, q1⟩ := dec ns 0 0 x nz (by omega)
  obtain ⟨p2, n2, o2, a2, g2, s2, q2⟩ := dec ns 0 0 z nz (by omega)
  rw [Int.zero_add] at s1 s2 q1 q2
  have z1 : n1 ≠ 0 := by
    obtain ⟨post, e⟩ := a1.sp
    exact nz _ (by rw [e]; simp)
  have z2 : n2 ≠ 0 := by
    obtain ⟨post, e⟩ := a2.sp
    exact nz _ (by rw [e]; simp)
  refine ⟨n1, n2, o1, o2, sumAbs p1, sumAbs p2, p1.length, p2.length, ⟨getD_of g1, getD_of g2, getD_of s1, getD_of s2, getD_of q1, getD_of q2, z1, z2, sum_nn _, sum_nn _, a1.ix, a2.ix, a1.lt, a2.lt, ?_, ?_, ?_, ?_, ?_⟩⟩
  · rcases at_two a1 a2 with ⟨e1, e2⟩ | ⟨e1, e2⟩ | ⟨e1, e2⟩
    · exact .inl ⟨by rw [e1], by rw [e1], e2⟩
    · exact .inr (.inl ⟨by omega, e2⟩)
    · exact .inr (.inr ⟨by omega, e2⟩)
  · have := stB_len 0 ns
    omega
  · exact hz
  · intro hl hp
    obtain ⟨p3, n3, o3, a3, _, s3, _⟩ := dec ns 0 0 (z + 1) nz (by omega)
    rw [Int.zero_add] at s3
    have z3 : n3 ≠ 0 := by
      obtain ⟨post, e⟩ := a3.sp
      exact nz _ (by rw [e]; simp)
    have lt2 := a2.lt
    have lt3 := a3.lt
    have ix2 := a2.ix
    have ix3 := a3.ix
    have b2 : absI n2 = n2 := by rw [absI_def, if_neg (by omega)]
    have b3 := absI_ps z3
    rw [getD_of s3]
    rcases at_two a2 a3 with ⟨e1, e2⟩ | ⟨e1, e2⟩ | ⟨e1, e2⟩
    · subst e1 e2
      rw [if_neg (by omega)]
      refine ⟨fun _ => rfl, fun q => ?_⟩
      omega
    · refine ⟨fun q => by omega, fun q => ?_⟩
      have e9 : sumAbs p3 = sumAbs p2 + n2 := by
        -- the places ahead of the third one lie behind the second one
        omega
      rw [e9]
      by_cases q3 : n3 < 0
      · rw [if_pos q3]
        exact .inl rfl
      · rw [if_neg q3]
        exact .inr rfl
    · omega
  · intro hl hp
    have lt2 := a2.lt
    have ix2 := a2.ix
    have b2 : absI n2 = n2 := by rw [absI_def, if_neg (by omega)]
    obtain ⟨post, e⟩ := a2.sp
    have h9 : sumAbs ns = sumAbs p2 + (absI n2 + sumAbs post) := by rw [e, sumAbs_app, sum_abs_cons]
    have h8 := sum_nn post
    omega
end FR
set_option maxRecDepth 100000
set_option maxHeartbeats 1000000
namespace FR
open PySem PySem.Spec PySem.Calls PyProof.Rows L2
theorem sdAll_inv {s : Sd} (h : s ∈ sdAll) : s = sdClear ∨ ((s.verb, s.own) ∈ verbsL ∧ s.scope ∈ scopesL ∧ s.way ∈ waysL ∧ s.num < 4 ∧ 1 ≤ s.ev ∧ s.ev < 4 ∧ goB s.scope s.way s.num s.ev = true) := by
  rcases List.mem_cons.mp h with rfl | h
  · exact .inl rfl
  · right
    obtain ⟨p, hp, h⟩ := List.mem_flatMap.mp h
    obtain ⟨v, hv, h⟩ := List.mem_flatMap.mp h
    obtain ⟨b, _, rfl⟩ := List.mem_map.mp h
    obtain ⟨sc, hsc, hp⟩ := List.mem_flatMap.mp hp
    obtain ⟨wy, hwy, hp⟩ := List.mem_flatMap.mp hp
    obtain ⟨n, hn, hp⟩ := List.mem_flatMap.mp hp
    obtain ⟨hp, hg⟩ := List.mem_filter.mp hp
    obtain ⟨k, hk, rfl⟩ := List.mem_map.mp hp
    have hk := List.mem_range.mp hk
    exact ⟨hv, hsc, hwy, List.mem_range.mp hn, by show 1 ≤ 1 + k; omega, by show 1 + k < 4; omega, hg⟩
section
variable {sg st pc : List Int} {N x z : Nat} {n1 n2 : Int} {o1 o2 : Nat} {S1 S2 k1 k2 : Int}
theorem sgAt_two {n : Int} {o : Nat} (h : n ≠ 0) : (sgAt n o = 2) ↔ n < 0 := by
  unfold sgAt
  split
  · exact ⟨fun _ => by assumption, fun _ => rfl⟩
  · split
    · constructor <;> intro q <;> omega
    · split
      · constructor <;> intro q <;> omega
      · split <;> constructor <;> intro q <;> omega
theorem sgAt_first {n : Int} {o : Nat} (h : n ≠ 0) (ho : (o : Int) < absI n) : (sgAt n o = 0 ∨ sgAt n o = 3) ↔ (0 < n ∧ o = 0) := by
  rw [absI_def] at ho
  unfold sgAt
  split
  · constructor <;> intro q <;> omega
  · rw [if_neg (by assumption)] at ho
    split
    · constructor <;> intro q <;> omega
    · split
      · constructor <;> intro q <;> omega
      · split <;> constructor <;> intro q <;> omega
theorem sgAt_last {n : Int} {o : Nat} (h : n ≠ 0) (ho : (o : Int) < absI n) : (sgAt n o = 4 ∨ sgAt n o = 3) ↔ (0 < n ∧ (o : Int) + 1 = n) := by
  rw [absI_def] at ho
  unfold sgAt
  split
  · constructor <;> intro q <;> omega
  · rw [if_neg (by assumption)] at ho
    split
    · constructor <;> intro q <;> omega
    · split
      · constructor <;> intro q <;> omega
      · split <;> constructor <;> intro q <;> omega
theorem Two.sxn (T : Two sg st pc N x z n1 n2 o1 o2 S1 S2 k1 k2) : (st.getD x 0 < 0 ↔ n1 < 0) ∧ (¬ n1 < 0 → st.getD x 0 = S1) := by
  rw [T.sx]
  have := T.q1
  split <;> constructor <;> omega
theorem Two.szn (T : Two sg st pc N x z n1 n2 o1 o2 S1 S2 k1 k2) : (st.getD z 0 < 0 ↔ n2 < 0) ∧ (¬ n2 < 0 → st.getD z 0 = S2) := by
  rw [T.sz]
  have := T.q2
  split <;> constructor <;> omega
/-- the scope -/
def scopeP (s : Sd) (st : List Int) (x z : Nat) : Prop := ¬ (s.scope = wRow ∧ (st.getD x 0 < 0 ∨ st.getD z 0 ≠ st.getD x 0)) ∧ ¬ (s.scope = wTrue ∧ st.getD z 0 < 0)
theorem row_iff (T : Two sg st pc N x z n1 n2 o1 o2 S1 S2 k1 k2) : (¬ st.getD x 0 < 0 ∧ st.getD z 0 = st.getD x 0) ↔ (k2 = k1 ∧ ¬ n2 < 0) := by
  obtain ⟨a1, a2⟩ := T.sxn
  obtain ⟨b1, b2⟩ := T.szn
  have h1 := absI_ps T.nx
  have h2 := absI_ps T.nz
  have q1 := T.q1
  have q2 := T.q2
  rcases T.tri with ⟨e1, e2, e3⟩ | ⟨e1, e2⟩ | ⟨e1, e2⟩
  · subst e1 e2 e3
    rw [T.sx, T.sz]
    constructor
    · intro q
      exact ⟨rfl, fun z => q.1 (by rw [if_pos z]; decide)⟩
    · intro q
      rw [if_neg q.2]
      exact ⟨by omega, rfl⟩
  · constructor
    · rintro ⟨u, v⟩
      have g1 : ¬ n1 < 0 := fun w => u (a1.mpr w)
      have g2 : ¬ n2 < 0 := fun w => by have := b1.mpr w; omega
      have := a2 g1
      have := b2 g2
      omega
    · rintro ⟨u, v⟩
      omega
  · constructor
    · rintro ⟨u, v⟩
      have g1 : ¬ n1 < 0 := fun w => u (a1.mpr w)
      have g2 : ¬ n2 < 0 := fun w => by have := b1.mpr w; omega
      have := a2 g1
      have := b2 g2
      omega
    · rintro ⟨u, v⟩
      omega
theorem scope_iff {s : Sd} (hs : s.scope ∈ scopesL) (T : Two sg st pc N x z n1 n2 o1 o2 S1 S2 k1 k2) : scopeP s st x z ↔ (¬ (s.scope = wRow ∧ k2 ≠ k1) ∧ (¬ n2 < 0 ∨ s.scope = wLine)) := by
  have r := row_iff T
  obtain ⟨b1, b2⟩ := T.szn
  unfold scopeP
  unfold scopesL at hs
  simp only [List.mem_cons, List.not_mem_nil, or_false] at hs
  rcases hs with e | e | e
  · rw [e]
    have h1 : ¬ (wRow = wTrue) := by decide
    have h2 : ¬ (wRow = wLine) := by decide
    constructor
    · rintro ⟨u, _⟩
      have u' : ¬ st.getD x 0 < 0 ∧ st.getD z 0 = st.getD x 0 := ⟨fun w => u ⟨rfl, .inl w⟩, Decidable.byContradiction fun w => u ⟨rfl, .inr w⟩⟩
      obtain ⟨v1, v2⟩ := r.mp u'
      exact ⟨fun w => w.2 v1, .inl v2⟩
    · rintro ⟨u, v⟩
      have v1 : k2 = k1 := Decidable.byContradiction fun w => u ⟨rfl, w⟩
      have v2 : ¬ n2 < 0 := v.resolve_right h2
      obtain ⟨w1, w2⟩ := r.mpr ⟨v1, v2⟩
      exact ⟨fun w => w.2.elim w1 fun q => q w2, fun w => h1 w.1⟩
  · rw [e]
    have h1 : ¬ (wTrue = wRow) := by decide
    have h2 : ¬ (wTrue = wLine) := by decide
    constructor
    · rintro ⟨_, u⟩
      exact ⟨fun w => h1 w.1, .inl fun w => u ⟨rfl, b1.mpr w⟩⟩
    · rintro ⟨_, v⟩
      exact ⟨fun w => h1 w.1, fun w => v.elim (fun q => q (b1.mp w.2)) h2⟩
  · rw [e]
    have h1 : ¬ (wLine = wRow) := by decide
    have h2 : ¬ (wLine = wTrue) := by decide
    exact ⟨fun _ => ⟨fun w => h1 w.1, .inr rfl⟩, fun _ => ⟨fun w => h1 w.1, fun w => h2 w.1⟩⟩
end
end FR
set_option maxRecDepth 100000
set_option maxHeartbeats 1000000
namespace FR
open PySem PySem.Spec PySem.Calls PyProof.Rows L2
theorem filt_mem {num ev : Nat} {n : Int} (h : 0 < n) (he : 1 ≤ ev) : (n ∈ (((List.range num).filter fun k => decide ((1 + k) % ev = 0)).map fun k : Nat => 1 + (k : Int))) ↔ (n ≤ (num : Int) ∧ n % (ev : Int) = 0) := by
  constructor
  · intro q
    obtain ⟨k, hk, rfl⟩ := List.mem_map.mp q
    obtain ⟨h1, h2⟩ := List.mem_filter.mp hk
    have h1 := List.mem_range.mp h1
    have h2 := of_decide_eq_true h2
    refine ⟨by omega, ?_⟩
    have e : (1 + (k : Int)) % (ev : Int) = (((1 + k) % ev : Nat) : Int) := by rw [Int.natCast_emod, Int.natCast_add]; rfl
    rw [e, h2]
    rfl
  · rintro ⟨h1, h2⟩
    refine List.mem_map.mpr ⟨(n - 1).toNat, List.mem_filter.mpr ⟨List.mem_range.mpr (by omega), decide_eq_true ?_⟩, by omega⟩
    have e1 : ((1 + (n - 1).toNat : Nat) : Int) = n := by omega
    have e : (((1 + (n - 1).toNat) % ev : Nat) : Int) = n % (ev : Int) := by rw [Int.natCast_emod, e1]
    omega
theorem wide_reach {num ev : Nat} {n : Int} (h : 0 < n) (he : 1 ≤ ev) : reachB (if num = 0 then none else some (((List.range num).filter fun k => decide ((1 + k) % ev = 0)).map fun k : Nat => 1 + (k : Int))) ev n = ((decide (num = 0) || decide (n ≤ (num : Int))) && decide (n % (ev : Int) = 0)) := by
  by_cases h0 : num = 0
  · rw [if_pos h0, decide_eq_true h0]
    rfl
  · rw [if_neg h0, decide_eq_false h0]
    show decide (n ∈ _) = _
    rw [Bool.false_or, ← Bool.decide_and]
    exact decide_eq_decide.mpr (filt_mem h he)
/-- ways that look at told distances: what the spans tell -/
def widB (s : Sd) (f : Int) : Bool := decide (0 < f) && ((decide (s.num = 0) || decide (f ≤ (s.num : Int))) && decide (f % (s.ev : Int) = 0))
abbrev widL (s : Sd) : Option (List Int) := if s.num = 0 then none else some (((List.range s.num).filter fun k => decide ((1 + k) % s.ev = 0)).map fun k : Nat => 1 + (k : Int))
theorem far_ok {s : Sd} (hw : s.way ∈ waysL) (h1 : s.way ≠ wFirst) (h2 : s.way ≠ wLast) (hc : s.verb ≠ wClear) (he : 1 ≤ s.ev) (hn : s.way = wAtBack ∨ s.way = wAtAhead → 1 ≤ s.num) {x z : Int} (hne : z ≠ x) : leadsB (lyOf s) (z - x) = farB s x z := by
  unfold waysL at hw
  simp only [List.mem_cons, List.not_mem_nil, or_false] at hw
  have a0 := absI_def (z - x)
  have wr : ∀ {n : Int}, 0 < n → reachB (widL s) s.ev n = widB s n := fun {n} h => by
    unfold widB
    rw [wide_reach h he, decide_eq_true h, Bool.true_and]
  have wn : ∀ {n : Int}, ¬ 0 < n → widB s n = false := fun {n} h => by
    unfold widB
    rw [decide_eq_false h]
    rfl
  rcases hw with e | e | e | e | e | e | e
  · have eL : leadsB (lyOf s) (z - x) = ((if z - x < 0 then true else false) && reachB (widL s) s.ev (absI (z - x))) := by
      unfold lyOf leadsB
      rw [if_neg hc, if_neg h1, if_neg h2, e]
      rfl
    have eF : farB s x z = widB s (x - z) := by
      unfold farB
      rw [e]
      rfl
    rw [eL, eF]
    by_cases q : z - x < 0
    · rw [if_pos q] at a0
      rw [if_pos q, wr (by omega), a0, show -(z - x) = x - z by omega]
      rfl
    · rw [if_neg q, wn (by omega)]
      rfl
  · have eL : leadsB (lyOf s) (z - x) = ((if z - x < 0 then false else true) && reachB (widL s) s.ev (absI (z - x))) := by
      unfold lyOf leadsB
      rw [if_neg hc, if_neg h1, if_neg h2, e]
      rfl
    have eF : farB s x z = widB s (z - x) := by
      unfold farB
      rw [e]
      rfl
    rw [eL, eF]
    by_cases q : z - x < 0
    · rw [if_pos q, wn (by omega)]
      rfl
    · rw [if_neg q] at a0
      rw [if_neg q, wr (by omega), a0]
      rfl
  · have eL : leadsB (lyOf s) (z - x) = ((if z - x < 0 then true else true) && reachB (widL s) s.ev (absI (z - x))) := by
      unfold lyOf leadsB
      rw [if_neg hc, if_neg h1, if_neg h2, e]
      rfl
    have eF : farB s x z = widB s (absI (x - z)) := by
      unfold farB
      rw [e]
      rfl
    have b0 := absI_def (x - z)
    have e9 : absI (x - z) = absI (z - x) := by rw [a0, b0]; split <;> split <;> omega
    rw [eL, eF, e9, wr (absI_ps (by omega))]
    split <;> rfl
  · have n1 := hn (.inl e)
    have eL : leadsB (lyOf s) (z - x) = ((if z - x < 0 then true else false) && decide (absI (z - x) ∈ [(s.num : Int)])) := by
      unfold lyOf leadsB
      rw [if_neg hc, if_neg h1, if_neg h2, e]
      rfl
    have eF : farB s x z = decide (x - z = (s.num : Int)) := by
      unfold farB
      rw [e]
      rfl
    rw [eL, eF, a0]
    by_cases q : z - x < 0
    · rw [if_pos q, if_pos q, Bool.true_and]
      exact decide_eq_decide.mpr (by rw [List.mem_singleton]; omega)
    · rw [if_neg q, Bool.false_and, decide_eq_false (by omega)]
  · have n1 := hn (.inr e)
    have eL : leadsB (lyOf s) (z - x) = ((if z - x < 0 then false else true) && decide (absI (z - x) ∈ [(s.num : Int)])) := by
      unfold lyOf leadsB
      rw [if_neg hc, if_neg h1, if_neg h2, e]
      rfl
    have eF : farB s x z = decide (z - x = (s.num : Int)) := by
      unfold farB
      rw [e]
      rfl
    rw [eL, eF, a0]
    by_cases q : z - x < 0
    · rw [if_pos q, Bool.false_and, decide_eq_false (by omega)]
    · rw [if_neg q, if_neg q, Bool.true_and]
      exact decide_eq_decide.mpr (by rw [List.mem_singleton])
  · exact absurd e h1
  · exact absurd e h2
end FR
set_option maxRecDepth 100000
set_option maxHeartbeats 1000000
namespace FR
open PySem PySem.Spec PySem.Calls PyProof.Rows L2
section
variable {sg st pc : List Int} {N x z : Nat} {n1 n2 : Int} {o1 o2 : Nat} {S1 S2 k1 k2 : Int} {s : Sd}
instance : Decidable (scopeP s st x z) := by unfold scopeP; infer_instance
theorem looks_scope : looksB s st x z = (decide (scopeP s st x z) && (if s.way = wFirst then decide ((z : Int) = st.getD x 0) else if s.way = wLast then decide (z + 1 = st.length) || !decide (st.getD (z + 1) 0 = st.getD x 0) else farB s x z)) := by
  unfold looksB
  by_cases h1 : s.scope = wRow ∧ (st.getD x 0 < 0 ∨ st.getD z 0 ≠ st.getD x 0)
  · rw [if_pos h1, decide_eq_false fun q => q.1 h1]
    rfl
  · rw [if_neg h1]
    by_cases h2 : s.scope = wTrue ∧ st.getD z 0 < 0
    · rw [if_pos h2, decide_eq_false fun q => q.2 h2]
      rfl
    · rw [if_neg h2, decide_eq_true (show scopeP s st x z from ⟨h1, h2⟩), Bool.true_and]
/-- what is known of a drawn layer that is not clear -/
structure Nc (s : Sd) : Prop where
  vb : (s.verb, s.own) ∈ verbsL
  nv : s.verb ≠ wClear
  sc : s.scope ∈ scopesL
  wy : s.way ∈ waysL
  nn : s.num < 4
  e1 : 1 ≤ s.ev
  e2 : s.ev < 4
  row : s.way = wFirst ∨ s.way = wLast → s.scope = wRow
  at_ : s.way = wAtBack ∨ s.way = wAtAhead → 1 ≤ s.num
theorem nc_of (h : s ∈ sdAll) : s = sdClear ∨ Nc s := by
  rcases sdAll_inv h with e | ⟨h1, h2, h3, h4, h5, h6, h7⟩
  · exact .inl e
  · refine .inr ⟨h1, fun z => ?_, h2, h3, h4, h5, h6, fun z => ?_, fun z => ?_⟩
    · rw [z] at h1
      unfold verbsL at h1
      simp only [List.mem_cons, Prod.mk.injEq, List.not_mem_nil, or_false] at h1
      rcases h1 with ⟨e, _⟩ | ⟨e, _⟩ | ⟨e, _⟩ <;> exact absurd e (by decide)
    · unfold goB at h7
      rw [if_pos z] at h7
      exact (of_decide_eq_true h7).1
    · unfold goB at h7
      rw [if_neg (by rcases z with z | z <;> rw [z] <;> decide), if_pos z] at h7
      exact (of_decide_eq_true h7).1
theorem ly_fields (c : Nc s) : (lyOf s).cl = false ∧ (lyOf s).own = (s.own || decide (s.verb = wAdd)) ∧ (lyOf s).ft = s.sp ∧ (lyOf s).sc = s.scope := by
  unfold lyOf
  rw [if_neg c.nv]
  split
  · exact ⟨rfl, rfl, rfl, rfl⟩
  · split
    · exact ⟨rfl, rfl, rfl, rfl⟩
    · split
      · exact ⟨rfl, rfl, rfl, rfl⟩
      · split <;> exact ⟨rfl, rfl, rfl, rfl⟩
theorem ly_ends (c : Nc s) : (s.way = wFirst ∧ (lyOf s).ends = [0, 3] ∧ (lyOf s).a = true ∧ (lyOf s).b = false ∧ (lyOf s).ds = none ∧ (lyOf s).m = 1) ∨ (s.way = wLast ∧ (lyOf s).ends = [4, 3] ∧ (lyOf s).a = false ∧ (lyOf s).b = true ∧ (lyOf s).ds = none ∧ (lyOf s).m = 1) ∨ (s.way ≠ wFirst ∧ s.way ≠ wLast ∧ (lyOf s).ends = []) := by
  unfold lyOf
  rw [if_neg c.nv]
  by_cases h1 : s.way = wFirst
  · rw [if_pos h1]
    exact .inl ⟨h1, rfl, rfl, rfl, rfl, rfl⟩
  · rw [if_neg h1]
    by_cases h2 : s.way = wLast
    · rw [if_pos h2]
      exact .inr (.inl ⟨h2, rfl, rfl, rfl, rfl, rfl⟩)
    · rw [if_neg h2]
      refine .inr (.inr ⟨h1, h2, ?_⟩)
      split
      · rfl
      · split <;> rfl
theorem mem2 {g a b : Int} : g ∈ [a, b] ↔ (g = a ∨ g = b) := by simp
/-- a place and another one -/
theorem sem_ne (c : Nc s) (T : Two sg st pc N x z n1 n2 o1 o2 S1 S2 k1 k2) (hne : z ≠ x) : (!(decide (s.scope = wRow) && !decide (k2 = k1)) && (seesB (lyOf s) (sgAt n2 o2) && leadsB (lyOf s) ((z : Int) - (x : Int)))) = looksB s st x z := by
  rw [looks_scope]
  obtain ⟨f1, f2, f3, f4⟩ := ly_fields c
  have sc := scope_iff c.sc T
  obtain ⟨a1, a2⟩ := T.sxn
  obtain ⟨b1, b2⟩ := T.szn
  have ex := T.ex
  have ez := T.ez
  have lx := T.lx
  have lz := T.lz
  have hi : (z : Int) ≠ (x : Int) := fun q => hne (by omega)
  rcases ly_ends c with ⟨hw, he, ha, hb, hd, hm⟩ | ⟨hw, he, ha, hb, hd, hm⟩ | ⟨h1, h2, he⟩
  · have hr := c.row (.inl hw)
    have rw_ := row_iff T
    rw [if_pos hw]
    have hs : seesB (lyOf s) (sgAt n2 o2) = decide (0 < n2 ∧ o2 = 0) := by
      unfold seesB
      rw [he, if_pos (show ([0, 3] : List Int).isEmpty = false from rfl)]
      exact decide_eq_decide.mpr (mem2.trans (sgAt_first T.nz T.lz))
    have hl : leadsB (lyOf s) ((z : Int) - (x : Int)) = decide ((z : Int) < x) := by
      unfold leadsB
      rw [ha, hb, hd, hm]
      by_cases q : (z : Int) - (x : Int) < 0
      · rw [if_pos q, decide_eq_true (show (z : Int) < x by omega)]
        show (true && decide (_ % ((1 : Nat) : Int) = 0)) = true
        rw [decide_eq_true (by omega)]
        rfl
      · rw [if_neg q, decide_eq_false (show ¬ (z : Int) < x by omega)]
        rfl
    rw [hs, hl, Bool.eq_iff_iff]
    simp only [Bool.and_eq_true, Bool.not_eq_true', Bool.and_eq_false_iff, decide_eq_true_eq, decide_eq_false_iff_not, hr]
    rw [sc, hr]
    have h3 : ¬ (wRow = wLine) := by decide
    rw [absI_def] at lx lz
    constructor
    · rintro ⟨u, ⟨v1, v2⟩, v3⟩
      have k : k2 = k1 := by
        rcases u with u | u
        · exact absurd True.intro u
        · exact Decidable.byContradiction fun w => by simp [w] at u
      obtain ⟨r1, r2⟩ := rw_.mpr ⟨k, by omega⟩
      refine ⟨⟨fun w => w.2 k, .inl (by omega)⟩, ?_⟩
      have := b2 (by omega)
      omega
    · rintro ⟨⟨u, v⟩, w⟩
      have k : k2 = k1 := Decidable.byContradiction fun q => u ⟨rfl, q⟩
      have nn : ¬ n2 < 0 := v.resolve_right h3
      obtain ⟨r1, r2⟩ := rw_.mpr ⟨k, nn⟩
      have := b2 nn
      have nz := T.nz
      have e1 := a2 (fun q => r1 (a1.mpr q))
      refine ⟨.inr (by simp [k]), ⟨by omega, by omega⟩, by omega⟩
  · have hr := c.row (.inr hw)
    have rw_ := row_iff T
    rw [if_neg (by rw [hw]; decide), if_pos hw]
    have hs : seesB (lyOf s) (sgAt n2 o2) = decide (0 < n2 ∧ (o2 : Int) + 1 = n2) := by
      unfold seesB
      rw [he, if_pos (show ([4, 3] : List Int).isEmpty = false from rfl)]
      exact decide_eq_decide.mpr (mem2.trans (sgAt_last T.nz T.lz))
    have hl : leadsB (lyOf s) ((z : Int) - (x : Int)) = decide ((x : Int) < z) := by
      unfold leadsB
      rw [ha, hb, hd, hm]
      by_cases q : (z : Int) - (x : Int) < 0
      · rw [if_pos q, decide_eq_false (show ¬ (x : Int) < z by omega)]
        rfl
      · rw [if_neg q, decide_eq_true (show (x : Int) < z by omega)]
        show (true && decide (_ % ((1 : Nat) : Int) = 0)) = true
        rw [decide_eq_true (by omega)]
        rfl
    rw [hs, hl, Bool.eq_iff_iff]
    simp only [Bool.and_eq_true, Bool.or_eq_true, Bool.not_eq_true', Bool.and_eq_false_iff, decide_eq_true_eq, decide_eq_false_iff_not, hr]
    rw [sc, hr]
    have h3 : ¬ (wRow = wLine) := by decide
    have len := T.len
    have zN := T.zN
    have tri := T.tri
    rw [absI_def] at lx lz
    constructor
    · rintro ⟨u, ⟨v1, v2⟩, v3⟩
      have k : k2 = k1 := by
        rcases u with u | u
        · exact absurd True.intro u
        · exact Decidable.byContradiction fun w => by simp [w] at u
      obtain ⟨r1, r2⟩ := rw_.mpr ⟨k, by omega⟩
      refine ⟨⟨fun w => w.2 k, .inl (by omega)⟩, ?_⟩
      by_cases hN : z + 1 = N
      · exact .inl (by omega)
      · right
        have nx := (T.next (by omega) v1).2 v2
        have := b2 (by omega)
        rw [← r2, this]
        have q2 := T.q2
        rcases nx with nx | nx <;> rw [nx] <;> omega
    · rintro ⟨⟨u, v⟩, w⟩
      have k : k2 = k1 := Decidable.byContradiction fun q => u ⟨rfl, q⟩
      have nn : ¬ n2 < 0 := v.resolve_right h3
      obtain ⟨r1, r2⟩ := rw_.mpr ⟨k, nn⟩
      have e2 := b2 nn
      have nz := T.nz
      have e1 := a2 (fun q => r1 (a1.mpr q))
      have pn : 0 < n2 := by omega
      have last : (o2 : Int) + 1 = n2 := by
        by_cases hN : z + 1 = N
        · exact T.last hN pn
        · have nx := (T.next (by omega) pn).1
          rcases w with w | w
          · omega
          · apply Decidable.byContradiction
            intro q
            have := nx (by omega)
            exact w (by omega)
      have ee : n1 = n2 := by
        rcases tri with ⟨_, _, e⟩ | ⟨e, _⟩ | ⟨e, _⟩
        · exact e
        · omega
        · omega
      refine ⟨.inr (by simp [k]), ⟨pn, last⟩, ?_⟩
      rw [ee, if_neg nn] at lx
      omega
  · rw [if_neg h1, if_neg h2, far_ok c.wy h1 h2 c.nv c.e1 c.at_ hi, ← Bool.and_assoc]
    congr 1
    have hs : seesB (lyOf s) (sgAt n2 o2) = (!decide (n2 < 0) || decide (s.scope = wLine)) := by
      unfold seesB
      rw [he, f4, if_neg (by simp)]
      congr 2
      exact decide_eq_decide.mpr (sgAt_two T.nz)
    rw [hs, Bool.eq_iff_iff]
    simp only [Bool.and_eq_true, Bool.or_eq_true, Bool.not_eq_true', Bool.and_eq_false_iff, decide_eq_true_eq, decide_eq_false_iff_not, Bool.not_eq_false']
    rw [sc]
    constructor
    · rintro ⟨u, v⟩
      exact ⟨fun w => u.elim (fun q => q w.1) fun q => w.2 q, v⟩
    · rintro ⟨u, v⟩
      refine ⟨?_, v⟩
      by_cases q : s.scope = wRow
      · exact .inr (Decidable.byContradiction fun w => u ⟨q, w⟩)
      · exact .inl q
/-- a place and itself -/
theorem sem_eq (c : Nc s) (T : Two sg st pc N x x n1 n2 o1 o2 S1 S2 k1 k2) : decide (sgAt n2 o2 ∈ (lyOf s).ends) = looksB s st x x := by
  rw [looks_scope]
  have sc := scope_iff c.sc T
  have rw_ := row_iff T
  obtain ⟨b1, b2⟩ := T.szn
  have ex := T.ex
  have ez := T.ez
  have lz := T.lz
  rcases ly_ends c with ⟨hw, he, ha, hb, hd, hm⟩ | ⟨hw, he, ha, hb, hd, hm⟩ | ⟨h1, h2, he⟩
  · have hr := c.row (.inl hw)
    rw [if_pos hw, he, Bool.eq_iff_iff]
    simp only [Bool.and_eq_true, decide_eq_true_eq]
    rw [mem2, sgAt_first T.nz T.lz]
    unfold scopeP
    rw [hr]
    have h4 : ¬ (wRow = wTrue) := by decide
    have nz := T.nz
    rw [absI_def] at lz
    constructor
    · rintro ⟨u, v⟩
      have := b2 (by omega)
      exact ⟨⟨fun w => w.2.elim (fun q => by have := b1.mp q; omega) fun q => q rfl, fun w => h4 w.1⟩, by omega⟩
    · rintro ⟨⟨u, v⟩, w⟩
      have nn : ¬ n2 < 0 := fun q => u ⟨rfl, .inl (b1.mpr q)⟩
      have := b2 nn
      omega
  · have hr := c.row (.inr hw)
    rw [if_neg (by rw [hw]; decide), if_pos hw, he, Bool.eq_iff_iff]
    simp only [Bool.and_eq_true, Bool.or_eq_true, Bool.not_eq_true', decide_eq_false_iff_not, decide_eq_true_eq]
    rw [mem2, sgAt_last T.nz T.lz]
    unfold scopeP
    rw [hr]
    have h4 : ¬ (wRow = wTrue) := by decide
    have nz := T.nz
    have len := T.len
    have zN := T.zN
    rw [absI_def] at lz
    constructor
    · rintro ⟨u, v⟩
      have e2 := b2 (by omega)
      refine ⟨⟨fun w => w.2.elim (fun q => by have := b1.mp q; omega) fun q => q rfl, fun w => h4 w.1⟩, ?_⟩
      by_cases hN : x + 1 = N
      · exact .inl (by omega)
      · right
        have nx := (T.next (by omega) u).2 v
        have q2 := T.q2
        rw [e2]
        rcases nx with nx | nx <;> rw [nx] <;> omega
    · rintro ⟨⟨u, v⟩, w⟩
      have nn : ¬ n2 < 0 := fun q => u ⟨rfl, .inl (b1.mpr q)⟩
      have e2 := b2 nn
      have pn : 0 < n2 := by omega
      refine ⟨pn, ?_⟩
      by_cases hN : x + 1 = N
      · exact T.last hN pn
      · have nx := (T.next (by omega) pn).1
        rcases w with w | w
        · omega
        · rw [if_neg nn] at lz
          apply Decidable.byContradiction
          intro q
          have := nx (by omega)
          exact w (by omega)
  · rw [if_neg h1, if_neg h2, he, decide_eq_false (by simp)]
    have hf : farB s x x = false := by
      have hw := c.wy
      have ha := c.at_
      unfold waysL at hw
      simp only [List.mem_cons, List.not_mem_nil, or_false] at hw
      have z0 : (x : Int) - (x : Int) = 0 := by omega
      have z1 : absI 0 = 0 := rfl
      unfold farB
      rw [z0]
      rcases hw with e | e | e | e | e | e | e
      · rw [e]; rfl
      · rw [e]; rfl
      · rw [e]; rfl
      · have := ha (.inl e)
        rw [if_pos (.inl e)]
        have e9 : (if s.way = wAround then absI (if s.way = wAhead ∨ s.way = wAtAhead then (0 : Int) else 0) else (if s.way = wAhead ∨ s.way = wAtAhead then (0 : Int) else 0)) = 0 := by rw [e]; rfl
        rw [e9]
        exact decide_eq_false (by omega)
      · have := ha (.inr e)
        rw [if_pos (.inr e)]
        have e9 : (if s.way = wAround then absI (if s.way = wAhead ∨ s.way = wAtAhead then (0 : Int) else 0) else (if s.way = wAhead ∨ s.way = wAtAhead then (0 : Int) else 0)) = 0 := by rw [e]; rfl
        rw [e9]
        exact decide_eq_false (by omega)
      · exact absurd e h1
      · exact absurd e h2
    rw [hf, Bool.and_false]
end
/-- the program takes as the law says -/
theorem sem {s : Sd} (hs : s ∈ sdAll) {ns : List Int} (h : lineB ns = true) {x z : Nat} (hx : x < (sigN ns).length) (hz : z < (sigN ns).length) : takeB (lyOf s) (sigN ns) (pcB 0 ns) x z = lawB s (stB 0 ns) x z := by
  obtain ⟨n1, n2, o1, o2, S1, S2, k1, k2, T⟩ := two_of h hx hz
  obtain ⟨a1, a2⟩ := T.sxn
  rcases nc_of hs with rfl | c
  · unfold takeB lawB
    rw [if_pos (show sdClear.verb = wClear from rfl)]
    by_cases e : z = x
    · rw [if_pos e, decide_eq_true e, T.gx]
      show (!decide (sgAt n1 o1 = 2)) = (true && _)
      rw [Bool.true_and]
      congr 1
      exact decide_eq_decide.mpr ((sgAt_two T.nx).trans a1.symm)
    · rw [if_neg e, decide_eq_false e]
      have hl : leadsB (lyOf sdClear) ((z : Int) - (x : Int)) = false := by
        show ((if _ < (0 : Int) then false else false) && _) = false
        split <;> rfl
      rw [hl, Bool.and_false]
      split <;> rfl
  · obtain ⟨f1, f2, f3, f4⟩ := ly_fields c
    unfold takeB lawB
    rw [if_neg c.nv]
    have hA : (s.verb = wAdd ∨ s.own = true) ↔ (s.own || decide (s.verb = wAdd)) = true := by
      rw [Bool.or_eq_true, decide_eq_true_eq]
      exact ⟨fun q => q.symm, fun q => q.symm⟩
    by_cases e : z = x
    · subst e
      rw [if_pos rfl, T.gz]
      obtain ⟨b1, b2⟩ := T.szn
      have se := sem_eq c T
      unfold keepsB
      rw [f1, if_neg (by decide), f2, f3, ← se]
      by_cases h1 : s.sp = true ∧ (stB 0 ns).getD z 0 < 0
      · obtain ⟨u, v⟩ := h1
        rw [if_pos (show s.sp = true ∧ (stB 0 ns).getD z 0 < 0 from ⟨u, v⟩), decide_eq_true rfl]
        rw [if_pos (by rw [u, Bool.true_and, decide_eq_true ((sgAt_two T.nz).mpr (b1.mp v)), Bool.or_true])]
      · rw [if_neg (show ¬ (s.sp = true ∧ (stB 0 ns).getD z 0 < 0) from h1)]
        have e9 : (s.sp && decide (sgAt n2 o2 = 2)) = false := by
          rw [Bool.and_eq_false_iff]
          by_cases u : s.sp = true
          · right
            exact decide_eq_false fun w => h1 ⟨u, b1.mpr ((sgAt_two T.nz).mp w)⟩
          · left
            simpa using u
        rw [e9, Bool.or_false]
        by_cases u : (s.own || decide (s.verb = wAdd)) = true
        · rw [if_pos u, if_pos (hA.mpr u), decide_eq_true rfl, Bool.or_true]
        · rw [if_neg u, if_neg fun q => u (hA.mp q)]
    · rw [if_neg e, decide_eq_false e, T.gx, T.gz, T.px, T.pz, f4]
      have sn := sem_ne c T e
      have has : asksB (lyOf s) (sgAt n1 o1) = !(s.sp && decide ((stB 0 ns).getD x 0 < 0)) := by
        unfold asksB
        rw [f3, show decide (sgAt n1 o1 = 2) = decide ((stB 0 ns).getD x 0 < 0) from decide_eq_decide.mpr ((sgAt_two T.nx).trans a1.symm)]
        cases s.sp <;> cases decide ((stB 0 ns).getD x 0 < 0) <;> rfl
      rw [has]
      by_cases h1 : s.sp = true ∧ (stB 0 ns).getD x 0 < 0
      · rw [if_pos h1, h1.1, decide_eq_true h1.2]
        simp
      · rw [if_neg h1]
        have e9 : (s.sp && decide ((stB 0 ns).getD x 0 < 0)) = false := by
          rw [Bool.and_eq_false_iff]
          by_cases u : s.sp = true
          · right
            exact decide_eq_false fun w => h1 ⟨u, w⟩
          · left
            simpa using u
        rw [e9, Bool.not_false, Bool.true_and]
        have e8 : (if (decide (s.scope = wRow) && !decide (k2 = k1)) = true then false else seesB (lyOf s) (sgAt n2 o2) && leadsB (lyOf s) ((z : Int) - (x : Int))) = looksB s (stB 0 ns) x z := by
          rw [← sn]
          cases (decide (s.scope = wRow) && !decide (k2 = k1)) <;> rfl
        rw [e8]
        split
        · rw [Bool.and_true, Bool.or_false]
        · rfl
end FR
set_option maxRecDepth 100000
set_option maxHeartbeats 400000
namespace FR
open PySem PySem.Spec PySem.Calls PyProof.Rows L2
theorem ints_inj : ∀ {l l' : List Int}, l.map PyData.int = l'.map PyData.int → l = l'
  | [], [], _ => rfl
  | [], _ :: _, h => by cases h
  | _ :: _, [], h => by cases h
  | x :: r, y :: q, h => by
    rw [List.map_cons, List.map_cons] at h
    injection h with h1 h2
    injection h1 with h1
    rw [h1, ints_inj h2]
theorem dsD_inj {a b : Option (List Int)} (h : dsD a = dsD b) : a = b := by
  cases a with
  | none =>
    cases b with
    | none => rfl
    | some l => cases h
  | some l =>
    cases b with
    | none => cases h
    | some l' => rw [ints_inj (PyData.tuple.inj h)]
theorem spanD_inj {a b a' b' : Bool} {ds ds' : PyData} {m m' : Nat} {en en' : List Int} (h : spanD a b ds m en = spanD a' b' ds' m' en') : a = a' ∧ b = b' ∧ ds = ds' ∧ m = m' ∧ en = en' := by
  injection h with h
  injection h with _ h
  injection h with h1 h
  injection h with h2 h
  injection h with h3 h
  injection h with h4 h
  injection h with h5 _
  injection h1 with _ h1
  injection h2 with _ h2
  injection h3 with _ h3
  injection h4 with _ h4
  injection h5 with _ h5
  injection h1 with h1
  injection h2 with h2
  injection h4 with h4
  injection h5 with h5
  exact ⟨h1, h2, h3, Int.ofNat.inj h4, ints_inj h5⟩
theorem lyD_inj {L L' : Ly} (h : lyD L = lyD L') : L = L' := by
  obtain ⟨w, sc, a, b, ds, m, en, own, ft, cl⟩ := L
  obtain ⟨w', sc', a', b', ds', m', en', own', ft', cl'⟩ := L'
  injection h with h
  injection h with _ h
  injection h with h1 h
  injection h with h2 h
  injection h with h3 h
  injection h with h4 h
  injection h with h5 h
  injection h with h6 _
  injection h1 with _ h1
  injection h2 with _ h2
  injection h3 with _ h3
  injection h4 with _ h4
  injection h5 with _ h5
  injection h6 with _ h6
  injection h1 with h1
  injection h4 with h4
  injection h5 with h5
  injection h6 with h6
  have h1 := Int.ofNat.inj h1
  have h2 := SX.S_inj (PyData.str.inj h2)
  obtain ⟨z1, z2, z3, z4, z5⟩ := spanD_inj h3
  have z3 := dsD_inj z3
  simp only at h1 h2 h4 h5 h6 z1 z2 z3 z4 z5
  rw [h1, h2, h4, h5, h6, z1, z2, z3, z4, z5]
abbrev dI (l : List Int) : PyData := .list (l.map .int)
theorem dI_inj {a b : List Int} (h : dI a = dI b) : a = b := ints_inj (PyData.list.inj h)
theorem dL_injI {a b : List Int} (h : dL a = dL b) : a = b := ints_inj (PyData.tuple.inj h)
/-! what the methods of spans and layers tell -/
abbrev spReach (K : PySem.W.Frag) : Sp := sp2 K (fun x y => ∃ (a b : Bool) (o : Option (List Int)) (m : Nat) (en : List Int) (n : Int), x = spanD a b (dsD o) m en ∧ y = .int n ∧ 0 < m) (fun x y d => ∀ (a b : Bool) (o : Option (List Int)) (m : Nat) (en : List Int) (n : Int), x = spanD a b (dsD o) m en → y = .int n → d = .bool (reachB o m n))
abbrev spLeads (K : PySem.W.Frag) : Sp := sp2 K (fun x y => ∃ (L : Ly) (n : Int), x = spanOf L ∧ y = .int n ∧ 0 < L.m) (fun x y d => ∀ (L : Ly) (n : Int), x = spanOf L → y = .int n → d = .bool (leadsB L n))
abbrev spSign (K : PySem.W.Frag) (f : Ly → Int → Bool) : Sp := sp2 K (fun x y => ∃ (L : Ly) (g : Int), x = lyD L ∧ y = .int g) (fun x y d => ∀ (L : Ly) (g : Int), x = lyD L → y = .int g → d = .bool (f L g))
section
variable {Y : Vol} {K : PySem.W.Frag} {es : List Ent} {te ue : TE} {L : Ly} {a b : Bool} {ds : PyData} {m : Nat} {en : List Int}
/-- the fields of spans and layers -/
structure LyC (K : PySem.W.Frag) : Prop where
  cs : Cls K (He.ga K "Span")
  cl : Cls K (He.ga K "Layer")
  ns : ∀ k ∈ spanFl, NoAttr K (He.ga K "Span") k
  nl : ∀ k ∈ layFl, NoAttr K (He.ga K "Layer") k
theorem ev_sBack (c : LyC K) (h : EvD Y K es te (· = spanD a b ds m en)) : EvD Y K es (tFld K te "back") (· = .bool a) := ev_fld (ks := spanFl) h rfl c.cs (c.ns _ (by decide)) rfl
theorem ev_sAhead (c : LyC K) (h : EvD Y K es te (· = spanD a b ds m en)) : EvD Y K es (tFld K te "ahead") (· = .bool b) := ev_fld (ks := spanFl) h rfl c.cs (c.ns _ (by decide)) rfl
theorem ev_sDist (c : LyC K) (h : EvD Y K es te (· = spanD a b ds m en)) : EvD Y K es (tFld K te "distances") (· = ds) := ev_fld (ks := spanFl) h rfl c.cs (c.ns _ (by decide)) rfl
theorem ev_sEvery (c : LyC K) (h : EvD Y K es te (· = spanD a b ds m en)) : EvD Y K es (tFld K te "every") (· = .int m) := ev_fld (ks := spanFl) h rfl c.cs (c.ns _ (by decide)) rfl
theorem ev_sEnds (c : LyC K) (h : EvD Y K es te (· = spanD a b ds m en)) : EvD Y K es (tFld K te "ends") (· = .tuple (en.map .int)) := ev_fld (ks := spanFl) h rfl c.cs (c.ns _ (by decide)) rfl
theorem ev_lSpan (c : LyC K) (h : EvD Y K es te (· = lyD L)) : EvD Y K es (tFld K te "span") (· = spanOf L) := ev_fld (ks := layFl) h rfl c.cl (c.nl _ (by decide)) rfl
theorem ev_lScope (c : LyC K) (h : EvD Y K es te (· = lyD L)) : EvD Y K es (tFld K te "scope") (· = dS L.sc) := ev_fld (ks := layFl) h rfl c.cl (c.nl _ (by decide)) rfl
theorem ev_lOwn (c : LyC K) (h : EvD Y K es te (· = lyD L)) : EvD Y K es (tFld K te "own") (· = .bool L.own) := ev_fld (ks := layFl) h rfl c.cl (c.nl _ (by decide)) rfl
theorem ev_lFt (c : LyC K) (h : EvD Y K es te (· = lyD L)) : EvD Y K es (tFld K te "for_true") (· = .bool L.ft) := ev_fld (ks := layFl) h rfl c.cl (c.nl _ (by decide)) rfl
theorem ev_lCl (c : LyC K) (h : EvD Y K es te (· = lyD L)) : EvD Y K es (tFld K te "clears") (· = .bool L.cl) := ev_fld (ks := layFl) h rfl c.cl (c.nl _ (by decide)) rfl
theorem ev_reach {n : Int} {E : XK} {o : Option (List Int)} (hm : 0 < m) (h : EvD Y K es te (· = spanD a b (dsD o) m en)) (hn : EvD Y K es ue (· = .int n)) : EvD Y K es (tMeth (He.ga K "Span") "reaches" (spReach K) [] E te (tCons ue tNil)) (· = .bool (reachB o m n)) :=
  (ev_meth1 (ks := spanFl) h rfl (by decide) hn ⟨a, b, o, m, en, n, rfl, rfl, hm⟩).mono fun d h => h a b o m en n rfl rfl
theorem ev_leads {n : Int} {E : XK} (hm : 0 < L.m) (h : EvD Y K es te (· = spanOf L)) (hn : EvD Y K es ue (· = .int n)) : EvD Y K es (tMeth (He.ga K "Span") "leads" (spLeads K) [] E te (tCons ue tNil)) (· = .bool (leadsB L n)) :=
  (ev_meth1 (ks := spanFl) h rfl (by decide) hn ⟨L, n, rfl, rfl, hm⟩).mono fun d h => h L n rfl rfl
theorem ev_sign {f : Ly → Int → Bool} {mt : Str} {g : Int} {E : XK} (hk : mt ∉ layFl) (h : EvD Y K es te (· = lyD L)) (hn : EvD Y K es ue (· = .int g)) : EvD Y K es (tMeth (He.ga K "Layer") mt (spSign K f) [] E te (tCons ue tNil)) (· = .bool (f L g)) :=
  (ev_meth1 (ks := layFl) h rfl hk hn ⟨L, g, rfl, rfl⟩).mono fun d h => h L g rfl rfl
end
theorem ev_isiP {Y : Vol} {K : PySem.W.Frag} {es : List Ent} {te : TE} {d : PyData} {T : String} {r : Bool} (ha : EvT Y K es te (· = d)) (hp : Pl d) (h : kitB (tyN d) T = some r) : EvD Y K es (tCB (rIsi K) (tCons te (tCons (tC (.ty T)) tNil))) (· = .bool r) := ev_isPl (w := .ty T) ha hp (.ty T) (kit_ty h)
/-- what is_line may be given -/
def OkLn (d : PyData) : Prop := Pl d ∧ ∀ ds, d = .tuple ds → (∀ y ∈ ds, Pl y) ∧ ds.length < 1000000
theorem okLn_dL {ns : List Int} (h : ns.length < 1000000) : OkLn (dL ns) := ⟨True.intro, fun ds e => by
  cases e
  refine ⟨fun y hy => ?_, by rw [List.length_map]; exact h⟩
  obtain ⟨i, _, rfl⟩ := List.mem_map.mp hy
  exact True.intro⟩
/-- a list, repeated -/
theorem rep_flat {α : Type} (c : α) : ∀ n : Nat, (List.replicate n [c]).flatten = List.replicate n c
  | 0 => rfl
  | n + 1 => by rw [List.replicate_succ, List.flatten_cons, rep_flat c n, List.replicate_succ]; rfl
theorem os_mul1 {Y : Vol} {K : PySem.W.Frag} {c : PyData} {n : Int} (h2 : 0 ≤ n) (h3 : n ≤ 1000) : OpS Y K rMulU (.list [c]) (.int n) (· = .list (List.replicate n.toNat c)) := (os_mulL (ds := [c]) (Nat.le_of_ble_eq_true rfl) h2 h3).mono fun d e => by rw [e, rep_flat]
theorem sigN_app (a b : List Int) : sigN (a ++ b) = sigN a ++ sigN b := by
  unfold sigN
  rw [List.map_append, List.flatten_append]
theorem sigN_one (n : Int) : sigN [n] = sgBlk n := by
  unfold sigN
  rw [List.map_cons, List.map_nil, List.flatten_cons, List.flatten_nil, List.append_nil]
theorem pcB_app : ∀ (k : Int) (a b : List Int), pcB k (a ++ b) = pcB k a ++ pcB (k + a.length) b
  | k, [], b => by
    show pcB k b = pcB (k + 0) b
    rw [Int.add_zero]
  | k, n :: a, b => by
    show List.replicate (absI n).toNat k ++ pcB (k + 1) (a ++ b) = (List.replicate (absI n).toNat k ++ pcB (k + 1) a) ++ pcB (k + ((a.length + 1 : Nat) : Int)) b
    rw [pcB_app, List.append_assoc, show k + 1 + (a.length : Int) = k + ((a.length + 1 : Nat) : Int) by omega]
theorem pcB_one (k n : Int) : pcB k [n] = List.replicate (absI n).toNat k := List.append_nil _
theorem ly_m {s : Sd} (h : s ∈ sdAll) : 0 < (lyOf s).m := by
  have g : (sdAll.all fun s => decide (0 < (lyOf s).m)) = true := by decide +kernel
  exact of_decide_eq_true (List.all_eq_true.mp g s h)
theorem ly_same {s s' : Sd} (h : s ∈ sdAll) (h' : s' ∈ sdAll) (e : txF s = txF s') : lyOf s = lyOf s' := lyD_inj ((layF_sd h).symm.trans (e ▸ layF_sd h'))
def tupD : PyData → PyData
  | .list ds => .tuple ds
  | d => d
/-- the lists of places from which each place takes -/
def takesL (L : Ly) (ns : List Int) (x : Nat) : List Int := ((List.range (sigN ns).length).filter (takeB L (sigN ns) (pcB 0 ns) x)).map fun z : Nat => (z : Int)
def takenF (L : Ly) (ns : List Int) : List (List Int) := (List.range (sigN ns).length).map (takesL L ns)
abbrev spTaken (K : PySem.W.Frag) : Sp := spF K 3 (fun ds => ∃ (a : List (List Nat)) (i : Nat) (s : Sd) (ns : List Int), ds = [progD (a.map dS), .int i, dL ns] ∧ a.length ≤ 1000 ∧ a[i]? = some (txF s) ∧ s ∈ sdAll ∧ lineB ns = true) (fun ds d => ∀ (a : List (List Nat)) (i : Nat) (s : Sd) (ns : List Int), ds = [progD (a.map dS), .int i, dL ns] → a[i]? = some (txF s) → s ∈ sdAll → d = .tuple ((takenF (lyOf s) ns).map dL))
end FR
set_option maxRecDepth 100000
set_option maxHeartbeats 400000
namespace FR
open PySem PySem.Spec PySem.Calls PyProof.Rows L2
structure Bi3 (mg : Str → Option Value) : Prop where
  sorted : mg "sorted" = none
theorem bt_sorted : bootBuiltins "sorted" = some (.builtin "sorted") := by decide +kernel
theorem kc_sorted {X : Cx} {K : PySem.W.Frag} (h : X.K = K) : CallR X (.builtin "sorted") (rSortedI K) := h ▸ cr_sortedI
theorem cb_sorted {Y : Vol} {K : PySem.W.Frag} {ns : List Int} : CbS Y K (rSortedI K) [dI ns] (fun d => ∃ ns' : List Int, d = dI ns' ∧ ns'.Perm ns ∧ ns'.Pairwise (· ≤ ·)) := fun Hi H vs p h Q q => by
  obtain ⟨v, rfl, hv⟩ := pair1 h
  obtain ⟨a, ws, rfl, h1, h2⟩ := hv.list p.sub
  have e := h2.ints
  subst e
  exact ⟨a, ns, rfl, .inl (.inl h1), fun ns' l p1 p2 hl => q _ _ _ _ (Fr.alloc p hl not_tb_lst) (.lst upd_same (daAll_ints ns')) ⟨ns', rfl, p1, p2⟩⟩
theorem sorted_unique : ∀ {l l' : List Int}, l.Perm l' → l.Pairwise (· ≤ ·) → l'.Pairwise (· ≤ ·) → l = l'
  | [], l', h, _, _ => (List.nil_perm.mp h).symm
  | a :: l, [], h, _, _ => absurd (List.perm_nil.mp h) (List.cons_ne_nil _ _)
  | a :: l, b :: l', h, h1, h2 => by
    have e : a = b := by
      have ha : a ∈ b :: l' := h.mem_iff.mp List.mem_cons_self
      have hb : b ∈ a :: l := h.mem_iff.mpr List.mem_cons_self
      rcases List.mem_cons.mp ha with e | ha
      · exact e
      · rcases List.mem_cons.mp hb with e | hb
        · exact e.symm
        · have := (List.pairwise_cons.mp h1).1 b hb
          have := (List.pairwise_cons.mp h2).1 a ha
          omega
    subst e
    rw [sorted_unique (List.Perm.cons_inv h) (List.pairwise_cons.mp h1).2 (List.pairwise_cons.mp h2).2]
/-! what the law tells -/
abbrev zs (l : List Nat) : List Int := l.map fun z : Nat => (z : Int)
def lawL (s : Sd) (st : List Int) (x : Nat) : List Int := zs ((List.range st.length).filter (lawB s st x))
theorem zs_sorted {p : Nat → Bool} {n : Nat} : (zs ((List.range n).filter p)).Pairwise (· ≤ ·) := by
  refine List.pairwise_map.mpr ?_
  exact (List.Pairwise.filter _ List.pairwise_lt_range).imp fun {a b} h => by omega
theorem zs_nodup {p : Nat → Bool} {n : Nat} : (zs ((List.range n).filter p)).Nodup := by
  refine List.pairwise_map.mpr ?_
  exact (List.Pairwise.filter _ List.pairwise_lt_range).imp fun {a b} h => by omega
theorem range_one {n x : Nat} (h : x < n) : (List.range n).filter (fun z => decide (z = x)) = [x] := by
  have h1 : (zs ((List.range n).filter (fun z => decide (z = x)))).Perm (zs [x]) := by
    refine (List.perm_ext_iff_of_nodup zs_nodup (by simp [zs])).mpr fun a => ?_
    simp only [zs, List.mem_map, List.mem_filter, List.mem_range, decide_eq_true_eq, List.mem_singleton]
    constructor
    · rintro ⟨z, ⟨_, h2⟩, h3⟩
      exact ⟨z, h2, h3⟩
    · rintro ⟨z, h2, h3⟩
      exact ⟨z, ⟨by omega, h2⟩, h3⟩
  have h2 := sorted_unique h1 zs_sorted (by simp [zs])
  have inj : ∀ {a b : List Nat}, zs a = zs b → a = b := by
    intro a
    induction a with
    | nil =>
      intro b e
      cases b with
      | nil => rfl
      | cons _ _ => cases e
    | cons a r ih =>
      intro b e
      cases b with
      | nil => cases e
      | cons b q =>
        injection e with e1 e2
        have e1 : (a : Int) = (b : Int) := e1
        rw [ih e2, show a = b by omega]
  exact inj h2
theorem range_none {n : Nat} : (List.range n).filter (fun _ => false) = [] := List.filter_eq_nil_iff.mpr fun a _ => by simp
/-- sorted: the others, and the place itself -/
theorem law_sorted {n x : Nat} {p : Nat → Bool} (hx : x < n) {l : List Int} (h : l.Perm (zs (((List.range n).filter p).filter fun z => !decide (z = x)) ++ [(x : Int)])) (h2 : l.Pairwise (· ≤ ·)) : l = zs ((List.range n).filter fun z => (p z && !decide (z = x)) || decide (z = x)) := by
  refine sorted_unique (h.trans ?_) h2 zs_sorted
  have nd : (zs (((List.range n).filter p).filter fun z => !decide (z = x)) ++ [(x : Int)]).Nodup := by
    rw [List.filter_filter]
    refine List.nodup_append.mpr ⟨zs_nodup, by simp, fun a ha b hb => ?_⟩
    rw [List.mem_singleton] at hb
    subst hb
    simp only [zs, List.mem_map, List.mem_filter, Bool.and_eq_true, Bool.not_eq_true', decide_eq_false_iff_not] at ha
    obtain ⟨z, ⟨_, h3, _⟩, rfl⟩ := ha
    omega
  refine (List.perm_ext_iff_of_nodup nd zs_nodup).mpr fun a => ?_
  simp only [zs, List.mem_append, List.mem_map, List.mem_filter, List.mem_range, Bool.or_eq_true, Bool.and_eq_true, Bool.not_eq_true', decide_eq_false_iff_not, decide_eq_true_eq, List.mem_singleton]
  constructor
  · rintro (⟨z, ⟨⟨h1, h3⟩, h4⟩, rfl⟩ | rfl)
    · exact ⟨z, ⟨h1, .inl ⟨h3, h4⟩⟩, rfl⟩
    · exact ⟨x, ⟨hx, .inr rfl⟩, rfl⟩
  · rintro ⟨z, ⟨h1, h3 | h3⟩, rfl⟩
    · exact .inl ⟨z, ⟨⟨h1, h3.1⟩, h3.2⟩, rfl⟩
    · exact .inr (by rw [h3])
/-- the program's lists are the law's -/
theorem taken_law {s : Sd} (hs : s ∈ sdAll) {ns : List Int} (h : lineB ns = true) : takenF (lyOf s) ns = (List.range (stB 0 ns).length).map (lawL s (stB 0 ns)) := by
  obtain ⟨hok, hne, hsm⟩ := lineB_inv h
  have l1 := sigN_len hok.nz
  have l2 := stB_len 0 ns
  have e : (sigN ns).length = (stB 0 ns).length := by omega
  unfold takenF
  rw [← e]
  refine List.map_congr_left fun x hx => ?_
  have hx := List.mem_range.mp hx
  unfold takesL lawL
  rw [← e]
  congr 1
  refine List.filter_congr fun z hz => ?_
  exact sem hs h hx (List.mem_range.mp hz)
abbrev stepF (s : Sd) (u : List Nat) : List (List Int) := (List.range u.length).map (lawL s (stB 0 (piecesOf u)))
theorem zs_bound {p : Nat → Bool} {n : Nat} (hn : n ≤ 60) : ∀ i ∈ zs ((List.range n).filter p), 0 ≤ i ∧ i ≤ 60 := fun i hi => by
  obtain ⟨z, hz, rfl⟩ := List.mem_map.mp hi
  have := List.mem_range.mp (List.mem_filter.mp hz).1
  omega
theorem zs_len {p : Nat → Bool} {n : Nat} (hn : n ≤ 60) : (zs ((List.range n).filter p)).length ≤ 60 := by
  rw [List.length_map]
  have := List.length_filter_le p (List.range n)
  rw [List.length_range] at this
  omega
/-- small lists of places, shown -/
theorem sm_places {l : List (List Int)} (hl : l.length ≤ 60) (h : ∀ t ∈ l, t.length ≤ 60 ∧ ∀ i ∈ t, 0 ≤ i ∧ i ≤ 60) : Sm 2 100000 (.tuple (l.map dL)) := by
  refine (sm_tup (D := 1) (L := 1323) fun d hd => ?_).mono (Nat.le_refl _) ?_
  · obtain ⟨t, ht, rfl⟩ := List.mem_map.mp hd
    obtain ⟨h1, h2⟩ := h t ht
    refine (sm_tup (D := 0) (L := 20) fun d hd => ?_).mono (Nat.le_refl _) ?_
    · obtain ⟨i, hi, rfl⟩ := List.mem_map.mp hd
      have := h2 i hi
      exact sm_int (by omega) (by omega)
    · rw [List.length_map]
      omega
  · rw [List.length_map]
    have : l.length * (1323 + 2) ≤ 60 * (1323 + 2) := Nat.mul_le_mul_right _ hl
    omega
theorem step_small {s : Sd} {u : List Nat} (hw : WOk u) (hl : u.length ≤ 60) : Sm 2 100000 (.tuple ((stepF s u).map dL)) := by
  have hst : (stB 0 (piecesOf u)).length = u.length := by
    have pk := pc_ok hw
    have h1 := len_word pk.ok.nz
    rw [pk.word] at h1
    have h2 := stB_len 0 (piecesOf u)
    omega
  refine sm_places (by rw [List.length_map, List.length_range]; exact hl) fun t ht => ?_
  obtain ⟨x, _, rfl⟩ := List.mem_map.mp ht
  unfold lawL
  rw [hst]
  exact ⟨zs_len hl, zs_bound hl⟩
theorem ev_lcL_f {Y : Vol} {K : PySem.W.Frag} {es : List Ent} {tl te : TE} {tt : TT} {j : Nat} {ds : List PyData} (p : PyData → Bool) (h : EvD Y K es tl (· = .list ds)) (ht : ∀ d ∈ ds, TsB Y K (es.set j (.dat d)) tt (· = p d)) (he : ∀ d ∈ ds, EvD Y K (es.set j (.dat d)) te (· = d)) (hl : ds.length < 1000000) : EvD Y K es (tLc (iSeqU K tl) (gName j) tt te [j]) (· = .list (ds.filter p)) :=
  (ev_lcL h p (fun d y => y = d) ht (fun d hd _ => he d hd) hl).mono fun r ⟨ys, e, q⟩ => by
    rw [e]
    have : ∀ {a b : List PyData}, Paired (fun d y => y = d) a b → b = a := fun {a b} h => by
      induction h with
      | nil => rfl
      | cons r _ ih => rw [r, ih]
    rw [this q]
theorem dII_inj : ∀ {l l' : List (List Int)}, PyData.list (l.map dI) = PyData.list (l'.map dI) → l = l' := by
  have key : ∀ {l l' : List (List Int)}, l.map dI = l'.map dI → l = l' := by
    intro l
    induction l with
    | nil =>
      intro l' h
      cases l' with
      | nil => rfl
      | cons _ _ => cases h
    | cons a r ih =>
      intro l' h
      cases l' with
      | nil => cases h
      | cons b q =>
        rw [List.map_cons, List.map_cons] at h
        injection h with h1 h2
        rw [dI_inj h1, ih h2]
  exact fun {l l'} h => key (PyData.list.inj h)
theorem sds_inj {a b : List Sd} (h : PyData.list (a.map sdD) = .list (b.map sdD)) : a = b := by
  have key : ∀ {a b : List Sd}, a.map sdD = b.map sdD → a = b := by
    intro a
    induction a with
    | nil =>
      intro b h
      cases b with
      | nil => rfl
      | cons _ _ => cases h
    | cons x r ih =>
      intro b h
      cases b with
      | nil => cases h
      | cons y q =>
        rw [List.map_cons, List.map_cons] at h
        have h1 := (List.cons.inj h).1
        have h2 := (List.cons.inj h).2
        rw [sdD_inj h1, ih h2]
  exact key (PyData.list.inj h)
theorem words_of {α : Type} {W : List Nat → Prop} : ∀ {l : List α} {ys : List PyData}, Paired (fun _ d => ∃ u, d = dS u ∧ W u) l ys → ∃ vs : List (List Nat), ys = vs.map dS ∧ vs.length = l.length ∧ ∀ v ∈ vs, W v
  | _, _, .nil => ⟨[], rfl, rfl, fun v h => nomatch h⟩
  | _, _, .cons ⟨u, e, hu⟩ t => by
    obtain ⟨vs, e1, e2, e3⟩ := words_of t
    refine ⟨u :: vs, by rw [e, e1]; rfl, by rw [List.length_cons, List.length_cons, e2], fun v hv => ?_⟩
    rcases List.mem_cons.mp hv with q | q
    · rw [q]
      exact hu
    · exact e3 v q
theorem qs_unp2x {Y : Vol} {K : PySem.W.Frag} {es : List Ent} {te : TE} {t2 : TS} {O : Out} {i j : Nat} {Pr : PyData → PyData → Prop} (h : EvD Y K es te (fun d => ∃ a b, d = .tuple [a, b] ∧ Pr a b)) (k : ∀ a b, Pr a b → StS Y K ((es.set i (.dat a)).set j (.dat b)) t2 O) : StS Y K es (tSeq (tAsg te (gTup K 2 (gCons (gName i) (gCons (gName j) gNil)))) t2) O :=
  ss_seq (M := fun e => ∃ a b, Pr a b ∧ e = (es.set i (.dat a)).set j (.dat b)) (ss_unp2 h fun d ⟨a, b, e, p⟩ => ⟨a, b, e, a, b, p, rfl⟩) fun e ⟨a, b, p, e1⟩ => e1 ▸ k a b p
theorem ev_tup2 {Y : Vol} {K : PySem.W.Frag} {es : List Ent} {te ue : TE} {P1 P2 : PyData → Prop} (h1 : EvD Y K es te P1) (h2 : EvD Y K es ue P2) : EvD Y K es (tTup (tCons te (tCons ue tNil))) (fun d => ∃ a b, d = .tuple [a, b] ∧ P1 a ∧ P2 b) :=
  (ev_tup (ar_two h1 h2) fun ds ⟨a, b, e, _⟩ => by rw [e]; exact Nat.le_of_ble_eq_true rfl).mono fun d ⟨ds, e, a, b, e2, p⟩ => ⟨a, b, by rw [e, e2], p⟩
def rev3 {α : Type} : List α → List α
  | [a, b, c] => [c, b, a]
  | l => l
theorem rev3_len {α : Type} : ∀ l : List α, (rev3 l).length = l.length
  | [] => rfl
  | [_] => rfl
  | [_, _] => rfl
  | [_, _, _] => rfl
  | _ :: _ :: _ :: _ :: _ => rfl
theorem vals_rev3 {zs : List V} {ws : List Value} (h : Vals zs ws) : Vals (rev3 zs) (rev3 ws) := by
  cases h with
  | nil => exact .nil
  | cons h1 h =>
    cases h with
    | nil => exact .cons h1 .nil
    | cons h2 h =>
      cases h with
      | nil => exact .cons h1 (.cons h2 .nil)
      | cons h3 h =>
        cases h with
        | nil => exact .cons h3 (.cons h2 (.cons h1 .nil))
        | cons h4 h => exact .cons h1 (.cons h2 (.cons h3 (.cons h4 h)))
theorem ev_callR3 {Y : Vol} {K : PySem.W.Frag} {es : List Ent} {pre : List PyData → Prop} {post : List PyData → PyData → Prop} {E : XK} {tr : TA} {a b c : PyData} (h : ArD Y K es tr (· = [a, b, c])) (hp : pre [c, b, a]) : EvD Y K es (fun σ H Q => tr σ H fun zs H1 => spF K 3 pre post (rev3 zs) H1 Q E) (post [c, b, a]) := fun H0i H0 Hi H σ s Q q =>
  h H0i H0 Hi H σ s _ fun vs ds Hi1 H1 f1 hd e => by
    subst e
    cases hd with
    | cons h1 hd =>
      cases hd with
      | cons h2 hd =>
        cases hd with
        | cons h3 hd =>
          cases hd
          exact ⟨rfl, Y, Hi1, [c, b, a], f1.pre, .cons h3 (.cons h2 (.cons h1 .nil)), hp, fun v d Hi' H' f hv po => q v d Hi' H' (f1.trans f) hv po⟩
end FR
set_option maxRecDepth 100000
set_option maxHeartbeats 400000
namespace FR
open PySem PySem.Spec PySem.Calls PyProof.Rows L2
/-! ### the head: a smaller part of the heap -/
def isFnO (g : Addr → Option Obj) (a : Addr) : Bool := match g a with
  | some ⟨_, _, .func _, _⟩ => true
  | _ => false
/-- the module's names; its functions' parts; what these classes reach -/
def asQ (cls : List Str) (g : Addr → Option Obj) : List Addr :=
  (He.growD g [mainGlobals] ++ (He.growD g ((He.growD g [mainGlobals]).filter (isFnO g)) ++ He.growD g (He.growD g (He.growD g (He.growD g (cls.map (He.ga (He.frG g [mainGlobals])))))))).eraseDups
abbrev AlQ : Type := (He.AlT × Bool) × (List He.FnW × Bool)
def obsQ (cls : List Str) (fa : List He.Fa) (fn : List He.DefD) (tf : List He.Defn) (ex : PySem.W.Frag → Bool) (pr : List DefP) (g : Addr → Option Obj) : AlQ :=
  (fun K => ((He.obsT fa fn [] K, ex K && He.tabsB g tf K), obsPK pr K)) (He.frT g (asQ cls g))
theorem saysQ_of {cls : List Str} {fa : List He.Fa} {fn : List He.DefD} {tf : List He.Defn} {ex : PySem.W.Frag → Bool} {pr : List DefP} {w : World} {h : Heap} (e : obsQ cls fa fn tf ex pr h.get? = (He.valX fn [] w, (pr.map DefP.val, true))) : He.SaysX fa fn [] tf ex w h (He.frT h.get? (asQ cls h.get?)) ∧ SaysP pr (He.frT h.get? (asQ cls h.get?)) := by
  have e0 : (He.obsT fa fn [] (He.frT h.get? (asQ cls h.get?)), ex (He.frT h.get? (asQ cls h.get?)) && He.tabsB h.get? tf (He.frT h.get? (asQ cls h.get?))) = He.valX fn [] w := congrArg (fun z : AlQ => z.1) e
  have e1 : He.obsT fa fn [] (He.frT h.get? (asQ cls h.get?)) = He.valT fn [] w := congrArg (fun z : He.AlX => z.1) e0
  have e2 : (ex (He.frT h.get? (asQ cls h.get?)) && He.tabsB h.get? tf (He.frT h.get? (asQ cls h.get?))) = true := congrArg (fun z : He.AlX => z.2) e0
  obtain ⟨h1, h2⟩ := He.ba e2
  have key : ∀ p ∈ tf, PySem.W.codeHdIn (He.frT h.get? (asQ cls h.get?)) (He.cT (He.frT h.get? (asQ cls h.get?)) p).1 (He.cT (He.frT h.get? (asQ cls h.get?)) p).2 = true ∧ ∃ o, h.get? (He.cT (He.frT h.get? (asQ cls h.get?)) p).2 = some o ∧ He.emptyTab o = true := fun p hp => by
    obtain ⟨h3, h4⟩ := He.ba (List.all_eq_true.mp h2 p hp)
    refine ⟨h3, ?_⟩
    cases q : h.get? (He.cT (He.frT h.get? (asQ cls h.get?)) p).2 with
    | none =>
      rw [q] at h4
      cases h4
    | some o =>
      rw [q] at h4
      exact ⟨o, rfl, h4⟩
  refine ⟨⟨e1, h1, fun p hp => (key p hp).1, fun p hp => ?_, fun p hp => ?_⟩, congrArg (fun z : AlQ => z.2) e⟩
  · obtain ⟨_, o, q, z⟩ := key p hp
    exact He.frT_none q z
  · obtain ⟨_, o, q, z⟩ := key p hp
    rw [q, He.emptyTab_eq z]
def hookQ (cls : List Str) (fa : List He.Fa) (fn : List He.DefD) (tf : List He.Defn) (ex : PySem.W.Frag → Bool) (pr : List DefP) : PySem.W.Hook where
  α := AlQ
  obs := fun s => obsQ cls fa fn tf ex pr s.heap.get?
  val := fun w => (He.valX fn [] w, (pr.map DefP.val, true))
  says := fun w h => ∃ K : PySem.W.Frag, K.In h ∧ He.SaysX fa fn [] tf ex w h K ∧ SaysP pr K
  of := fun _ _ e => ⟨_, He.frT_in, saysQ_of e⟩
  keeps := fun _ _ _ ⟨K, hK, c, p⟩ k => ⟨K, PySem.W.Frag.In.keeps hK k, ⟨c.t, c.more, c.hd, c.out, fun p hp => k _ _ (c.empty p hp)⟩, p⟩
theorem obsQ_eq {cls : List Str} {fa : List He.Fa} {fn : List He.DefD} {tf : List He.Defn} {ex : PySem.W.Frag → Bool} {pr : List DefP} {g : Addr → Option Obj} {s : Shared} (h : ∀ a, g a = s.heap.get? a) : obsQ cls fa fn tf ex pr g = (hookQ cls fa fn tf ex pr).obs s := by
  have e : g = s.heap.get? := funext h
  rw [e] <;> rfl
end FR
set_option maxRecDepth 100000
set_option maxHeartbeats 400000
namespace FR
open PySem PySem.Spec PySem.Calls PyProof.Rows L2
/-- [.. for x in range(lo, n, step)]: the turns -/
theorem lc_rangeC {lo c : Int} {n : Nat} {g : TG} {tt : TT} {te : TE} {vs : List Nat} {σ : L2.St} {H1 : Hp} {D : Addr} {Qd : Hp → Prop} (Pv : Nat → Hp → Prop) (h0 : Pv 0 (upd H1 D (.lst [])))
    (hs : ∀ i H, i < n → Pv i H → g (.int (lo + (i : Nat) * c)) (wipe σ vs) H fun σ2 H2 => wipe σ2 vs = wipe σ vs ∧ tt σ2 H2 fun b H3 =>
      if b = true then te σ2 H3 fun y H4 => ∃ acc, H4 D = some (.lst acc) ∧ acc.length < sizeLine ∧ Pv (i + 1) (upd H4 D (.lst (acc ++ [y]))) else Pv (i + 1) H3) (hd : ∀ H, Pv n H → Qd H) :
    ∃ W : Nat → Nat → Hp → Prop, (∃ m, W 0 m (upd H1 D (.lst []))) ∧ ∀ i m H, W i m H →
      ((Itc lo c n).stop i H ∧ Qd H) ∨ ((Itc lo c n).go i H ∧ ∃ Nx : Hp → Prop, (∀ H', Nx H' → ∃ m', m' < m ∧ W (i + 1) m' H') ∧ ∀ v H', (Itc lo c n).yld i H v H' → g v (wipe σ vs) H' fun σ2 H2 => wipe σ2 vs = wipe σ vs ∧ tt σ2 H2 fun b H3 =>
        if b = true then te σ2 H3 fun y H4 => ∃ acc, H4 D = some (.lst acc) ∧ acc.length < sizeLine ∧ Nx (upd H4 D (.lst (acc ++ [y]))) else Nx H3) := by
  refine ⟨fun i m H => m = n - i ∧ i ≤ n ∧ Pv i H, ⟨n, by simp, Nat.zero_le _, h0⟩, ?_⟩
  rintro i m H ⟨rfl, hi, p⟩
  by_cases hlt : i < n
  · refine .inr ⟨hlt, Pv (i + 1), fun H' q => ⟨n - (i + 1), by omega, rfl, hlt, q⟩, fun v H' hy => ?_⟩
    obtain ⟨rfl, rfl⟩ := hy
    exact hs i _ hlt p
  · have e : i = n := by omega
    subst e
    exact .inl ⟨Nat.le_refl _, hd H p⟩
section
variable {Y : Vol} {K : PySem.W.Frag} {es : List Ent} {tt : TT} {te : TE} {j : Nat}
/-- [e for x in range(lo, hi, c) if t] -/
theorem ev_lcR3 {lo hi c : Int} {n : Nat} {tl : TA} (h : ArD Y K es tl (· = [.int lo, .int hi, .int c])) (rg : RgC lo hi c n) (p : Nat → Bool) (G : Nat → PyData → Prop) (ht : ∀ k : Nat, k < n → TsB Y K (es.set j (.dat (.int (lo + (k : Nat) * c)))) tt (· = p k)) (he : ∀ k : Nat, k < n → p k = true → EvD Y K (es.set j (.dat (.int (lo + (k : Nat) * c)))) te (G k)) (hn : n < 1000000) :
    EvD Y K es (tLc (iRng3 tl) (gName j) tt te [j]) (fun r => ∃ ys, r = .list ys ∧ Paired G ((List.range n).filter p) ys) := fun H0i H0 Hi H σ s Q q => by
  refine h H0i H0 Hi H σ s _ fun vs ds Hi1 H1 f1 hv e => ?_
  subst e
  cases hv with
  | cons h1 h2 =>
    cases h1
    cases h2 with
    | cons h3 h4 =>
      cases h3
      cases h4 with
      | cons h5 h6 =>
        cases h5
        cases h6
        have s1 := s.step f1
        refine ⟨lo, hi, c, n, rfl, rg, fun Dl hD => ?_⟩
        refine lc_rangeC (lo := lo) (c := c) (n := n) (fun k H' => LcW Y K Hi1 H1 Dl (fun ys => Paired G (((List.range n).take k).filter p) ys) H') (LcW.init f1.pre hD (by rw [List.take_zero]; exact .nil)) (fun k H' hk w => ⟨wipe1 σ _, ?_⟩) (fun H' w => ?_)
        · have hd1 := range_get (m := n) hk
          exact LcW.turn (n := n) s1 hD w (fun ys py => by rw [← Paired.length py]; exact Nat.le_trans (List.length_filter_le _ _) (by rw [List.length_take, List.length_range]; exact Nat.min_le_right _ _)) hn (Same.refl Hi1)
            (fun Hi' sm f => (s1.step f).turn (.int (lo + (k : Int) * c))) (fun Hi' f => f.hi) (ht k hk) (fun e => he k hk e)
            (fun ys y py e g => by rw [take_succ_filter hd1, if_pos e]; exact paired_snoc g py) (fun ys py e => by rw [take_succ_filter hd1, e, if_neg Bool.false_ne_true, List.append_nil]; exact py)
        · obtain ⟨Hi', ys, g, hd, rr⟩ := w.fin f1 hD
          have e : (List.range n).take n = List.range n := List.take_of_length_le (by rw [List.length_range]; exact Nat.le_refl _)
          rw [e] at rr
          exact q _ _ _ _ g hd ⟨ys, rfl, rr⟩
theorem ev_lcR3f {lo hi c : Int} {n : Nat} {tl : TA} (p : Nat → Bool) (f : Nat → PyData) (h : ArD Y K es tl (· = [.int lo, .int hi, .int c])) (rg : RgC lo hi c n) (ht : ∀ k : Nat, k < n → TsB Y K (es.set j (.dat (.int (lo + (k : Nat) * c)))) tt (· = p k)) (he : ∀ k : Nat, k < n → p k = true → EvD Y K (es.set j (.dat (.int (lo + (k : Nat) * c)))) te (· = f k)) (hn : n < 1000000) :
    EvD Y K es (tLc (iRng3 tl) (gName j) tt te [j]) (· = .list (((List.range n).filter p).map f)) :=
  (ev_lcR3 h rg p (fun d y => y = f d) ht he hn).mono fun r ⟨ys, e, p⟩ => by rw [e, paired_map p]
end
/-! list(range(a, b, c)) -/
def tLR3 (ta : TA) : TE := fun σ H Q => ta σ H fun vs H1 => ∃ (i j c : Int) (n : Nat), vs = [.int i, .int j, .int c] ∧ RgC i j c n ∧ n ≤ 1000000 ∧ ∀ l, H1 l = none → Q (.ref l) (upd H1 l (.lst ((rangeInts i c n).map V.int)))
theorem vals_of_get : ∀ {ks : List Int} {its : List Value}, its.length = ks.length → (∀ (j : Nat) (v : Value) (k : Int), its[j]? = some v → ks[j]? = some k → ∃ t, v = .int k t) → Vals (ks.map V.int) its
  | [], [], _, _ => .nil
  | [], _ :: _, h, _ => by cases h
  | _ :: _, [], h, _ => by cases h
  | k :: ks, v :: its, h, g => by
    obtain ⟨t, rfl⟩ := g 0 v k rfl rfl
    exact .cons ⟨t, rfl⟩ (vals_of_get (Nat.succ.inj h) fun j v k h1 h2 => g (j + 1) v k h1 h2)
theorem vals_ints {a c : Int} {n : Nat} {its : Array Value} (h : ItemsOf (fun i v => ∃ t, v = .int (a + i * c) t) its n) : Vals ((rangeInts a c n).map V.int) its.toList := by
  refine vals_of_get (by rw [rangeInts_length, Array.length_toList]; exact h.1) fun j v k h1 h2 => ?_
  have h1' : its[j]? = some v := by simpa using h1
  obtain ⟨t, e⟩ := h.2 j v h1'
  have hj : j < n := by
    have := (Array.getElem?_eq_some_iff.mp h1').1
    rw [h.1] at this
    exact this
  rw [rangeInts_get hj] at h2
  cases h2
  exact ⟨t, e⟩
theorem pe_lstRange3 {X : Cx} {a b c : Expr} {ta : TA} {p1 p pos pos2 : Pos} (hcm : X.calm = true) (hgl : Gl X "list") (hml : X.mg "list" = none) (hg : Gl X "range") (hm : X.mg "range" = none) (ha : PA X [a, b, c] ta)
    (hs : starEach [a, b, c] X.env = (false, eval a X.env) :: starEach [b, c] X.env := by rfl) (hpl : (backTo pos (starEach [b, c] X.env)).any (·.1) = false := by rfl)
    (hs2 : starEach [.Call (.Name "range" p) [a, b, c] [] pos] X.env = [(false, eval (.Call (.Name "range" p) [a, b, c] [] pos) X.env)] := by rfl) :
    PE X (.Call (.Name "list" p1) [.Call (.Name "range" p) [a, b, c] [] pos] [] pos2) (tLR3 ta) := by
  refine ⟨fun pins s σ H Q I h => ?_⟩
  refine wpAny_Call_Name_kw (ld_blt I hgl hml bt_lst ?_ (by decide) (by decide))
  refine PyProof.Rows.callWith_type1 ?_ hs2 rfl
  rw [hs2]
  show wpAny _ _ (spliced ((false, eval _ X.env) :: [])) _ _ s
  refine Calls.spliced_cons ?_
  refine Call_ (ld_blt I hg hm boot_range (PyProof.Rows.callWith_type1 (thn (ha.run pos pins s σ H _ I h) fun us s1 ⟨vs, H1, I1, r1, q1⟩ => ?_) hs hpl))
  obtain ⟨i, j, k, n, e, ⟨c0, c1, c2, c3⟩, hn, q⟩ := q1
  subst e
  cases r1 with
  | cons r rr =>
    cases rr with
    | cons r' rr =>
      cases rr with
      | cons r'' rr =>
        cases rr
        obtain ⟨t, rfl⟩ := r
        obtain ⟨t', rfl⟩ := r'
        obtain ⟨t'', rfl⟩ := r''
        refine call_range_3 c0 ?_ (.inl (PyProof.noPylong_small c1))
        have I2 : Inv X pins σ H1 { s1 with heap := s1.heap.push { cls := .type "range", data := .fields #[.int i t, .int j t', .int k t''] } } := I1.kept (t' := s1.toks) fun b o e => Heap.get?_push_of_some _ e
        refine Calls.spliced_nil ?_
        refine call_list_range (I2.ok.hd hcm) (IsRange.new ..) c2 c3 (by omega) fun h' tk acc c' kp e it => ?_
        refine ⟨.ref _, _, I2.laid (t' := tk) kp (Nat.le_refl _) (show ObjOk X.prog X.w _ h' _ (.lst ((rangeInts i k n).map V.int)) from ⟨?_, acc.toList, c', vals_ints it, e⟩), rfl, q _ (I2.hok.fresh (Nat.le_refl _))⟩
        rw [List.length_map, rangeInts_length]
        rw [sizeLine_eq]
        omega
theorem rangeInts_alt (a c : Int) (n : Nat) : rangeInts a c n = (List.range n).map fun i => a + (i : Nat) * c := rfl
/-- list(range(a, b, c)), of numbers that are known -/
theorem ev_lstR3 {Y : Vol} {K : PySem.W.Frag} {es : List Ent} {lo hi c : Int} {n : Nat} {tl : TA} (h : ArD Y K es tl (· = [.int lo, .int hi, .int c])) (rg : RgC lo hi c n) (hn : n ≤ 1000000) : EvD Y K es (tLR3 tl) (· = .list ((rangeInts lo c n).map .int)) := fun H0i H0 Hi H σ s Q q => by
  refine h H0i H0 Hi H σ s _ fun vs ds Hi1 H1 f1 hv e => ?_
  subst e
  cases hv with
  | cons h1 h2 =>
    cases h1
    cases h2 with
    | cons h3 h4 =>
      cases h3
      cases h4 with
      | cons h5 h6 =>
        cases h5
        cases h6
        refine ⟨lo, hi, c, n, rfl, rg, hn, fun l hl => ?_⟩
        exact q _ _ _ _ (f1.trans (Fr.alloc f1.pre hl not_tb_lst)) (.lst upd_same (daAll_ints (rangeInts lo c n))) rfl
/-- law(script) whose return begins with a test that holds -/
theorem law_readA {Y : Vol} {K : PySem.W.Frag} {T : List (Addr × Str)} {H : Hp} {a : Addr} {N : List Str} {Q : VK} {nx : L2.St → Hp → Prop} {bk ct : L2.St → Hp → Prop} {tb tw : TE} {j : Nat} {E : XK} (hN : 1 ≤ N.length) (hj : j < N.length) (hL : Y.Lam T) (p : Pre Y (fun _ => none) H)
    (hb : EvD Y K (.raw (.ref a) :: List.replicate (N.length - 1) .unk) tb (· = .bool true)) (hl : EvD Y K (.raw (.ref a) :: List.replicate (N.length - 1) .unk) tw (fun d => ∃ ds, d = .list ds ∧ ds.length ≤ 100 ∧ ∀ x ∈ ds, wellD x)) (hQ : ∀ H', Q (.bl true) H') :
    (tRet (tAndV tb (tCB (rAll K) (tCons (tLc (iSeqU K tw) (gName j) tYes (tCall (spLW K T (· = .bool true)) [] E (tCons (tVar j) tNil)) [j]) tNil)))) { nx := nx, bk := bk, ct := ct, rt := Q } (L2.start N [.ref a]) H := by
  have s : StIs Y K (fun _ => none) H (fun _ => none) H (L2.start N [.ref a]) (.raw (.ref a) :: List.replicate (N.length - 1) .unk) := by
    refine st0 (vs := [_]) p hN ?_ fun i e hi => ?_
    · rw [List.length_cons, List.length_replicate]
      omega
    · match i, hi with
      | 0, hi =>
        cases hi
        exact .inr ⟨_, rfl, .inr rfl⟩
      | i + 1, hi =>
        rw [List.getElem?_cons_succ] at hi
        obtain ⟨_, e⟩ := List.getElem?_eq_some_iff.mp hi
        rw [List.getElem_replicate] at e
        exact .inl e.symm
  refine hb _ _ _ _ _ s _ fun v d Hi1 H1 f1 hv e => ?_
  subst e
  cases hv
  refine ⟨true, rfl, ?_⟩
  rw [if_pos rfl]
  exact ret_wells (Dn := { nx := nx, bk := bk, ct := ct, rt := Q }) (s.step f1) (by rw [s.len, List.length_cons, List.length_replicate]; omega) hL hl hQ
end FR
namespace FR
open PySem PySem.Spec PySem.Calls PyProof.Rows L2
theorem nats_of {α : Type} {W : Nat → Prop} : ∀ {l : List α} {ys : List PyData}, Paired (fun _ d => ∃ r : Nat, d = .int (r : Int) ∧ W r) l ys → ∃ vs : List Nat, ys = vs.map (fun x : Nat => PyData.int (x : Int)) ∧ vs.length = l.length ∧ ∀ v ∈ vs, W v
  | _, _, .nil => ⟨[], rfl, rfl, fun v h => nomatch h⟩
  | _, _, .cons ⟨u, e, hu⟩ t => by
    obtain ⟨vs, e1, e2, e3⟩ := nats_of t
    refine ⟨u :: vs, by rw [e, e1]; rfl, by rw [List.length_cons, List.length_cons, e2], fun v hv => ?_⟩
    rcases List.mem_cons.mp hv with q | q
    · rw [q]
      exact hu
    · exact e3 v q
end FR
set_option maxRecDepth 100000
set_option maxHeartbeats 400000
namespace FR
open PySem PySem.Spec PySem.Calls PyProof.Rows L2
/-! ### sets of places, as bits -/
theorem filt_ext {m n : Nat} {p q : Nat → Bool} (h : ∀ k, (k < m ∧ p k = true) ↔ (k < n ∧ q k = true)) : (List.range m).filter p = (List.range n).filter q := by
  have h1 : (zs ((List.range m).filter p)).Perm (zs ((List.range n).filter q)) := by
    refine (List.perm_ext_iff_of_nodup zs_nodup zs_nodup).mpr fun a => ?_
    simp only [zs, List.mem_map, List.mem_filter, List.mem_range]
    constructor
    · rintro ⟨z, hz, rfl⟩
      exact ⟨z, (h z).mp hz, rfl⟩
    · rintro ⟨z, hz, rfl⟩
      exact ⟨z, (h z).mpr hz, rfl⟩
  have h2 := sorted_unique h1 zs_sorted zs_sorted
  have inj : ∀ {a b : List Nat}, zs a = zs b → a = b := by
    intro a
    induction a with
    | nil =>
      intro b e
      cases b with
      | nil => rfl
      | cons _ _ => cases e
    | cons a r ih =>
      intro b e
      cases b with
      | nil => cases e
      | cons b q =>
        injection e with e1 e2
        have e1 : (a : Int) = (b : Int) := e1
        rw [ih e2, show a = b by omega]
  exact inj h2
theorem zs_inj {a b : List Nat} (h : zs a = zs b) : a = b := by
  induction a generalizing b with
  | nil =>
    cases b with
    | nil => rfl
    | cons _ _ => cases h
  | cons a r ih =>
    cases b with
    | nil => cases h
    | cons b q =>
      injection h with e1 e2
      have e1 : (a : Int) = (b : Int) := e1
      rw [ih e2, show a = b by omega]
/-- the places as bits -/
def maskN (l : List Nat) : Nat := l.foldr (fun k b => b ||| 2 ^ k) 0
theorem mask_bit {y : Nat} : ∀ l : List Nat, (maskN l).testBit y = l.contains y
  | [] => by simp [maskN]
  | k :: l => by
    show (maskN l ||| 2 ^ k).testBit y = _
    rw [Nat.testBit_or, mask_bit l, Nat.testBit_two_pow, List.contains_cons, Bool.or_comm]
    congr 1
    by_cases h : k = y
    · subst h
      simp
    · have h2 : ¬ y = k := fun z => h z.symm
      rw [decide_eq_false h]
      symm
      exact beq_eq_false_iff_ne.mpr h2
/-- what they hold together -/
def togI (hs : List Nat) (ps : List Nat) : Nat := ps.foldl (fun b p => b ||| hs.getD p 0) 0
theorem tog_bit {hs : List Nat} {y : Nat} : ∀ (ps : List Nat) (b : Nat), (ps.foldl (fun b p => b ||| hs.getD p 0) b).testBit y = (b.testBit y || ps.any fun p => (hs.getD p 0).testBit y)
  | [], b => by simp
  | p :: ps, b => by
    show (ps.foldl _ (b ||| hs.getD p 0)).testBit y = _
    rw [tog_bit ps, Nat.testBit_or, List.any_cons, Bool.or_assoc]
/-- the law's: joined, ascending -/
def joinN (F : List (List Nat)) (ps : List Nat) : List Nat := (List.range F.length).filter fun y => ps.any fun z => (F.getD z []).contains y
def Small (F : List (List Nat)) : Prop := ∀ l ∈ F, ∀ k ∈ l, k < F.length
theorem tog_join {F : List (List Nat)} (h : Small F) (ps : List Nat) : togI (F.map maskN) ps = maskN (joinN F ps) := by
  refine Nat.eq_of_testBit_eq fun y => ?_
  unfold togI
  rw [tog_bit, mask_bit, Nat.zero_testBit, Bool.false_or]
  have e : ∀ p, ((F.map maskN).getD p 0).testBit y = (F.getD p []).contains y := fun p => by
    simp only [List.getD, List.getElem?_map]
    cases F[p]? with
    | none => simp
    | some l => exact mask_bit l
  simp only [e]
  unfold joinN
  by_cases hy : y < F.length
  · rw [List.contains_eq_mem]
    by_cases hq : (ps.any fun z => (F.getD z []).contains y) = true
    · rw [hq]
      simp [hy, hq]
      simpa using hq
    · rw [Bool.not_eq_true] at hq
      rw [hq]
      symm
      rw [decide_eq_false_iff_not]
      intro z
      have := (List.mem_filter.mp z).2
      rw [hq] at this
      cases this
  · rw [List.contains_eq_mem]
    have h1 : (ps.any fun z => (F.getD z []).contains y) = false := by
      rw [List.any_eq_false]
      intro z _ hz
      rw [List.contains_iff_mem] at hz
      cases q : F[z]? with
      | none => simp [List.getD, q] at hz
      | some l =>
        simp [List.getD, q] at hz
        exact hy (h l (List.mem_of_getElem? q) y hz)
    rw [h1]
    symm
    rw [decide_eq_false_iff_not]
    intro z
    exact hy (List.mem_range.mp (List.mem_filter.mp z).1)
theorem join_small {F : List (List Nat)} {st : List (List Nat)} (h : st.length = F.length) : Small (st.map (joinN F)) := fun l hl k hk => by
  obtain ⟨p, _, rfl⟩ := List.mem_map.mp hl
  rw [List.length_map, h]
  exact List.mem_range.mp (List.mem_filter.mp hk).1
/-- a round of the layers -/
def roundN (steps : List (List (List Nat))) (F : List (List Nat)) : List (List Nat) := steps.foldl (fun F st => st.map (joinN F)) F
def roundI (steps : List (List (List Nat))) (H : List Nat) : List Nat := steps.foldl (fun H st => st.map (togI H)) H
def runN (steps : List (List (List Nat))) : Nat → List (List Nat) → List (List Nat)
  | 0, F => F
  | k + 1, F => roundN steps (runN steps k F)
def runI (steps : List (List (List Nat))) : Nat → List Nat → List Nat
  | 0, H => H
  | k + 1, H => roundI steps (runI steps k H)
theorem map_tog {F : List (List Nat)} (h : Small F) (st : List (List Nat)) : st.map (togI (F.map maskN)) = (st.map (joinN F)).map maskN := by
  rw [List.map_map]
  exact List.map_congr_left fun p _ => tog_join h p
theorem round_all {n : Nat} : ∀ {steps : List (List (List Nat))} {F : List (List Nat)}, (∀ st ∈ steps, st.length = n) → F.length = n → Small F → roundI steps (F.map maskN) = (roundN steps F).map maskN ∧ (roundN steps F).length = n ∧ Small (roundN steps F)
  | [], F, _, h2, h3 => ⟨rfl, h2, h3⟩
  | st :: steps, F, h1, h2, h3 => by
    have hst := h1 st List.mem_cons_self
    have a := round_all (steps := steps) (F := st.map (joinN F)) (fun s hs => h1 s (List.mem_cons_of_mem _ hs)) (by rw [List.length_map]; exact hst) (join_small (hst.trans h2.symm))
    refine ⟨?_, a.2⟩
    show roundI steps (st.map (togI (F.map maskN))) = _
    rw [map_tog h3]
    exact a.1
theorem run_all {n : Nat} {steps : List (List (List Nat))} {F : List (List Nat)} (h1 : ∀ st ∈ steps, st.length = n) (h2 : F.length = n) (h3 : Small F) : ∀ k, runI steps k (F.map maskN) = (runN steps k F).map maskN ∧ (runN steps k F).length = n ∧ Small (runN steps k F)
  | 0 => ⟨rfl, h2, h3⟩
  | k + 1 => by
    obtain ⟨a, b, c⟩ := run_all h1 h2 h3 k
    have r := round_all h1 b c
    refine ⟨?_, r.2⟩
    show roundI steps (runI steps k (F.map maskN)) = _
    rw [a]
    exact r.1
/-- at the start each place holds itself -/
def startN (n : Nat) : List (List Nat) := (List.range n).map fun k => [k]
theorem start_small (n : Nat) : Small (startN n) := fun l hl k hk => by
  obtain ⟨j, hj, rfl⟩ := List.mem_map.mp hl
  rw [List.mem_singleton.mp hk, startN, List.length_map, List.length_range]
  exact List.mem_range.mp hj
theorem startN_len (n : Nat) : (startN n).length = n := by rw [startN, List.length_map, List.length_range]
theorem start_mask (n : Nat) : (startN n).map maskN = (List.range n).map fun k => 2 ^ k := by
  rw [startN, List.map_map]
  exact List.map_congr_left fun k _ => by
    show (0 : Nat) ||| 2 ^ k = 2 ^ k
    exact Nat.zero_or _
/-- the members of bits -/
def memI (b : Nat) : List Nat := (List.range (Builtin.Int.intBits (b : Int))).filter fun k => b.testBit k
theorem bits_lt {b k : Nat} (h : b.testBit k = true) : k < Builtin.Int.intBits (b : Int) := by
  have h1 : 2 ^ k ≤ b := Nat.ge_two_pow_of_testBit h
  have h0 : b ≠ 0 := by
    intro z
    rw [z, Nat.zero_testBit] at h
    cases h
  unfold Builtin.Int.intBits
  rw [if_neg (by simpa using h0)]
  have : k ≤ b.log2 := (Nat.le_log2 h0).mpr h1
  show k < ((b : Int).natAbs).log2 + 1
  rw [Int.natAbs_natCast]
  omega
theorem mem_mask {n : Nat} {p : Nat → Bool} : memI (maskN ((List.range n).filter p)) = (List.range n).filter p := by
  unfold memI
  refine filt_ext fun k => ?_
  have e : (maskN ((List.range n).filter p)).testBit k = true ↔ (k < n ∧ p k = true) := by
    rw [mask_bit, List.contains_iff_mem, List.mem_filter, List.mem_range]
  constructor
  · rintro ⟨_, h⟩
    exact e.mp h
  · intro h
    exact ⟨bits_lt (e.mpr h), e.mpr h⟩
/-- a list of places that ascends, below n -/
def Asc1 (l : List Nat) : Prop := ∃ n p, l = (List.range n).filter p
theorem asc_mem {l : List Nat} (h : Asc1 l) : memI (maskN l) = l := by
  obtain ⟨n, p, rfl⟩ := h
  exact mem_mask
theorem asc_join (F : List (List Nat)) (ps : List Nat) : Asc1 (joinN F ps) := ⟨_, _, rfl⟩
theorem asc_round {steps : List (List (List Nat))} : ∀ {F : List (List Nat)}, (∀ l ∈ F, Asc1 l) → ∀ l ∈ roundN steps F, Asc1 l := by
  induction steps with
  | nil => exact fun h => h
  | cons st steps ih =>
    intro F _
    exact ih (F := st.map (joinN F)) fun l hl => by
      obtain ⟨p, _, rfl⟩ := List.mem_map.mp hl
      exact asc_join F p
theorem asc_run {steps : List (List (List Nat))} {F : List (List Nat)} (h : ∀ l ∈ F, Asc1 l) : ∀ k, ∀ l ∈ runN steps k F, Asc1 l
  | 0 => h
  | k + 1 => asc_round (asc_run h k)
theorem asc_start (n : Nat) : ∀ l ∈ startN n, Asc1 l := fun l hl => by
  obtain ⟨j, hj, rfl⟩ := List.mem_map.mp hl
  exact ⟨n, fun z => decide (z = j), (range_one (List.mem_range.mp hj)).symm⟩
end FR
set_option maxRecDepth 100000
set_option maxHeartbeats 400000
namespace FR
open PySem PySem.Spec PySem.Calls PyProof.Rows L2
/-! ### ints as bits -/
abbrev rShlI : R2 := rI CPow fun i j => .int (i * 2 ^ j.toNat)
abbrev rShrI : R2 := rI (fun _ j => 0 ≤ j) fun i j => .int (i / 2 ^ j.toNat)
abbrev rOrI : R2 := rI0 fun i j => .int (Builtin.bitOr i j)
abbrev rAndI : R2 := rI0 fun i j => .int (Builtin.bitAnd i j)
section
variable {Y : Vol} {K : PySem.W.Frag} {es : List Ent} {te : TE}
theorem os_shl1 {k : Nat} (h : k ≤ 1000) : OpS Y K rShlI (.int 1) (.int (k : Int)) (· = .int ((2 ^ k : Nat) : Int)) := by
  have e : (1 : Int) * 2 ^ ((k : Int)).toNat = ((2 ^ k : Nat) : Int) := by
    rw [Int.toNat_natCast, Int.one_mul]
    simp
  rw [← e]
  exact os_iiC (g := fun i j => .int (i * 2 ^ j.toNat)) ⟨by omega, by omega, by decide⟩ (.int _)
theorem os_or {a b : Nat} : OpS Y K rOrI (.int (a : Int)) (.int (b : Int)) (· = .int ((a ||| b : Nat) : Int)) := by
  have e : Builtin.bitOr (a : Int) (b : Int) = ((a ||| b : Nat) : Int) := by
    rw [bitOr_nn (by omega) (by omega), Int.toNat_natCast, Int.toNat_natCast]
  rw [← e]
  exact os_ii (g := fun i j => .int (Builtin.bitOr i j)) (.int _)
theorem os_shr {a k : Nat} : OpS Y K rShrI (.int (a : Int)) (.int (k : Int)) (· = .int ((a / 2 ^ k : Nat) : Int)) := by
  have e : (a : Int) / 2 ^ ((k : Int)).toNat = ((a / 2 ^ k : Nat) : Int) := by
    rw [Int.toNat_natCast]
    simp
  rw [← e]
  exact os_iiC (g := fun i j => .int (i / 2 ^ j.toNat)) (by omega) (.int _)
theorem os_and1 {a : Nat} : OpS Y K rAndI (.int (a : Int)) (.int 1) (· = .int ((a % 2 : Nat) : Int)) := by
  have e : Builtin.bitAnd (a : Int) 1 = ((a % 2 : Nat) : Int) := by
    rw [bitAnd_m1]
    omega
  rw [← e]
  exact os_ii (g := fun i j => .int (Builtin.bitAnd i j)) (.int _)
theorem ev_bits {b : Nat} (h : EvT Y K es te (· = .int (b : Int))) : EvD Y K es (tBits te) (· = .int ((Builtin.Int.intBits (b : Int) : Nat) : Int)) := fun H0i H0 Hi H σ s Q q =>
  h H0i H0 Hi H σ s _ fun v d Hi1 H1 f1 hv e => by
    subst e
    rw [hv.int]
    exact ⟨_, rfl, q _ _ Hi1 H1 f1 (.int _) rfl⟩
theorem tb_truI {i : Int} (h : EvD Y K es te (· = .int i)) : TsB Y K es (tTru K te) (· = !decide (i = 0)) := fun H0i H0 Hi H σ s Q q =>
  h H0i H0 Hi H σ s _ fun v d Hi1 H1 f1 hv e => by
    subst e
    cases hv
    refine ⟨i != 0, rfl, q _ Hi1 H1 f1 ?_⟩
    by_cases h0 : i = 0
    · subst h0
      rfl
    · rw [decide_eq_false h0]
      exact bne_iff_ne.mpr h0
end
theorem bit_at {b k : Nat} : (!decide (((b / 2 ^ k % 2 : Nat) : Int) = 0)) = b.testBit k := by
  rw [Nat.testBit_eq_decide_div_mod_eq]
  have : b / 2 ^ k % 2 < 2 := Nat.mod_lt _ (by decide)
  by_cases h : b / 2 ^ k % 2 = 1
  · rw [h]
    rfl
  · have h0 : b / 2 ^ k % 2 = 0 := by omega
    rw [h0]
    rfl
/-! ### defs with a default -/
def DnD (K : PySem.W.Frag) (mg : Str → Option Value) (x : Str) (st : Stmt) (ps : List Str) (dv : List V) : Prop := ∃ f fd dvs kws ds, FunD K x x (defArgs st) (defBody st) (defScope st) dvs kws f fd ∧ mg x = some (.ref f) ∧ Binds K fd ps ds ∧ Vals dv ds
def KnD (P : Program) (w : World) (K : PySem.W.Frag) (mg : Str → Option Value) (base : Heap) (k : Nat) (x : Str) (ps : List Str) (sp : Sp) (dv : List V) : Prop :=
  ∃ f fd ds, FnOk P w K mg base CX0 k f fd ps sp ∧ mg x = some (.ref f) ∧ PySem.W.keepIn K (.ref f) = true ∧ Binds K fd ps ds ∧ Vals dv ds
section
variable {P : Program} {w : World} {K : PySem.W.Frag} {mg : Str → Option Value} {base : Heap} {k : Nat} {x : Str} {ps : List Str} {dv : List V}
theorem knd_of {st : Stmt} {N : List Str} {n : Nat} {pre : List PyData → Prop} {post : List PyData → PyData → Prop} (D : DnD K mg x st ps dv) (S : FnScope N ps (defScope st)) (hn : ps.length = n) (hN : n ≤ N.length)
    (body : ∀ (f : Addr) (cdv : Value) (A : Around) (outer : List Env) (s : Shared) (H : Hp) (E : XK), Room k (A.deeper (envOfC x (defScope st) s.heap.objs.size f cdv)) →
      ∃ t, PSs (cxOf CX0 P w K mg base N x (defScope st) f cdv A outer s H E).nox (defBody st) t ∧ ∀ (Y : Vol) (ds : List PyData), ds.length = n → pre ds → StS Y K (ds.map .dat ++ List.replicate (N.length - n) .unk) t { nx := fun _ => post ds .none, rt := post ds }) :
    KnD P w K mg base (k + 1) x ps (spF K n pre post) dv := by
  obtain ⟨f, fd, dvs, kws, ds, F, g, b, v⟩ := D
  refine ⟨f, fd, ds, F.ok S (fun vs H Q E h => by rw [hn]; exact h.1) (fun cdv A outer s H vs Q E hr h => ?_), g, F.kp, b, v⟩
  obtain ⟨t, ht, hs⟩ := body f cdv A outer s H E hr
  exact ⟨t, PSs.nox ht, fn_read hN hs vs H Q E h⟩
end
section
variable {X : Cx} {k : Nat} {ps : List Str} {sp : Sp} {x : Str} {p pos : Pos} {e : Expr} {es : List Expr} {t : TA} {dv : List V}
theorem pe_callND (h : KnD X.prog X.w X.K X.mg X.base k x ps sp dv) (hr : Room k X.A) (ha : PA X (e :: es) t) (hg : Gl X x := by rfl) (hdb : (x == ("__debug__" : Str)) = false := by decide)
    (he : starEach (e :: es) X.env = (false, eval e X.env) :: starEach es X.env := by rfl) (hpl : (backTo pos (starEach es X.env)).any (·.1) = false := by rfl) : PE X (.Call (.Name x p) (e :: es) [] pos) (tCall sp dv E0 t) := by
  obtain ⟨f, fd, ds, F, g, kp, b, v⟩ := h
  exact pe_call F hr hg g kp b v pass0 ha hdb he hpl
end
section
variable {Y : Vol} {K : PySem.W.Frag} {es : List Ent} {tr : TA} {E : XK} {n : Nat} {pre : List PyData → Prop} {post : List PyData → PyData → Prop}
theorem ev_callD1 {ds : List PyData} {c : Int} (h : ArD Y K es tr (· = ds)) (hl : ds.length + 1 = n) (hp : pre (ds ++ [.int c])) : EvD Y K es (tCall (spF K n pre post) [.int c] E tr) (post (ds ++ [.int c])) := fun H0i H0 Hi H σ s Q q =>
  h H0i H0 Hi H σ s _ fun vs ds' Hi1 H1 f1 hd e => by
    subst e
    exact ⟨by rw [List.length_append, hd.len]; exact hl, Y, Hi1, _, f1.pre, DaAll.append hd (.cons (.int c) .nil), hp, fun v d Hi' H' f hv po => q v d Hi' H' (f1.trans f) hv po⟩
end
end FR
set_option maxRecDepth 100000
set_option maxHeartbeats 400000
namespace FR
open PySem PySem.Spec PySem.Calls PyProof.Rows L2
/-! ### a dict of one's own: its keys -/
abbrev trueK (ks : List Int) : List (Key × V) := ks.map fun k => ((.inl k : Key), V.bl true)
structure DOk (Y : Vol) (H0 Hi H : Hp) (a : Addr) (ks : List Int) : Prop where
  at_ : H a = some (.dK (trueK ks))
  hi : Hi a = none
  w : ¬ Y.W a
  h0 : ∀ u, H0 a = some u → Tb u
def insK (ks : List Int) (k : Int) : List Int := if k ∈ ks then ks else ks ++ [k]
theorem ins_len (ks : List Int) (k : Int) : (insK ks k).length ≤ ks.length + 1 := by
  unfold insK
  split
  · omega
  · rw [List.length_append]
    simp
theorem ins_mem {ks : List Int} {k y : Int} : y ∈ insK ks k ↔ y ∈ ks ∨ y = k := by
  unfold insK
  split
  · next h =>
    constructor
    · exact .inl
    · rintro (h1 | rfl)
      · exact h1
      · exact h
  · rw [List.mem_append, List.mem_singleton]
theorem ins_nodup {ks : List Int} {k : Int} (h : ks.Nodup) : (insK ks k).Nodup := by
  unfold insK
  split
  · exact h
  · next hk =>
    refine List.nodup_append.mpr ⟨h, by simp, fun a ha b hb => ?_⟩
    rw [List.mem_singleton] at hb
    subst hb
    exact fun z => hk (z ▸ ha)
theorem put_true (ks : List Int) (k : Int) : putK (trueK ks) (.inl k) (.bl true) = trueK (insK ks k) := by
  unfold putK insK
  have e : ((trueK ks).any fun kv => decide (kv.1 = .inl k)) = decide (k ∈ ks) := by
    unfold trueK
    rw [List.any_map]
    by_cases h : k ∈ ks
    · rw [decide_eq_true h]
      exact List.any_eq_true.mpr ⟨k, h, by simp⟩
    · rw [decide_eq_false h]
      apply List.any_eq_false.mpr
      intro y hy
      simp only [Function.comp, decide_eq_true_eq]
      intro z
      cases z
      exact h hy
  rw [e]
  by_cases h : k ∈ ks
  · rw [if_pos (decide_eq_true h), if_pos h]
    unfold trueK
    rw [List.map_map]
    refine List.map_congr_left fun y _ => ?_
    show (if (Sum.inl y : Key) = .inl k then ((.inl y : Key), V.bl true) else (.inl y, .bl true)) = _
    split <;> rfl
  · rw [if_neg (by simpa using h), if_neg h]
    unfold trueK
    rw [List.map_append]
    rfl
section
variable {Y : Vol} {H0i H0 Hi H Hi' H' : Hp} {a : Addr} {ks : List Int}
theorem DOk.step (g : DOk Y H0 Hi H a ks) (f : Fr Y Hi H Hi' H') : DOk Y H0 Hi' H' a ks := by
  refine ⟨f.keep _ _ g.at_ g.w not_tb_dk, ?_, g.w, g.h0⟩
  cases q : Hi' a with
  | none => rfl
  | some o =>
    rcases f.new a o q with h | h
    · rw [g.hi] at h
      cases h
    · exact absurd (h _ g.at_) not_tb_dk
theorem Fr.mutD (f : Fr Y H0i H0 Hi H) {o : HO} (g : DOk Y H0 Hi H a ks) : Fr Y H0i H0 Hi (upd H a o) := by
  refine ⟨f.hi, fun b x e => ?_, Y.stable _ _ (fun b x e z => ?_) f.inv, f.out, fun b x e h1 h2 => ?_, f.new⟩
  · rw [upd_ne (ne_of_none e g.hi)]
    exact f.sub b x e
  · have hb : b ≠ a := fun q => by
      subst q
      rw [g.at_] at e
      cases e
      rcases z with z | z | ⟨_, z⟩
      · exact g.w z
      · exact not_tb_dk z
      · cases z
    rw [upd_ne hb]
    exact e
  · have hb : b ≠ a := fun q => by
      subst q
      exact h2 (g.h0 x e)
    rw [upd_ne hb]
    exact f.keep b x e h1 h2
end
section
variable {Y : Vol} {K : PySem.W.Frag} {H0i H0 Hi H : Hp} {σ : L2.St} {es : List Ent} {a : Addr} {ks : List Int}
theorem StIs.mutD (s : StIs Y K H0i H0 Hi H σ es) {o : HO} (g : DOk Y H0 Hi H a ks) : StIs Y K H0i H0 Hi (upd H a o) σ es := by
  refine ⟨s.fr.mutD g, s.len, fun j e h => ?_, s.dis⟩
  obtain ⟨x, h1, h2⟩ := s.env j e h
  refine ⟨x, h1, ?_⟩
  cases e with
  | unk => trivial
  | dat d => exact h2
  | raw v => exact h2
  | own ds =>
    obtain ⟨b, ws, z1, z2, z3, z4, z5, z6⟩ := h2
    refine ⟨b, ws, z1, z2, z3, z4, ?_, z6⟩
    have hb : b ≠ a := fun q => by
      subst q
      rw [g.at_] at z5
      cases z5
    rw [upd_ne hb]
    exact z5
theorem StIs.setRaw (s : StIs Y K H0i H0 Hi H σ es) {i : Nat} {v : V} : StIs Y K H0i H0 Hi H (σ.set i (some v)) (es.set i (.raw v)) := by
  have s1 := s.setUnk (i := i) (x := some v)
  have hl : ∀ {j : Nat} {e : Ent}, (es.set i (.raw v))[j]? = some e → i = j → e = .raw v ∧ i < es.length := fun {j e} h hj => by
    subst hj
    have hl : i < es.length := by
      have := (List.getElem?_eq_some_iff.mp h).1
      rwa [List.length_set] at this
    rw [List.getElem?_set_self hl] at h
    exact ⟨(Option.some.inj h).symm, hl⟩
  refine ⟨s.fr, by rw [List.length_set, List.length_set, s.len], fun j e h => ?_, fun j k b ds ds' hjk h1 h2 h3 => ?_⟩
  · by_cases hj : i = j
    · obtain ⟨e1, hl⟩ := hl h hj
      subst hj e1
      exact ⟨some v, List.getElem?_set_self (by rw [s.len]; exact hl), rfl⟩
    · exact s1.env j e (by rw [List.getElem?_set_ne hj] at h ⊢; exact h)
  · by_cases hj : i = j
    · have := (hl h1 hj).1
      cases this
    · by_cases hk : i = k
      · have := (hl h2 hk).1
        cases this
      · exact s1.dis j k b ds ds' hjk (by rw [List.getElem?_set_ne hj] at h1 ⊢; exact h1) (by rw [List.getElem?_set_ne hk] at h2 ⊢; exact h2) h3
/-- statements, where a dict of one's own is written -/
def StD (Y : Vol) (K : PySem.W.Frag) (a : Addr) (ks : List Int) (es : List Ent) (t : TS) (O : List Int → List Ent → Prop) : Prop :=
  ∀ (H0i H0 Hi H : Hp) (σ : L2.St) (D : Ends), StIs Y K H0i H0 Hi H σ es → DOk Y H0 Hi H a ks →
    (∀ Hi' H' σ' ks' es', Same Hi Hi' → StIs Y K H0i H0 Hi' H' σ' es' → DOk Y H0 Hi' H' a ks' → O ks' es' → D.nx σ' H') → t D σ H
theorem sd_put {i : Nat} {tb : TE} {z : Int} {O : List Int → List Ent → Prop} (hi : es[i]? = some (.raw (.ref a))) (h : EvD Y K es tb (· = .int z)) (hl : ks.length < 100000) (k : O (insK ks z) es) : StD Y K a ks es (tAsg (tC (.bl true)) (gSub (tVar i) tb rSetD)) O := fun H0i H0 Hi H σ D s g n => by
  obtain ⟨x, e1, hx⟩ := s.env i _ hi
  cases hx
  refine ⟨.ref a, e1, h H0i H0 Hi H σ s _ fun v d Hi' H' f hd e => ?_⟩
  subst e
  cases hd
  have g' := g.step f
  unfold rSetD
  refine ⟨a, _, rfl, DPut.k (k := .inl z) g'.at_ (by rw [List.length_map]; exact Nat.lt_of_lt_of_le hl (by decide)), ?_⟩
  refine n Hi' _ _ _ _ f.hi ((s.step f).mutD g') ⟨?_, g'.hi, g'.w, g'.h0⟩ k
  rw [upd_same, put_true]
theorem sd_for {j : Nat} {ds : List PyData} {tl : TE} {t1 : TS} {O : List Int → List Ent → Prop} (h : EvD Y K es tl (· = .list ds)) (Inv : Nat → List Int → List Ent → Prop) (h0 : Inv 0 ks es)
    (hs : ∀ k d ks e, ds[k]? = some d → Inv k ks e → StD Y K a ks (e.set j (.dat d)) t1 (Inv (k + 1))) (hd : ∀ ks e, Inv ds.length ks e → O ks e) : StD Y K a ks es (tFor (iSeqU K tl) (gName j) t1) O := fun H0i H0 Hi H σ D s g n => by
  refine .inl (.inl ?_)
  refine h H0i H0 Hi H σ s _ fun v d Hi1 H1 f1 hv e => ?_
  subst e
  cases hv with
  | @lst p xs _ ha hxs =>
    refine ⟨p, rfl, ⟨xs, .inl (.inl (f1.sub _ _ ha))⟩, ?_⟩
    refine for_list (xs := xs) (fun k σ' H' => ∃ Hi' e' ks', StIs Y K H0i H0 Hi' H' σ' e' ∧ DOk Y H0 Hi' H' a ks' ∧ Same Hi1 Hi' ∧ Inv k ks' e') ⟨Hi1, es, ks, s.step f1, g.step f1, Same.refl _, h0⟩ (fun k σ' H' _ ⟨Hi', e', ks', s', _, sm, _⟩ => .inl (.inl (s'.fr.sub _ _ (sm _ _ ha)))) (fun k x σ' H' hx ⟨Hi', e', ks', s', g', sm, iv⟩ => ?_) (fun σ' H' ⟨Hi', e', ks', s', g', sm, iv⟩ => ?_)
    · obtain ⟨d, hd1, hd2⟩ := hxs.get' hx
      exact hs k d ks' e' hd1 iv H0i H0 Hi' H' _ _ (s'.setDat (i := j) (Da.mono sm _ _ hd2)) g' (fun Hi2 H2 σ2 ks2 e2 m s3 g3 i2 => ⟨Hi2, e2, ks2, s3, g3, sm.trans m, i2⟩)
    · rw [hxs.len] at iv
      exact n _ _ _ _ e' (f1.hi.trans sm) s' g' (hd ks' e' iv)
/-- got = {}; what follows writes it; then what comes -/
theorem ss_dict {i : Nat} {t1 t2 : TS} {O : Out} {R : Addr → List Int → List Ent → Prop} (h1 : ∀ a, StD Y K a [] (es.set i (.raw (.ref a))) t1 (R a))
    (h2 : ∀ (a : Addr) ks e (H0i H0 Hi H : Hp) (σ : L2.St) (D : Ends), R a ks e → StIs Y K H0i H0 Hi H σ e → DOk Y H0 Hi H a ks → (∀ Hi' H' σ' es', Same Hi Hi' → StIs Y K H0i H0 Hi' H' σ' es' → O.nx es' → D.nx σ' H') → (∀ v d Hi' H', Fr Y H0i H0 Hi' H' → Da K Hi' v d → O.rt d → D.rt v H') → t2 D σ H) :
    StS Y K es (tSeq (tAsg tDNewK (gName i)) (tSeq t1 t2)) O := fun H0i H0 Hi H σ s D n b c r => by
  intro p hp
  have f : Fr Y Hi H Hi (upd H p (.dK [])) := Fr.grow s.pre (same_upd hp)
  have s1 := s.step f
  have fresh0 : ∀ u, H0 p = some u → Tb u := fun u hu => by
    by_cases hw : Y.W p
    · exact absurd hp (Y.there H p hw s.fr.inv)
    · by_cases ht : Tb u
      · exact ht
      · have := s.fr.keep p u hu hw ht
        rw [hp] at this
        cases this
  have g : DOk Y H0 Hi (upd H p (.dK [])) p [] := ⟨upd_same, s.fr.sub.free hp, fun hw => Y.there H p hw s.fr.inv hp, fresh0⟩
  refine h1 p H0i H0 Hi _ _ _ (s1.setRaw (i := i) (v := .ref p)) g fun Hi' H' σ' ks' es' m s' g' rr => ?_
  exact h2 p ks' es' H0i H0 Hi' H' σ' _ rr s' g' (fun Hi2 H2 σ2 es2 m2 s2 o => n _ _ _ _ (m.trans m2) s2 o) r
/-- sorted(list(got)) -/
theorem sorted_keys {i : Nat} (s : StIs Y K H0i H0 Hi H σ es) (g : DOk Y H0 Hi H a ks) (hi : es[i]? = some (.raw (.ref a))) {Q : VK} (q : ∀ v ns Hi' H', Fr Y Hi H Hi' H' → Da K Hi' v (dI ns) → ns.Perm ks → ns.Pairwise (· ≤ ·) → Q v H') :
    (tCB (rSortedI K) (tCons (tCB rListD (tCons (tVar i) tNil)) tNil)) σ H Q := by
  obtain ⟨x, e1, hx⟩ := s.env i _ hi
  cases hx
  refine ⟨.ref a, e1, ?_⟩
  unfold rListD
  refine ⟨a, _, rfl, g.at_, fun p hp => ?_⟩
  have e : (trueK ks).map (fun kv => kV kv.1) = ks.map V.int := by
    unfold trueK
    rw [List.map_map]
    rfl
  rw [e]
  have f : Fr Y Hi H (upd Hi p (.lst (ks.map V.int))) (upd H p (.lst (ks.map V.int))) := Fr.alloc s.pre hp not_tb_lst
  exact cb_sorted (ns := ks) _ _ _ f.pre (.cons (.inl (.lst upd_same (daAll_ints ks))) .nil) _ fun v d Hi' H' f2 hd ⟨ns, e2, p1, p2⟩ => by
    subst e2
    exact q v ns Hi' H' (f.trans f2) hd p1 p2
end
end FR
set_option maxRecDepth 100000
set_option maxHeartbeats 400000
namespace FR
open PySem PySem.Spec PySem.Calls PyProof.Rows L2
theorem paired_of {α : Type} {f g : α → PyData} : ∀ {l : List α} {ys : List PyData}, Paired (fun d y => ∀ a, d = f a → y = g a) (l.map f) ys → ys = l.map g
  | [], _, .nil => rfl
  | a :: l, _, .cons h t => by rw [h a rfl, paired_of t]; rfl
theorem paired_ofW {α : Type} {W : α → Prop} {f g : α → PyData} : ∀ {l : List α} {ys : List PyData}, (∀ a ∈ l, W a) → Paired (fun d y => ∀ a, W a → d = f a → y = g a) (l.map f) ys → ys = l.map g
  | [], _, _, .nil => rfl
  | a :: l, _, hw, .cons h t => by rw [h a (hw a List.mem_cons_self) rfl, paired_ofW (fun b hb => hw b (List.mem_cons_of_mem _ hb)) t]; rfl
/-- [te for x in a list], of data -/
theorem ev_lcLg {Y : Vol} {K : PySem.W.Frag} {es : List Ent} {tl te : TE} {j : Nat} {α : Type} (f g : α → PyData) {l : List α} (h : EvD Y K es tl (· = .list (l.map f))) (he : ∀ a ∈ l, EvD Y K (es.set j (.dat (f a))) te (fun d => ∀ b, f a = f b → d = g b)) (hl : l.length < 1000000) : EvD Y K es (tLc (iSeqU K tl) (gName j) tYes te [j]) (· = .list (l.map g)) :=
  (ev_lcL h (fun _ => true) (fun d y => ∀ a, d = f a → y = g a) (fun _ _ => tb_yes) (fun d hd _ => by
    obtain ⟨a, ha, rfl⟩ := List.mem_map.mp hd
    exact he a ha) (by rw [List.length_map]; exact hl)).mono fun r ⟨ys, e, q⟩ => by
    rw [List.filter_eq_self.mpr (fun _ _ => rfl)] at q
    rw [e, paired_of q]
theorem ev_lcTg {Y : Vol} {K : PySem.W.Frag} {es : List Ent} {tl te : TE} {j : Nat} {α : Type} (f g : α → PyData) {l : List α} (h : EvD Y K es tl (· = .tuple (l.map f))) (he : ∀ a ∈ l, EvD Y K (es.set j (.dat (f a))) te (fun d => ∀ b, f a = f b → d = g b)) (hl : l.length < 1000000) : EvD Y K es (tLc (iSeqU K tl) (gName j) tYes te [j]) (· = .list (l.map g)) :=
  (ev_lcT h (fun _ => true) (fun d y => ∀ a, d = f a → y = g a) (fun _ _ => tb_yes) (fun d hd _ => by
    obtain ⟨a, ha, rfl⟩ := List.mem_map.mp hd
    exact he a ha) (by rw [List.length_map]; exact hl)).mono fun r ⟨ys, e, q⟩ => by
    rw [List.filter_eq_self.mpr (fun _ _ => rfl)] at q
    rw [e, paired_of q]
theorem ev_lcLw {Y : Vol} {K : PySem.W.Frag} {es : List Ent} {tl te : TE} {j : Nat} {α : Type} (W : α → Prop) (f g : α → PyData) {l : List α} (h : EvD Y K es tl (· = .list (l.map f))) (hw : ∀ a ∈ l, W a) (he : ∀ a ∈ l, EvD Y K (es.set j (.dat (f a))) te (fun d => ∀ b, W b → f a = f b → d = g b)) (hl : l.length < 1000000) : EvD Y K es (tLc (iSeqU K tl) (gName j) tYes te [j]) (· = .list (l.map g)) :=
  (ev_lcL h (fun _ => true) (fun d y => ∀ a, W a → d = f a → y = g a) (fun _ _ => tb_yes) (fun d hd _ => by
    obtain ⟨a, ha, rfl⟩ := List.mem_map.mp hd
    exact he a ha) (by rw [List.length_map]; exact hl)).mono fun r ⟨ys, e, q⟩ => by
    rw [List.filter_eq_self.mpr (fun _ _ => rfl)] at q
    rw [e, paired_ofW hw q]
/-! the places, as numbers -/
abbrev dZ (l : List Nat) : PyData := dI (zs l)
theorem dZ_inj {a b : List Nat} (h : dZ a = dZ b) : a = b := zs_inj (dI_inj h)
theorem dZZ_inj : ∀ {a b : List (List Nat)}, a.map dZ = b.map dZ → a = b
  | [], [], _ => rfl
  | [], _ :: _, h => by cases h
  | _ :: _, [], h => by cases h
  | x :: a, y :: b, h => by
    rw [List.map_cons, List.map_cons] at h
    rw [dZ_inj (List.cons.inj h).1, dZZ_inj (List.cons.inj h).2]
abbrev dPl (T : List (List Nat)) : PyData := .list (T.map dZ)
theorem dPl_inj {a b : List (List Nat)} (h : dPl a = dPl b) : a = b := dZZ_inj (PyData.list.inj h)
theorem dPPl_inj : ∀ {a b : List (List (List Nat))}, a.map dPl = b.map dPl → a = b
  | [], [], _ => rfl
  | [], _ :: _, h => by cases h
  | _ :: _, [], h => by cases h
  | x :: a, y :: b, h => by
    rw [List.map_cons, List.map_cons] at h
    rw [dPl_inj (List.cons.inj h).1, dPPl_inj (List.cons.inj h).2]
/-- taken, as places -/
def takenN (L : Ly) (ns : List Int) : List (List Nat) := (List.range (sigN ns).length).map fun x => (List.range (sigN ns).length).filter (takeB L (sigN ns) (pcB 0 ns) x)
theorem taken_zs (L : Ly) (ns : List Int) : (takenF L ns).map dI = (takenN L ns).map dZ := by
  unfold takenF takenN
  rw [List.map_map, List.map_map]
  rfl
theorem takenN_len (L : Ly) (ns : List Int) : (takenN L ns).length = (sigN ns).length := by
  unfold takenN
  rw [List.length_map, List.length_range]
theorem takenN_lt {L : Ly} {ns : List Int} : ∀ l ∈ takenN L ns, ∀ k ∈ l, k < (sigN ns).length := fun l hl k hk => by
  obtain ⟨x, _, rfl⟩ := List.mem_map.mp hl
  exact List.mem_range.mp (List.mem_filter.mp hk).1
/-- the law's step -/
def stepN (s : Sd) (u : List Nat) : List (List Nat) := (List.range u.length).map fun x => (List.range (stB 0 (piecesOf u)).length).filter (lawB s (stB 0 (piecesOf u)) x)
theorem step_zs (s : Sd) (u : List Nat) : (stepF s u).map dI = (stepN s u).map dZ := by
  unfold stepF stepN
  rw [List.map_map, List.map_map]
  rfl
theorem map_dI_inj {a b : List (List Int)} (h : a.map dI = b.map dI) : a = b := by
  induction a generalizing b with
  | nil =>
    cases b with
    | nil => rfl
    | cons _ _ => cases h
  | cons x a ih =>
    cases b with
    | nil => cases h
    | cons y b =>
      rw [List.map_cons, List.map_cons] at h
      rw [dI_inj (List.cons.inj h).1, ih (List.cons.inj h).2]
theorem taken_step {s : Sd} (hs : s ∈ sdAll) {u : List Nat} (hw : WOk u) (h : lineB (piecesOf u) = true) : takenN (lyOf s) (piecesOf u) = stepN s u := by
  have e := taken_law hs h
  have hst : (stB 0 (piecesOf u)).length = u.length := by
    have pk := pc_ok hw
    have h1 := len_word pk.ok.nz
    rw [pk.word] at h1
    have h2 := stB_len 0 (piecesOf u)
    omega
  rw [hst] at e
  refine dZZ_inj ?_
  rw [← taken_zs, ← step_zs, e]
theorem stepN_len (s : Sd) (u : List Nat) : (stepN s u).length = u.length := by
  unfold stepN
  rw [List.length_map, List.length_range]
theorem same_ly : ∀ {ss ss' : List Sd}, (∀ s ∈ ss, s ∈ sdAll) → (∀ s ∈ ss', s ∈ sdAll) → ss.map txF = ss'.map txF → ss.map lyOf = ss'.map lyOf
  | [], [], _, _, _ => rfl
  | [], _ :: _, _, _, h => by cases h
  | _ :: _, [], _, _, h => by cases h
  | s :: ss, t :: ts, h1, h2, h => by
    rw [List.map_cons, List.map_cons] at h
    rw [List.map_cons, List.map_cons, ly_same (h1 s List.mem_cons_self) (h2 t List.mem_cons_self) (List.cons.inj h).1, same_ly (fun x hx => h1 x (List.mem_cons_of_mem _ hx)) (fun x hx => h2 x (List.mem_cons_of_mem _ hx)) (List.cons.inj h).2]
theorem lys_inj : ∀ {a b : List Ly}, a.map lyD = b.map lyD → a = b
  | [], [], _ => rfl
  | [], _ :: _, h => by cases h
  | _ :: _, [], h => by cases h
  | x :: a, y :: b, h => by
    rw [List.map_cons, List.map_cons] at h
    rw [lyD_inj (List.cons.inj h).1, lys_inj (List.cons.inj h).2]
/-- what each place holds behind the rounds -/
def heldL (Ls : List Ly) (ns : List Int) (r : Nat) : List (List Nat) := runN (Ls.map fun L => takenN L ns) r (startN (sigN ns).length)
def heldI (Ls : List Ly) (ns : List Int) (r : Nat) : List Nat := runI (Ls.map fun L => takenN L ns) r ((List.range (sigN ns).length).map fun k => 2 ^ k)
theorem held_all (Ls : List Ly) (ns : List Int) (r : Nat) : heldI Ls ns r = (heldL Ls ns r).map maskN ∧ (heldL Ls ns r).length = (sigN ns).length ∧ Small (heldL Ls ns r) := by
  unfold heldI heldL
  rw [← start_mask]
  exact run_all (n := (sigN ns).length) (fun st hst => by
    obtain ⟨L, _, rfl⟩ := List.mem_map.mp hst
    exact takenN_len L ns) (startN_len _) (start_small _) r
theorem held_asc (Ls : List Ly) (ns : List Int) (r : Nat) : ∀ l ∈ heldL Ls ns r, Asc1 l := asc_run (asc_start _) r
theorem mask_lt {n : Nat} {l : List Nat} (h : ∀ k ∈ l, k < n) : maskN l < 2 ^ n := by
  refine Nat.lt_pow_two_of_testBit _ fun i hi => ?_
  rw [mask_bit]
  cases q : l.contains i with
  | false => rfl
  | true =>
    have := h i (List.contains_iff_mem.mp q)
    omega
/-! what the defs tell -/
abbrev spMem (K : PySem.W.Frag) : Sp := sp1 K (fun x => ∃ b : Nat, x = .int (b : Int) ∧ b < 2 ^ 1000) (fun x d => ∀ b : Nat, x = .int (b : Int) → d = dZ (memI b))
abbrev spTog (K : PySem.W.Frag) : Sp := sp2 K (fun x y => ∃ hs ps : List Nat, x = dZ hs ∧ y = dZ ps ∧ ∀ p ∈ ps, p < hs.length) (fun x y d => ∀ hs ps : List Nat, x = dZ hs → y = dZ ps → d = .int ((togI hs ps : Nat) : Int))
abbrev spSets (K : PySem.W.Frag) : Sp := spF K 3 (fun ds => ∃ (Ls : List Ly) (ns : List Int) (r : Nat), ds = [.list (Ls.map lyD), dL ns, .int (r : Int)] ∧ lineB ns = true ∧ (∀ L ∈ Ls, 0 < L.m) ∧ Ls.length ≤ 1000 ∧ r ≤ 1000) (fun ds d => ∀ (Ls : List Ly) (ns : List Int) (r : Nat), ds = [.list (Ls.map lyD), dL ns, .int (r : Int)] → d = dZ (heldI Ls ns r))
def heldS (ss : List Sd) (ns : List Int) (r : Nat) : List (List Nat) := heldL (ss.map lyOf) ns r
abbrev spHeld (K : PySem.W.Frag) : Sp := spF K 3 (fun ds => ∃ (ss : List Sd) (ns : List Int) (r : Nat), ds = [progD ((ss.map txF).map dS), dL ns, .int (r : Int)] ∧ (∀ s ∈ ss, s ∈ sdAll) ∧ ss.length ≤ 1000 ∧ lineB ns = true ∧ 1 ≤ r ∧ r ≤ 6) (fun ds d => ∀ (ss : List Sd) (ns : List Int) (r : Nat), (∀ s ∈ ss, s ∈ sdAll) → ds = [progD ((ss.map txF).map dS), dL ns, .int (r : Int)] → d = .tuple ((heldS ss ns r).map fun l => dL (zs l)))
/-- the law's -/
abbrev spJoin (K : PySem.W.Frag) : Sp := sp2 K (fun x y => ∃ (F : List (List Nat)) (ps : List Nat), x = dPl F ∧ y = dZ ps ∧ Small F ∧ F.length ≤ 100 ∧ (∀ l ∈ F, l.length ≤ 100) ∧ (∀ p ∈ ps, p < F.length) ∧ ps.length ≤ 100) (fun x y d => ∀ (F : List (List Nat)) (ps : List Nat), x = dPl F → y = dZ ps → d = dZ (joinN F ps))
end FR
namespace FR
open PySem PySem.Spec PySem.Calls PyProof.Rows L2
def DnP (K : PySem.W.Frag) (mg : Str → Option Value) (x : Str) (st : Stmt) (ps : List Str) : Prop := ∃ f fd dvs kws, FunD K x x (defArgs st) (defBody st) (defScope st) dvs kws f fd ∧ mg x = some (.ref f) ∧ Binds K fd ps []
section
variable {P : Program} {w : World} {K : PySem.W.Frag} {mg : Str → Option Value} {base : Heap} {k : Nat} {x : Str} {ps : List Str}
theorem knq_of {st : Stmt} {N : List Str} {n : Nat} {pre : List PyData → Prop} {post : List PyData → PyData → Prop} (D : DnP K mg x st ps) (S : FnScope N ps (defScope st)) (hn : ps.length = n) (hN : n ≤ N.length)
    (body : ∀ (f : Addr) (cdv : Value) (A : Around) (outer : List Env) (s : Shared) (H : Hp) (E : XK), Room k (A.deeper (envOfC x (defScope st) s.heap.objs.size f cdv)) →
      ∃ t, PSs (cxOf CX0 P w K mg base N x (defScope st) f cdv A outer s H E).nox (defBody st) t ∧ ∀ (Y : Vol) (ds : List PyData), ds.length = n → pre ds → StS Y K (ds.map .dat ++ List.replicate (N.length - n) .unk) t { nx := fun _ => post ds .none, rt := post ds }) :
    Kn P w K mg base (k + 1) x ps (spF K n pre post) := by
  obtain ⟨f, fd, dvs, kws, F, g, b⟩ := D
  refine ⟨f, fd, F.ok S (fun vs H Q E h => by rw [hn]; exact h.1) (fun cdv A outer s H vs Q E hr h => ?_), g, F.kp, b, ?_⟩
  · obtain ⟨t, ht, hs⟩ := body f cdv A outer s H E hr
    exact ⟨t, PSs.nox ht, fn_read hN hs vs H Q E h⟩
  · obtain ⟨oc, od, _, _, _, _, _, _, _, osl, _, lk, _⟩ := F.ex
    exact ⟨oc, od, osl, lk⟩
end
end FR
set_option maxRecDepth 100000
set_option maxHeartbeats 400000
namespace FR
open PySem PySem.Spec PySem.Calls PyProof.Rows L2
/-- the keys, in order: what is held together -/
theorem join_keys {F : List (List Nat)} {ps : List Nat} {ks ns : List Int} (hF : Small F) (nd : ks.Nodup) (hk : ∀ y, y ∈ ks ↔ ∃ p ∈ ps, ∃ n ∈ F.getD p [], y = ((n : Nat) : Int)) (h1 : ns.Perm ks) (h2 : ns.Pairwise (· ≤ ·)) : ns = zs (joinN F ps) := by
  refine sorted_unique (h1.trans ((List.perm_ext_iff_of_nodup nd zs_nodup).mpr fun y => ?_)) h2 zs_sorted
  rw [hk]
  simp only [zs, List.mem_map, List.mem_filter, List.mem_range]
  constructor
  · rintro ⟨p, hp, n, hn, rfl⟩
    refine ⟨n, ⟨?_, List.any_eq_true.mpr ⟨p, hp, List.contains_iff_mem.mpr hn⟩⟩, rfl⟩
    cases q : F[p]? with
    | none => simp [List.getD, q] at hn
    | some l =>
      simp [List.getD, q] at hn
      exact hF l (List.mem_of_getElem? q) n hn
  · rintro ⟨n, ⟨_, h⟩, rfl⟩
    obtain ⟨p, hp, hn⟩ := List.any_eq_true.mp h
    exact ⟨p, hp, n, List.contains_iff_mem.mp hn, rfl⟩
theorem join_len (F : List (List Nat)) (ps : List Nat) : (joinN F ps).length ≤ F.length := by
  unfold joinN
  have := List.length_filter_le (fun y => ps.any fun z => (F.getD z []).contains y) (List.range F.length)
  rwa [List.length_range] at this
/-- lists of places, in bounds -/
structure OkF (n : Nat) (F : List (List Nat)) : Prop where
  len : F.length = n
  sm : Small F
  sh : ∀ l ∈ F, l.length ≤ n
structure OkS (n : Nat) (st : List (List Nat)) : Prop where
  len : st.length = n
  lt : ∀ l ∈ st, ∀ k ∈ l, k < n
  sh : ∀ l ∈ st, l.length ≤ n
theorem OkF.join {n : Nat} {F st : List (List Nat)} (h : OkF n F) (hs : OkS n st) : OkF n (st.map (joinN F)) :=
  ⟨by rw [List.length_map]; exact hs.len, join_small (hs.len.trans h.len.symm), fun l hl => by
    obtain ⟨p, _, rfl⟩ := List.mem_map.mp hl
    have := join_len F p
    rw [h.len] at this
    exact this⟩
theorem OkF.round {n : Nat} : ∀ {steps : List (List (List Nat))} {F : List (List Nat)}, (∀ st ∈ steps, OkS n st) → OkF n F → OkF n (roundN steps F)
  | [], _, _, h => h
  | st :: steps, F, hs, h => OkF.round (steps := steps) (F := st.map (joinN F)) (fun s q => hs s (List.mem_cons_of_mem _ q)) (h.join (hs st List.mem_cons_self))
theorem OkF.run {n : Nat} {steps : List (List (List Nat))} {F : List (List Nat)} (hs : ∀ st ∈ steps, OkS n st) (h : OkF n F) : ∀ k, OkF n (runN steps k F)
  | 0 => h
  | k + 1 => OkF.round hs (OkF.run hs h k)
theorem start_ok (n : Nat) : OkF n (startN n) := ⟨startN_len n, start_small n, fun l hl => by
  obtain ⟨j, hj, rfl⟩ := List.mem_map.mp hl
  have := List.mem_range.mp hj
  simp
  omega⟩
theorem step_ok {s : Sd} {u : List Nat} (hw : WOk u) : OkS u.length (stepN s u) := by
  have hst : (stB 0 (piecesOf u)).length = u.length := by
    have pk := pc_ok hw
    have h1 := len_word pk.ok.nz
    rw [pk.word] at h1
    have h2 := stB_len 0 (piecesOf u)
    omega
  refine ⟨stepN_len s u, fun l hl k hk => ?_, fun l hl => ?_⟩
  · obtain ⟨x, _, rfl⟩ := List.mem_map.mp hl
    have := List.mem_range.mp (List.mem_filter.mp hk).1
    omega
  · obtain ⟨x, _, rfl⟩ := List.mem_map.mp hl
    have := List.length_filter_le (lawB s (stB 0 (piecesOf u)) x) (List.range (stB 0 (piecesOf u)).length)
    rw [List.length_range] at this
    omega
/-- what the law runs -/
def lawR (ss : List Sd) (u : List Nat) (r : Nat) : List (List Nat) := runN (ss.map fun s => stepN s u) r (startN u.length)
theorem lawR_ok {ss : List Sd} {u : List Nat} (hw : WOk u) (r : Nat) : OkF u.length (lawR ss u r) := OkF.run (fun st hst => by
  obtain ⟨s, _, rfl⟩ := List.mem_map.mp hst
  exact step_ok hw) (start_ok _) r
/-- the program's are the law's -/
theorem held_run {ss : List Sd} (hs : ∀ s ∈ ss, s ∈ sdAll) {u : List Nat} (hw : WOk u) (h : lineB (piecesOf u) = true) (r : Nat) : heldS ss (piecesOf u) r = lawR ss u r := by
  have pk := pc_ok hw
  have h1 := len_word pk.ok.nz
  rw [pk.word] at h1
  have h2 := sigN_len pk.ok.nz
  unfold heldS heldL lawR
  rw [show (sigN (piecesOf u)).length = u.length by omega, List.map_map]
  congr 1
  exact List.map_congr_left fun s q => taken_step (hs s q) hw h
theorem places_small {n : Nat} {F : List (List Nat)} (h : OkF n F) (hn : n ≤ 60) : Sm 2 100000 (.tuple (F.map fun l => dL (zs l))) := by
  have e : (F.map fun l => dL (zs l)) = (F.map zs).map dL := by
    rw [List.map_map]
    rfl
  rw [e]
  refine sm_places (by rw [List.length_map, h.len]; exact hn) fun t ht => ?_
  obtain ⟨l, hl, rfl⟩ := List.mem_map.mp ht
  refine ⟨by rw [List.length_map]; have := h.sh l hl; omega, fun i hi => ?_⟩
  obtain ⟨k, hk, rfl⟩ := List.mem_map.mp hi
  have := h.sm l hl k hk
  rw [h.len] at this
  omega
/-! what the law's defs tell -/
abbrev spRound (K : PySem.W.Frag) : Sp := sp2 K (fun x y => ∃ (S : List (List (List Nat))) (F : List (List Nat)) (n : Nat), x = .list (S.map dPl) ∧ y = dPl F ∧ n ≤ 100 ∧ S.length ≤ 1000 ∧ (∀ st ∈ S, OkS n st) ∧ OkF n F) (fun x y d => ∀ (S : List (List (List Nat))) (F : List (List Nat)), x = .list (S.map dPl) → y = dPl F → d = dPl (roundN S F))
abbrev spRun (K : PySem.W.Frag) : Sp := spF K 3 (fun ds => ∃ (ss : List Sd) (u : List Nat) (r : Nat), ds = [.list (ss.map sdD), dS u, .int (r : Int)] ∧ (∀ s ∈ ss, s ∈ sdAll) ∧ ss.length ≤ 1000 ∧ WOk u ∧ u.length ≤ 100 ∧ r ≤ 1000) (fun ds d => ∀ (ss : List Sd) (u : List Nat) (r : Nat), ds = [.list (ss.map sdD), dS u, .int (r : Int)] → d = dPl (lawR ss u r))
end FR
namespace FR
open PySem PySem.Spec PySem.Calls PyProof.Rows L2
def ddF (x : Str) (st : Stmt) (dv : List He.Dv) (kw : List (Str × He.Dv)) : He.DefD := ⟨(x, none), x, x, defArgs st, defBody st, defScope st, dv, kw⟩
end FR
set_option maxRecDepth 100000
set_option maxHeartbeats 400000
namespace FR
open PySem PySem.Spec PySem.Calls PyProof.Rows L2
/-! ### l[::-1] of a list -/
def tRevL (K : PySem.W.Frag) (te : TE) : TE := fun σ H Q => te σ H fun x H1 => ∃ a xs, x = .ref a ∧ SqL K H1 a xs ∧ ∀ p, H1 p = none → Q (.ref p) (upd H1 p (.lst xs.reverse))
theorem pe_revL {X : Cx} {e : Expr} {te : TE} {k : Nat} {p1 p2 p3 pos : Pos} (he : PE X e te) : PE X (.Subscript e (.Slice none none (some (.UnaryOp .USub (.Constant (.int 1) k p1) p2)) p3) pos) (tRevL X.K te) := by
  refine ⟨fun pins s σ H Q I h => ?_⟩
  refine Subscript_ (thn (he.run pins s σ H _ I h) fun v s1 ⟨x, H1, I1, r1, q1⟩ => ?_)
  obtain ⟨a, xs, rfl, hx, q⟩ := q1
  have hst : PO X (some (.UnaryOp .USub (.Constant (.int 1) k p1) p2)) (tPart (tUn (rU fun i => .int (-i)) (tC (.int 1)))) := po_some (pe_un un_neg pe_int)
  refine wpAny_Slice (thn (po_none.run pins s1 σ H1 (fun o H2 => o = none ∧ H2 = H1) I1 ⟨rfl, rfl⟩) fun vl s2 ⟨l, H2, I2, pl, el, e2⟩ => ?_)
  subst el e2
  refine thn (po_none.run pins s2 σ H2 (fun o H3 => o = none ∧ H3 = H2) I2 ⟨rfl, rfl⟩) fun vu s3 ⟨u, H3, I3, pu, eu, e3⟩ => ?_
  subst eu e3
  refine thn (hst.run pins s3 σ H3 (fun o H4 => o = some (-1) ∧ H4 = H3) I3 ⟨1, rfl, -1, rfl, rfl, rfl⟩) fun vs s4 ⟨o, H4, I4, ps, eo, e4⟩ => ?_
  subst eo e4
  have I5 : Inv X pins σ H4 { s4 with heap := s4.heap.push { cls := .type "slice", data := .fields #[vl, vu, vs] } } := I4.kept (t' := s4.toks) fun b ob q => Heap.get?_push_of_some _ q
  cases r1
  obtain ⟨its, r, ht, hz⟩ := I5.list hx
  have hlen : its.toArray.size = xs.length := by rw [List.size_toArray]; exact r.length.symm
  show wpAny (model X.prog X.w) X.A (subscriptTail e (.Slice none none (some (.UnaryOp .USub (.Constant (.int 1) k p1) p2)) p3) (.ref a) (.ref s4.heap.objs.size)) (EP X pins σ Q) X.xe { s4 with heap := s4.heap.push { cls := .type "slice", data := .fields #[vl, vu, vs] } }
  refine tail_any (ops := [.ref a, .ref s4.heap.objs.size]) ht.isList.typeIs list_getitem_lookup ?_ (by with_unfolding_all rfl)
  refine wpAny_getItem_list_slice ht.isList (Heap.IsSliceOf.new ..) pl pu ps (by decide) ?_ (by rw [hlen]; exact hz)
  rw [PySem.W.krv_pick]
  refine ⟨.ref _, _, I5.laid (t' := s4.toks) (o := .lst xs.reverse) (fun b ob q => Heap.get?_push_of_some _ q) (Nat.le_refl _) ?_, rfl, q _ (I5.hok.fresh (Nat.le_refl _))⟩
  exact ⟨by rw [List.length_reverse]; exact hz, _, _, vals_rev r, Heap.get?_push_size _ rfl⟩
theorem kpe_revL {X : Cx} {K : PySem.W.Frag} (hK : X.K = K) {e : Expr} {te : TE} {k : Nat} {p1 p2 p3 pos : Pos} (he : PE X e te) : PE X (.Subscript e (.Slice none none (some (.UnaryOp .USub (.Constant (.int 1) k p1) p2)) p3) pos) (tRevL K te) := by
  subst hK
  exact pe_revL he
theorem ev_revL {Y : Vol} {K : PySem.W.Frag} {es : List Ent} {te : TE} {ds : List PyData} (h : EvD Y K es te (· = .list ds)) : EvD Y K es (tRevL K te) (· = .list ds.reverse) := fun H0i H0 Hi H σ s Q q =>
  h H0i H0 Hi H σ s _ fun v d Hi1 H1 f1 hv e => by
    subst e
    cases hv with
    | @lst a xs _ ha hxs =>
      exact ⟨a, xs, rfl, .inl (.inl (f1.sub _ _ ha)), fun p hp => q _ _ _ _ (f1.trans (Fr.alloc f1.pre hp not_tb_lst)) (.lst upd_same (DaAll.mono (same_upd (f1.sub.free hp)) _ _ hxs.rev)) rfl⟩
/-! list(range(n)) -/
def tLR1 (ta : TA) : TE := fun σ H Q => ta σ H fun vs H1 => ∃ (n : Nat), vs = [.int (n : Int)] ∧ n ≤ 1000000 ∧ ∀ l, H1 l = none → Q (.ref l) (upd H1 l (.lst ((rangeInts 0 1 n).map V.int)))
theorem pe_lstRange1 {X : Cx} {a : Expr} {ta : TA} {p1 p pos pos2 : Pos} (hcm : X.calm = true) (hgl : Gl X "list") (hml : X.mg "list" = none) (hg : Gl X "range") (hm : X.mg "range" = none) (ha : PA X [a] ta)
    (hs : starEach [a] X.env = [(false, eval a X.env)] := by rfl)
    (hs2 : starEach [.Call (.Name "range" p) [a] [] pos] X.env = [(false, eval (.Call (.Name "range" p) [a] [] pos) X.env)] := by rfl) :
    PE X (.Call (.Name "list" p1) [.Call (.Name "range" p) [a] [] pos] [] pos2) (tLR1 ta) := by
  refine ⟨fun pins s σ H Q I h => ?_⟩
  refine wpAny_Call_Name_kw (ld_blt I hgl hml bt_lst ?_ (by decide) (by decide))
  refine PyProof.Rows.callWith_type1 ?_ hs2 rfl
  rw [hs2]
  show wpAny _ _ (spliced ((false, eval _ X.env) :: [])) _ _ s
  refine Calls.spliced_cons ?_
  refine Call_ (ld_blt I hg hm boot_range (PyProof.Rows.callWith_type1 (thn (ha.run pos pins s σ H _ I h) fun us s1 ⟨vs, H1, I1, r1, q1⟩ => ?_) hs rfl))
  obtain ⟨n, e, hn, q⟩ := q1
  subst e
  cases r1 with
  | cons r rr =>
    cases rr
    obtain ⟨t, rfl⟩ := r
    refine call_range_1 ?_
    have I2 : Inv X pins σ H1 { s1 with heap := s1.heap.push { cls := .type "range", data := .fields #[.int 0 s1.toks, .int (n : Int) t, .int 1 (s1.toks + 1)] }, toks := s1.toks + 1 + 1 } := I1.kept (t' := s1.toks + 1 + 1) fun b o e => Heap.get?_push_of_some _ e
    refine Calls.spliced_nil ?_
    have hsz : Builtin.Range.rangeSize 0 (n : Int) 1 = (n : Int) := by
      rw [rangeSize_nat]
      omega
    refine call_list_range (I2.ok.hd hcm) (IsRange.new ..) ?_ hsz (by omega) fun h' tk acc c' kp e it => ?_
    · exact small_one (by decide) (by decide) (by omega) (by omega)
    refine ⟨.ref _, _, I2.laid (t' := tk) kp (Nat.le_refl _) (show ObjOk X.prog X.w _ h' _ (.lst ((rangeInts 0 1 n).map V.int)) from ⟨?_, acc.toList, c', vals_ints it, e⟩), rfl, q _ (I2.hok.fresh (Nat.le_refl _))⟩
    rw [List.length_map, rangeInts_length, sizeLine_eq]
    omega
theorem ev_lstR1 {Y : Vol} {K : PySem.W.Frag} {es : List Ent} {n : Nat} {tl : TA} (h : ArD Y K es tl (· = [.int (n : Int)])) (hn : n ≤ 1000000) : EvD Y K es (tLR1 tl) (· = .list ((rangeInts 0 1 n).map .int)) := fun H0i H0 Hi H σ s Q q => by
  refine h H0i H0 Hi H σ s _ fun vs ds Hi1 H1 f1 hv e => ?_
  subst e
  cases hv with
  | cons h1 h2 =>
    cases h1
    cases h2
    refine ⟨n, rfl, hn, fun l hl => ?_⟩
    exact q _ _ _ _ (f1.trans (Fr.alloc f1.pre hl not_tb_lst)) (.lst upd_same (daAll_ints (rangeInts 0 1 n))) rfl
end FR
namespace FR
open PySem PySem.Spec PySem.Calls PyProof.Rows L2
/-! ### defs that are called with a keyword, or with the default -/
def DnB (K : PySem.W.Frag) (mg : Str → Option Value) (x : Str) (st : Stmt) (ps : List Str) (dv : List V) (n : Nat) (ks : List Str) : Prop := ∃ f fd dvs kws ds, FunD K x x (defArgs st) (defBody st) (defScope st) dvs kws f fd ∧ mg x = some (.ref f) ∧ Binds K fd ps ds ∧ Vals dv ds ∧ KBn K fd ps n ks (fun us ws => us ++ ws) (fun vs zs => vs ++ zs)
def KnB (P : Program) (w : World) (K : PySem.W.Frag) (mg : Str → Option Value) (base : Heap) (k : Nat) (x : Str) (ps : List Str) (sp : Sp) (dv : List V) (n : Nat) (ks : List Str) : Prop :=
  ∃ f fd ds, FnOk P w K mg base CX0 k f fd ps sp ∧ mg x = some (.ref f) ∧ PySem.W.keepIn K (.ref f) = true ∧ Binds K fd ps ds ∧ Vals dv ds ∧ KBn K fd ps n ks (fun us ws => us ++ ws) (fun vs zs => vs ++ zs)
section
variable {P : Program} {w : World} {K : PySem.W.Frag} {mg : Str → Option Value} {base : Heap} {k m : Nat} {x : Str} {ps ks : List Str} {dv : List V} {sp : Sp}
theorem KnB.d (h : KnB P w K mg base k x ps sp dv m ks) : KnD P w K mg base k x ps sp dv := by
  obtain ⟨f, fd, ds, a, b, c, d, e, _⟩ := h
  exact ⟨f, fd, ds, a, b, c, d, e⟩
theorem knb_of {st : Stmt} (D : DnB K mg x st ps dv m ks) (body : ∀ (f : Addr) (fd : FuncData) (dvs : List V) (kws : List (Str × V)), FunD K x x (defArgs st) (defBody st) (defScope st) dvs kws f fd → FnOk P w K mg base CX0 k f fd ps sp) : KnB P w K mg base k x ps sp dv m ks := by
  obtain ⟨f, fd, dvs, kws, ds, F, g, b, v, kb⟩ := D
  exact ⟨f, fd, ds, body f fd dvs kws F, g, F.kp, b, v, kb⟩
end
section
variable {X : Cx} {k n : Nat} {ps ks : List Str} {sp : Sp} {x : Str} {p pos : Pos} {e : Expr} {es : List Expr} {kws : List Keyword} {t tk : TA} {dv : List V}
theorem pe_callNB (h : KnB X.prog X.w X.K X.mg X.base k x ps sp dv n ks) (hr : Room k X.A) (ha : PA X (e :: es) t) (hkw : PK X kws tk) (hg : Gl X x := by rfl) (hall : (backToKw pos (keywordEach kws X.env)).all (·.1.isSome) = true := by rfl) (hks : (backToKw pos (keywordEach kws X.env)).filterMap (·.1) = ks := by rfl)
    (hdb : (x == ("__debug__" : Str)) = false := by decide) (he : starEach (e :: es) X.env = (false, eval e X.env) :: starEach es X.env := by rfl)
    (hpl : ((backTo pos (starEach (e :: es) X.env)).any (·.1) || (backToKw pos (keywordEach kws X.env)).any (·.1.isNone)) = false := by rfl) : PE X (.Call (.Name x p) (e :: es) kws pos) (tCallN n ks.length sp (fun vs zs => vs ++ zs) E0 t tk) := by
  obtain ⟨f, fd, ds, F, g, kp, _, _, kb⟩ := h
  exact L2.pe_callN F hr hg g kp kb pass0 ha hkw hall hks hdb he hpl
end
theorem ev_callKw {Y : Vol} {K : PySem.W.Frag} {es : List Ent} {t tk : TA} {E : XK} {n m N : Nat} {pre : List PyData → Prop} {post : List PyData → PyData → Prop} {ds1 ds2 : List PyData} (h1 : ArD Y K es t (· = ds1)) (h2 : ArD Y K es tk (· = ds2)) (l1 : ds1.length = n) (l2 : ds2.length = m) (hN : n + m = N) (hp : pre (ds1 ++ ds2)) : EvD Y K es (tCallN n m (spF K N pre post) (fun vs zs => vs ++ zs) E t tk) (post (ds1 ++ ds2)) := fun H0i H0 Hi H σ s Q q =>
  h1 H0i H0 Hi H σ s _ fun vs ds Hi1 H1 f1 hd e => by
    subst e
    exact h2 H0i H0 Hi1 H1 σ (s.step f1) _ fun zs ds' Hi2 H2 f2 hz e2 => by
      subst e2
      refine ⟨hd.len.trans l1, hz.len.trans l2, ?_, Y, Hi2, _, f2.pre, (DaAll.mono f2.hi _ _ hd).append hz, hp, fun v d Hi' H' f hv po => q v d Hi' H' (f1.trans (f2.trans f)) hv po⟩
      rw [List.length_append, hd.len, hz.len, l1, l2]
      exact hN
/-! ### from a place, backwards -/
theorem join_map {n : Nat} {F st : List (List Nat)} (hF : F.length = n) (hs : OkS n st) (S : List Nat) : joinN (st.map (joinN F)) S = joinN F (joinN st S) := by
  subst hF
  unfold joinN
  refine filt_ext fun y => ?_
  rw [List.length_map, hs.len]
  refine and_congr_right fun hy => ?_
  have gd : ∀ p, (st.map fun ps => (List.range F.length).filter fun y => ps.any fun z => (F.getD z []).contains y).getD p [] = if p < st.length then joinN F (st.getD p []) else [] := fun p => by
    by_cases h : p < st.length
    · rw [if_pos h]
      simp [List.getD, List.getElem?_map, List.getElem?_eq_getElem h, joinN]
    · rw [if_neg h]
      simp [List.getD, List.getElem?_map, List.getElem?_eq_none (show st.length ≤ p by omega)]
  constructor
  · intro h
    obtain ⟨p, hp, h1⟩ := List.any_eq_true.mp h
    have h2 := List.contains_iff_mem.mp h1
    rw [gd] at h2
    split at h2
    · next hlt =>
      have h3 := List.mem_filter.mp h2
      obtain ⟨q, hq, h4⟩ := List.any_eq_true.mp h3.2
      refine List.any_eq_true.mpr ⟨q, ?_, h4⟩
      refine List.mem_filter.mpr ⟨List.mem_range.mpr ?_, List.any_eq_true.mpr ⟨p, hp, List.contains_iff_mem.mpr hq⟩⟩
      have : st.getD p [] ∈ st := by
        simp only [List.getD, List.getElem?_eq_getElem hlt, Option.getD_some]
        exact List.getElem_mem hlt
      exact hs.lt _ this q hq
    · cases h2
  · intro h
    obtain ⟨q, hq, h1⟩ := List.any_eq_true.mp h
    have h2 := List.mem_filter.mp hq
    obtain ⟨p, hp, h3⟩ := List.any_eq_true.mp h2.2
    refine List.any_eq_true.mpr ⟨p, hp, List.contains_iff_mem.mpr ?_⟩
    have h4 := List.contains_iff_mem.mp h3
    have hlt : p < st.length := by
      rcases Nat.lt_or_ge p st.length with z | z
      · exact z
      · simp [List.getD, List.getElem?_eq_none z] at h4
    rw [gd, if_pos hlt]
    exact List.mem_filter.mpr ⟨List.mem_range.mpr hy, List.any_eq_true.mpr ⟨q, h4, h1⟩⟩
def backL (L : List (List (List Nat))) (S : List Nat) : List Nat := L.foldl (fun S st => joinN st S) S
theorem back_round {n : Nat} : ∀ {L : List (List (List Nat))} {F : List (List Nat)} {S : List Nat}, (∀ st ∈ L, OkS n st) → F.length = n → joinN (roundN L F) S = joinN F (backL L.reverse S)
  | [], _, _, _, _ => rfl
  | st :: L, F, S, hs, hF => by
    show joinN (roundN L (st.map (joinN F))) S = _
    have h1 := hs st List.mem_cons_self
    rw [back_round (n := n) (L := L) (F := st.map (joinN F)) (fun s q => hs s (List.mem_cons_of_mem _ q)) (by rw [List.length_map]; exact h1.len), join_map hF h1, List.reverse_cons]
    unfold backL
    rw [List.foldl_append]
    rfl
theorem back_ok {n : Nat} : ∀ {L : List (List (List Nat))} {S : List Nat}, (∀ st ∈ L, OkS n st) → Asc1 S → (∀ k ∈ S, k < n) → Asc1 (backL L S) ∧ ∀ k ∈ backL L S, k < n
  | [], _, _, h1, h2 => ⟨h1, h2⟩
  | st :: L, S, hs, _, _ => back_ok (L := L) (S := joinN st S) (fun s q => hs s (List.mem_cons_of_mem _ q)) (asc_join st S) fun k hk => by
    have := List.mem_range.mp (List.mem_filter.mp hk).1
    rw [(hs st List.mem_cons_self).len] at this
    exact this
theorem join_start {n : Nat} {S : List Nat} (h : Asc1 S) (hl : ∀ k ∈ S, k < n) : joinN (startN n) S = S := by
  obtain ⟨m, p, rfl⟩ := h
  unfold joinN
  refine filt_ext fun y => ?_
  rw [startN_len]
  have gd : ∀ k, k < n → (startN n).getD k [] = [k] := fun k hk => by
    simp [startN, List.getD, List.getElem?_map, List.getElem?_range hk]
  constructor
  · rintro ⟨hy, h⟩
    obtain ⟨k, hk, h1⟩ := List.any_eq_true.mp h
    rw [gd k (hl k hk), List.contains_iff_mem, List.mem_singleton] at h1
    subst h1
    have := List.mem_filter.mp hk
    exact ⟨List.mem_range.mp this.1, this.2⟩
  · rintro ⟨hy, h⟩
    have hm : y ∈ (List.range m).filter p := List.mem_filter.mpr ⟨List.mem_range.mpr hy, h⟩
    have hn := hl y hm
    exact ⟨hn, List.any_eq_true.mpr ⟨y, hm, by rw [gd y hn]; simp⟩⟩
theorem round_app (a b : List (List (List Nat))) (F : List (List Nat)) : roundN (a ++ b) F = roundN b (roundN a F) := List.foldl_append ..
theorem run_flat (steps : List (List (List Nat))) (F : List (List Nat)) : ∀ k, runN steps k F = roundN (List.replicate k steps).flatten F
  | 0 => rfl
  | k + 1 => by
    rw [List.replicate_succ', List.flatten_append, round_app, ← run_flat steps F k]
    show roundN steps _ = roundN ([steps].flatten) _
    rw [List.flatten_cons, List.flatten_nil, List.append_nil]
theorem join_self {F : List (List Nat)} {x : Nat} {l : List Nat} (h : F[x]? = some l) (ha : Asc1 l) (hs : Small F) : joinN F [x] = l := by
  obtain ⟨m, p, rfl⟩ := ha
  unfold joinN
  refine filt_ext fun y => ?_
  have e : ([x].any fun z => (F.getD z []).contains y) = ((List.range m).filter p).contains y := by
    simp [List.getD, h]
  rw [e, List.contains_iff_mem, List.mem_filter, List.mem_range]
  constructor
  · rintro ⟨_, h1⟩
    exact h1
  · rintro h1
    exact ⟨hs _ (List.mem_of_getElem? h) y (List.mem_filter.mpr ⟨List.mem_range.mpr h1.1, h1.2⟩), h1⟩
/-- the law's, from a place -/
def fromN (ss : List Sd) (u : List Nat) (x r : Nat) : List Nat := backL (((List.replicate r ss).flatten.reverse).map fun s => stepN s u) [x]
theorem from_run {ss : List Sd} {u : List Nat} (hw : WOk u) {x r : Nat} (hx : x < u.length) : (lawR ss u r)[x]? = some (fromN ss u x r) := by
  have ok := lawR_ok (ss := ss) hw r
  obtain ⟨l, hl⟩ : ∃ l, (lawR ss u r)[x]? = some l := ⟨_, List.getElem?_eq_getElem (by rw [ok.len]; exact hx)⟩
  have ha : Asc1 l := asc_run (asc_start _) r l (List.mem_of_getElem? hl)
  rw [hl, ← join_self hl ha ok.sm]
  congr 1
  unfold lawR fromN
  have hf : ∀ st ∈ (List.replicate r (ss.map fun s => stepN s u)).flatten, OkS u.length st := fun st hst => by
    obtain ⟨L, hL, h1⟩ := List.mem_flatten.mp hst
    rw [List.eq_of_mem_replicate hL] at h1
    obtain ⟨s, _, rfl⟩ := List.mem_map.mp h1
    exact step_ok hw
  rw [run_flat, back_round hf (startN_len _), List.map_reverse, List.map_flatten, List.map_replicate]
  have hb := back_ok (n := u.length) (L := (List.replicate r (ss.map fun s => stepN s u)).flatten.reverse) (S := [x]) (fun st h => hf st (List.mem_reverse.mp h)) ⟨u.length, fun z => decide (z = x), (range_one hx).symm⟩ (fun k hk => by rw [List.mem_singleton.mp hk]; exact hx)
  exact join_start hb.1 hb.2
end FR
namespace FR
open PySem PySem.Spec PySem.Calls PyProof.Rows L2
theorem knbd_of {P : Program} {w : World} {K : PySem.W.Frag} {mg : Str → Option Value} {base : Heap} {k m : Nat} {x : Str} {ps ks : List Str} {dv : List V} {st : Stmt} {N : List Str} {n : Nat} {pre : List PyData → Prop} {post : List PyData → PyData → Prop} (D : DnB K mg x st ps dv m ks) (S : FnScope N ps (defScope st)) (hn : ps.length = n) (hN : n ≤ N.length)
    (body : ∀ (f : Addr) (cdv : Value) (A : Around) (outer : List Env) (s : Shared) (H : Hp) (E : XK), Room k (A.deeper (envOfC x (defScope st) s.heap.objs.size f cdv)) →
      ∃ t, PSs (cxOf CX0 P w K mg base N x (defScope st) f cdv A outer s H E).nox (defBody st) t ∧ ∀ (Y : Vol) (ds : List PyData), ds.length = n → pre ds → StS Y K (ds.map .dat ++ List.replicate (N.length - n) .unk) t { nx := fun _ => post ds .none, rt := post ds }) :
    KnB P w K mg base (k + 1) x ps (spF K n pre post) dv m ks :=
  knb_of D fun f fd dvs kws F => F.ok S (fun vs H Q E h => by rw [hn]; exact h.1) (fun cdv A outer s H vs Q E hr h => by
    obtain ⟨t, ht, hs⟩ := body f cdv A outer s H E hr
    exact ⟨t, PSs.nox ht, fn_read hN hs vs H Q E h⟩)
theorem SaidsOk.up {m : Int} {ss : List Sd} (h : SaidsOk m ss) (hm : m ≤ 4) : SaidsOk 4 ss := ⟨h.sd, h.ne, by have := h.le; omega, h.wd⟩
theorem held_at {Ls : List Ly} {ns : List Int} {r k : Nat} {row : List Nat} (h : ((heldI Ls ns r)[k]?.map memI) = some row) : (heldL Ls ns r)[k]? = some row := by
  rw [(held_all Ls ns r).1, List.getElem?_map] at h
  cases q : (heldL Ls ns r)[k]? with
  | none =>
    rw [q] at h
    cases h
  | some l =>
    rw [q] at h
    have e : memI (maskN l) = row := Option.some.inj h
    rw [← e, asc_mem (held_asc Ls ns r l (List.mem_of_getElem? q))]
section
variable {Y : Vol} {K : PySem.W.Frag} {es : List Ent} {te ue we : TE} {ss : List Sd} {ns : List Int} {r : Nat}
theorem ev_held1 (ok : SaidsOk 4 ss) (hn : lineB ns = true) (h1 : EvD Y K es te (· = progD ((ss.map txF).map dS))) (h2 : EvD Y K es ue (· = dL ns)) : EvD Y K es (tCall (spHeld K) [.int 1] E0 (tCons te (tCons ue tNil))) (· = .tuple ((heldS ss ns 1).map fun l => dL (zs l))) := by
  have le := ok.le
  exact (ev_callD1 (ds := [progD ((ss.map txF).map dS), dL ns]) (ar_consd h1 (ar_consd h2 ar_nil)) rfl ⟨ss, ns, 1, rfl, ok.sd, by omega, hn, by decide, by decide⟩).mono fun d h => h ss _ 1 ok.sd rfl
theorem ev_heldK (ok : SaidsOk 4 ss) (hn : lineB ns = true) (r1 : 1 ≤ r) (r6 : r ≤ 6) (h1 : EvD Y K es te (· = progD ((ss.map txF).map dS))) (h2 : EvD Y K es ue (· = dL ns)) (h3 : EvD Y K es we (· = .int (r : Int))) : EvD Y K es (tCallN 2 1 (spHeld K) (fun vs zs => vs ++ zs) E0 (tCons te (tCons ue tNil)) (tCons we tNil)) (· = .tuple ((heldS ss ns r).map fun l => dL (zs l))) := by
  have le := ok.le
  exact (ev_callKw (ds1 := [progD ((ss.map txF).map dS), dL ns]) (ds2 := [.int (r : Int)]) (ar_consd h1 (ar_consd h2 ar_nil)) (ar_consd h3 ar_nil) rfl rfl rfl ⟨ss, ns, r, rfl, ok.sd, by omega, hn, r1, r6⟩).mono fun d h => h ss _ r ok.sd rfl
theorem ev_row {k : Nat} {row : List Nat} (h : EvD Y K es te (· = .tuple ((heldS ss ns r).map fun l => dL (zs l)))) (hk : ((heldI (ss.map lyOf) ns r)[k]?.map memI) = some row) : EvD Y K es (tOp (rIx K) te (tC (.int (k : Int)))) (· = dL (zs row)) :=
  ev_opd h.tt et_int (os_ixT (atI_nat (by rw [List.getElem?_map, show (heldS ss ns r)[k]? = some row from held_at hk]; rfl)))
end
abbrev spFrom (K : PySem.W.Frag) : Sp := spF K 4 (fun ds => ∃ (ss : List Sd) (u : List Nat) (x r : Nat), ds = [.list (ss.map sdD), dS u, .int (x : Int), .int (r : Int)] ∧ (∀ s ∈ ss, s ∈ sdAll) ∧ ss.length ≤ 100 ∧ WOk u ∧ u.length ≤ 60 ∧ x < u.length ∧ r ≤ 6) (fun ds d => ∀ (ss : List Sd) (u : List Nat) (x r : Nat), ds = [.list (ss.map sdD), dS u, .int (x : Int), .int (r : Int)] → d = dZ (fromN ss u x r))
theorem flat_map {α β : Type} {g : α → β} (l : List α) (r : Nat) : (List.replicate r (l.map g)).flatten = (List.replicate r l).flatten.map g := by
  rw [List.map_flatten, List.map_replicate]
end FR
namespace FR
open PySem PySem.Spec
abbrev dPt (F : List (List Nat)) : PyData := .list (F.map fun l => dL (zs l))
end FR
set_option maxRecDepth 100000
set_option maxHeartbeats 400000
namespace FR
open PySem PySem.Spec PySem.Calls PyProof.Rows L2
section
variable {Y : Vol} {K : PySem.W.Frag} {H0i H0 Hi H : Hp} {σ : L2.St} {es : List Ent} {a : Addr} {ks : List Int}
theorem sd_forT {j : Nat} {ds : List PyData} {tl : TE} {t1 : TS} {O : List Int → List Ent → Prop} (h : EvD Y K es tl (· = .tuple ds)) (Inv : Nat → List Int → List Ent → Prop) (h0 : Inv 0 ks es)
    (hs : ∀ k d ks e, ds[k]? = some d → Inv k ks e → StD Y K a ks (e.set j (.dat d)) t1 (Inv (k + 1))) (hd : ∀ ks e, Inv ds.length ks e → O ks e) : StD Y K a ks es (tFor (iSeqU K tl) (gName j) t1) O := fun H0i H0 Hi H σ D s g n => by
  refine .inl (.inr ?_)
  refine h H0i H0 Hi H σ s _ fun v d Hi1 H1 f1 hv e => ?_
  subst e
  cases hv with
  | @tup p xs _ ha hxs =>
    refine ⟨p, rfl, ⟨xs, sqt_mono f1.sub ha⟩, ?_⟩
    refine for_tup (xs := xs) (fun k σ' H' => ∃ Hi' e' ks', StIs Y K H0i H0 Hi' H' σ' e' ∧ DOk Y H0 Hi' H' a ks' ∧ Same Hi1 Hi' ∧ Inv k ks' e') ⟨Hi1, es, ks, s.step f1, g.step f1, Same.refl _, h0⟩ (fun k σ' H' _ ⟨Hi', e', ks', s', _, sm, _⟩ => sqt_mono (sm.trans s'.fr.sub) ha) (fun k x σ' H' hx ⟨Hi', e', ks', s', g', sm, iv⟩ => ?_) (fun σ' H' ⟨Hi', e', ks', s', g', sm, iv⟩ => ?_)
    · obtain ⟨d, hd1, hd2⟩ := hxs.get' hx
      exact hs k d ks' e' hd1 iv H0i H0 Hi' H' _ _ (s'.setDat (i := j) (Da.mono sm _ _ hd2)) g' (fun Hi2 H2 σ2 ks2 e2 m s3 g3 i2 => ⟨Hi2, e2, ks2, s3, g3, sm.trans m, i2⟩)
    · rw [hxs.len] at iv
      exact n _ _ _ _ e' (f1.hi.trans sm) s' g' (hd ks' e' iv)
end
abbrev dTT (F : List (List Nat)) : PyData := .tuple (F.map fun l => dL (zs l))
theorem dTT_inj {a b : List (List Nat)} (h : dTT a = dTT b) : a = b := by
  have key : ∀ {a b : List (List Nat)}, (a.map fun l => dL (zs l)) = (b.map fun l => dL (zs l)) → a = b := by
    intro a
    induction a with
    | nil =>
      intro b h
      cases b with
      | nil => rfl
      | cons _ _ => cases h
    | cons x a ih =>
      intro b h
      cases b with
      | nil => cases h
      | cons y b =>
        rw [List.map_cons, List.map_cons] at h
        rw [zs_inj (dL_injI (List.cons.inj h).1), ih (List.cons.inj h).2]
  exact key (PyData.tuple.inj h)
abbrev spJoinT (K : PySem.W.Frag) : Sp := sp2 K (fun x y => ∃ (F : List (List Nat)) (ps : List Nat), x = dTT F ∧ y = dL (zs ps) ∧ Small F ∧ F.length ≤ 60 ∧ (∀ l ∈ F, l.length ≤ 60) ∧ (∀ p ∈ ps, p < F.length) ∧ ps.length ≤ 60) (fun x y d => ∀ (F : List (List Nat)) (ps : List Nat), x = dTT F → y = dL (zs ps) → d = dZ (joinN F ps))
abbrev spHand (K : PySem.W.Frag) : Sp := sp2 K (fun x y => ∃ (F : List (List Nat)) (ps : List Nat), x = dTT F ∧ y = dL (zs ps) ∧ Small F ∧ F.length ≤ 60 ∧ (∀ l ∈ F, l.length ≤ 60) ∧ (∀ p ∈ ps, p < F.length) ∧ ps.length ≤ 60) (fun x y d => ∀ (F : List (List Nat)) (ps : List Nat), x = dTT F → y = dL (zs ps) → d = .str (dL (zs (joinN F ps))).shown)
theorem join_sm {F : List (List Nat)} {ps : List Nat} (h : F.length ≤ 60) : Sm 2 100000 (dL (zs (joinN F ps))) := by
  have hl := join_len F ps
  refine (sm_tup (D := 0) (L := 20) fun d hd => ?_).mono (by decide) ?_
  · obtain ⟨i, hi, rfl⟩ := List.mem_map.mp hd
    obtain ⟨k, hk1, rfl⟩ := List.mem_map.mp hi
    have := List.mem_range.mp (List.mem_filter.mp hk1).1
    exact sm_int (by omega) (by omega)
  · rw [List.length_map, List.length_map]
    omega
/-- Program.then -/
abbrev spThen (K : PySem.W.Frag) : Sp := sp2 K (fun x y => ∃ a b : List (List Nat), x = progD (a.map dS) ∧ y = progD (b.map dS) ∧ GoodT (a ++ b)) (fun x y d => ∀ a b : List (List Nat), x = progD (a.map dS) → y = progD (b.map dS) → d = progD ((a ++ b).map dS))
theorem ev_then {Y : Vol} {K : PySem.W.Frag} {es : List Ent} {te ue : TE} {E : XK} {a b : List (List Nat)} (h1 : EvD Y K es te (· = progD (a.map dS))) (h2 : EvD Y K es ue (· = progD (b.map dS))) (hg : GoodT (a ++ b)) : EvD Y K es (tMeth (He.ga K "Program") "then" (spThen K) [] E te (tCons ue tNil)) (· = progD ((a ++ b).map dS)) :=
  (ev_meth1 (ks := ["_layers"]) h1 rfl (by decide) h2 ⟨a, b, rfl, rfl, hg⟩).mono fun d h => h a b rfl rfl
/-- two programs, put one behind another -/
theorem both_row {A B : List Sd} {u : List Nat} (hw : WOk u) {x : Nat} (hx : x < u.length) : ∃ q, (lawR B u 1)[x]? = some q ∧ (lawR (A ++ B) u 1)[x]? = some (joinN (lawR A u 1) q) ∧ (∀ p ∈ q, p < u.length) ∧ q.length ≤ u.length := by
  have okB := lawR_ok (ss := B) hw 1
  have okA := lawR_ok (ss := A) hw 1
  have okC := lawR_ok (ss := A ++ B) hw 1
  obtain ⟨q, hq⟩ : ∃ q, (lawR B u 1)[x]? = some q := ⟨_, List.getElem?_eq_getElem (by rw [okB.len]; exact hx)⟩
  obtain ⟨c, hc⟩ : ∃ c, (lawR (A ++ B) u 1)[x]? = some c := ⟨_, List.getElem?_eq_getElem (by rw [okC.len]; exact hx)⟩
  have sB : ∀ st ∈ B.map (fun s => stepN s u), OkS u.length st := fun st hst => by
    obtain ⟨s, _, rfl⟩ := List.mem_map.mp hst
    exact step_ok hw
  have aq : Asc1 q := asc_run (asc_start _) 1 q (List.mem_of_getElem? hq)
  have ac : Asc1 c := asc_run (asc_start _) 1 c (List.mem_of_getElem? hc)
  have hb := back_ok (n := u.length) (L := (B.map fun s => stepN s u).reverse) (S := [x]) (fun st h => sB st (List.mem_reverse.mp h)) ⟨u.length, fun z => decide (z = x), (range_one hx).symm⟩ (fun k hk => by rw [List.mem_singleton.mp hk]; exact hx)
  have e1 : q = backL (B.map fun s => stepN s u).reverse [x] := by
    rw [← join_self hq aq okB.sm]
    show joinN (roundN (B.map fun s => stepN s u) (startN u.length)) [x] = _
    rw [back_round sB (startN_len _)]
    exact join_start hb.1 hb.2
  have e2 : c = joinN (lawR A u 1) q := by
    rw [← join_self hc ac okC.sm, e1]
    show joinN (roundN ((A ++ B).map fun s => stepN s u) (startN u.length)) [x] = _
    rw [List.map_append, round_app]
    exact back_round sB okA.len
  refine ⟨q, hq, by rw [hc, e2], fun p hp => ?_, okB.sh q (List.mem_of_getElem? hq)⟩
  have := okB.sm q (List.mem_of_getElem? hq) p hp
  rwa [okB.len] at this
/-- rounds, one behind another -/
theorem more_row {A : List Sd} {u : List Nat} (hw : WOk u) {x r k : Nat} (hx : x < u.length) : ∃ q, (lawR A u k)[x]? = some q ∧ (lawR A u (r + k))[x]? = some (joinN (lawR A u r) q) ∧ (∀ p ∈ q, p < u.length) ∧ q.length ≤ u.length := by
  have okB := lawR_ok (ss := A) hw k
  have okA := lawR_ok (ss := A) hw r
  have okC := lawR_ok (ss := A) hw (r + k)
  obtain ⟨q, hq⟩ : ∃ q, (lawR A u k)[x]? = some q := ⟨_, List.getElem?_eq_getElem (by rw [okB.len]; exact hx)⟩
  obtain ⟨c, hc⟩ : ∃ c, (lawR A u (r + k))[x]? = some c := ⟨_, List.getElem?_eq_getElem (by rw [okC.len]; exact hx)⟩
  generalize hS : (List.replicate k (A.map fun s => stepN s u)).flatten = S
  have sB : ∀ st ∈ S, OkS u.length st := fun st hst => by
    rw [← hS] at hst
    obtain ⟨L, hL, h1⟩ := List.mem_flatten.mp hst
    rw [List.eq_of_mem_replicate hL] at h1
    obtain ⟨s, _, rfl⟩ := List.mem_map.mp h1
    exact step_ok hw
  have aq : Asc1 q := asc_run (asc_start _) k q (List.mem_of_getElem? hq)
  have ac : Asc1 c := asc_run (asc_start _) (r + k) c (List.mem_of_getElem? hc)
  have hb := back_ok (n := u.length) (L := S.reverse) (S := [x]) (fun st h => sB st (List.mem_reverse.mp h)) ⟨u.length, fun z => decide (z = x), (range_one hx).symm⟩ (fun k hk => by rw [List.mem_singleton.mp hk]; exact hx)
  have e1 : q = backL S.reverse [x] := by
    rw [← join_self hq aq okB.sm]
    unfold lawR
    rw [run_flat, hS, back_round sB (startN_len _)]
    exact join_start hb.1 hb.2
  have e2 : c = joinN (lawR A u r) q := by
    rw [← join_self hc ac okC.sm, e1]
    unfold lawR
    rw [run_flat, run_flat, ← List.replicate_append_replicate, List.flatten_append, round_app, hS]
    refine back_round sB ?_
    rw [← run_flat]
    exact okA.len
  refine ⟨q, hq, by rw [hc, e2], fun p hp => ?_, okB.sh q (List.mem_of_getElem? hq)⟩
  have := okB.sm q (List.mem_of_getElem? hq) p hp
  rwa [okB.len] at this
end FR
namespace FR
open PySem PySem.Spec PySem.Calls PyProof.Rows L2
theorem ev_slx {Y : Vol} {K : PySem.W.Frag} {es : List Ent} {te : TE} {P Pa : PyData → Prop} {rs : V → Option Int → Option Int → Hp → VK → Prop} {tl th : TO} {lo hi : Option Int} (h : EvD Y K es te Pa) (hl : PaD Y K es tl (· = lo)) (hh : PaD Y K es th (· = hi)) (hr : ∀ a, Pa a → SlS Y K rs a lo hi P) : EvD Y K es (tSl rs te tl th) P := fun H0i H0 Hi H σ s Q q =>
  h H0i H0 Hi H σ s _ fun v d Hi1 H1 f1 hd pd => hl H0i H0 Hi1 H1 σ (s.step f1) _ fun o Hi2 H2 f2 e2 => hh H0i H0 Hi2 H2 σ (s.step (f1.trans f2)) _ fun o2 Hi3 H3 f3 e3 => by
    subst e2 e3
    exact hr d pd Hi3 H3 v f3.pre ((show DaT Y K _ _ v d from .inl hd).step (f2.trans f3)) Q fun u d Hi4 H4 f4 ud pd => q u d Hi4 H4 (((f1.trans f2).trans f3).trans f4) ud pd
end FR
set_option maxRecDepth 100000
set_option maxHeartbeats 4000000
namespace FRL
open PySem PySem.Spec PyProof.Rows L2 FR
def topS (i : Nat) : Stmt := PySem.Challenge.pw_filledrows_k24_whole_programs_in_turn.main.body.getD i (.Pass ⟨0, 0, 0, 0⟩)
abbrev s_wall : Stmt := topS 0
abbrev s_members : Stmt := topS 2
abbrev s_signs : Stmt := topS 23
abbrev s_check_line : Stmt := topS 24
abbrev s_is_line : Stmt := topS 25
abbrev s_is_integer : Stmt := topS 26
abbrev s_is_piece : Stmt := topS 27
abbrev s_read_layer : Stmt := topS 37
abbrev s_cut : Stmt := topS 38
abbrev s_cut_every : Stmt := topS 39
abbrev s_numbers : Stmt := topS 40
abbrev s_read_span : Stmt := topS 41
abbrev s_wide_span : Stmt := topS 42
abbrev s_width : Stmt := topS 43
abbrev s_check_program : Stmt := topS 46
abbrev s_layers_of : Stmt := topS 47
abbrev s_first_wrong : Stmt := topS 48
abbrev s_held : Stmt := topS 50
abbrev s_held_sets : Stmt := topS 51
abbrev s_check_rounds : Stmt := topS 52
abbrev s_is_rounds : Stmt := topS 53
abbrev s_taken_lists : Stmt := topS 54
abbrev s_piece_of_each : Stmt := topS 55
abbrev s_held_ : Stmt := topS 56
abbrev s_together : Stmt := topS 57
abbrev s_law_cell : Stmt := topS 59
abbrev s_law_well : Stmt := topS 60
abbrev s_law_draw : Stmt := topS 61
abbrev s_law_wells : Stmt := topS 62
abbrev s_law_word : Stmt := topS 63
abbrev s_law_pieces : Stmt := topS 64
abbrev s_law_short : Stmt := topS 65
abbrev s_law_long : Stmt := topS 66
abbrev s_law_some : Stmt := topS 67
abbrev s_law_clear : Stmt := topS 68
abbrev s_law_said : Stmt := topS 69
abbrev s_law_width : Stmt := topS 70
abbrev s_law_saids : Stmt := topS 71
abbrev s_law_text : Stmt := topS 72
abbrev s_law_texts : Stmt := topS 73
abbrev s_law_joined : Stmt := topS 74
abbrev s_law_pair : Stmt := topS 75
abbrev s_law_handed : Stmt := topS 76
abbrev s_law_right : Stmt := topS 77
abbrev s_law : Stmt := topS 78
abbrev s_Span_reaches : Stmt := inS (topS 35) 1
abbrev s_Span_leads : Stmt := inS (topS 35) 2
abbrev s_Layer_keeps : Stmt := inS (topS 36) 2
abbrev s_Layer_asks : Stmt := inS (topS 36) 3
abbrev s_Layer_sees : Stmt := inS (topS 36) 4
abbrev s_Program___init__ : Stmt := inS (topS 45) 0
abbrev s_Program_layers : Stmt := inS (topS 45) 2
abbrev s_Program___len__ : Stmt := inS (topS 45) 6
abbrev s_Program___eq__ : Stmt := inS (topS 45) 8
abbrev s_Program___str__ : Stmt := inS (topS 45) 7
abbrev s_Program_then : Stmt := inS (topS 45) 3
/-- the constants of the text -/
structure Cs (mg : Str → Option Value) : Prop where
  MOST_LAYERS : ∃ t, mg "MOST_LAYERS" = some (.int 4 t)
  MOST_NEAR : ∃ t, mg "MOST_NEAR" = some (.int 3 t)
  MOST_EVERY : ∃ t, mg "MOST_EVERY" = some (.int 3 t)
  MOST_PLACES : ∃ t, mg "MOST_PLACES" = some (.int 60 t)
  MOST_ROUNDS : ∃ t, mg "MOST_ROUNDS" = some (.int 6 t)
  MOST_WIDTH : ∃ t, mg "MOST_WIDTH" = some (.int 8 t)
  OPENS : ∃ t, mg "OPENS" = some (.int 0 t)
  GOES_ON : ∃ t, mg "GOES_ON" = some (.int 1 t)
  FILLS : ∃ t, mg "FILLS" = some (.int 2 t)
  SINGLE : ∃ t, mg "SINGLE" = some (.int 3 t)
  CLOSES : ∃ t, mg "CLOSES" = some (.int 4 t)
  ROW : ∃ t, mg "ROW" = some (.str "row" t)
  TRUE : ∃ t, mg "TRUE" = some (.str "true" t)
  LINE : ∃ t, mg "LINE" = some (.str "line" t)
  BACK : ∃ t, mg "BACK" = some (.str "back" t)
  AHEAD : ∃ t, mg "AHEAD" = some (.str "ahead" t)
  AROUND : ∃ t, mg "AROUND" = some (.str "around" t)
theorem sc_members : FnScope ["bits", "member"] ["bits"] (defScope s_members) := ⟨rfl, rfl, rfl, by decide +kernel, rfl, by decide +kernel, by decide +kernel⟩
theorem sc_is_integer : FnScope ["value"] ["value"] (defScope s_is_integer) := ⟨rfl, rfl, rfl, by decide +kernel, rfl, by decide +kernel, by decide +kernel⟩
theorem sc_is_piece : FnScope ["value"] ["value"] (defScope s_is_piece) := ⟨rfl, rfl, rfl, by decide +kernel, rfl, by decide +kernel, by decide +kernel⟩
theorem sc_is_line : FnScope ["value", "piece", "k"] ["value"] (defScope s_is_line) := ⟨rfl, rfl, rfl, by decide +kernel, rfl, by decide +kernel, by decide +kernel⟩
theorem sc_check_line : FnScope ["line"] ["line"] (defScope s_check_line) := ⟨rfl, rfl, rfl, by decide +kernel, rfl, by decide +kernel, by decide +kernel⟩
theorem sc_signs : FnScope ["line", "found", "piece"] ["line"] (defScope s_signs) := ⟨rfl, rfl, rfl, by decide +kernel, rfl, by decide +kernel, by decide +kernel⟩
theorem sc_piece_of_each : FnScope ["line", "found", "index", "piece"] ["line"] (defScope s_piece_of_each) := ⟨rfl, rfl, rfl, by decide +kernel, rfl, by decide +kernel, by decide +kernel⟩
theorem sc_Span_reaches : FnScope ["self", "distance"] ["self", "distance"] (defScope s_Span_reaches) := ⟨rfl, rfl, rfl, by decide +kernel, rfl, by decide +kernel, by decide +kernel⟩
theorem sc_Span_leads : FnScope ["self", "step", "looks"] ["self", "step"] (defScope s_Span_leads) := ⟨rfl, rfl, rfl, by decide +kernel, rfl, by decide +kernel, by decide +kernel⟩
theorem sc_Layer_keeps : FnScope ["self", "sign"] ["self", "sign"] (defScope s_Layer_keeps) := ⟨rfl, rfl, rfl, by decide +kernel, rfl, by decide +kernel, by decide +kernel⟩
theorem sc_Layer_asks : FnScope ["self", "sign"] ["self", "sign"] (defScope s_Layer_asks) := ⟨rfl, rfl, rfl, by decide +kernel, rfl, by decide +kernel, by decide +kernel⟩
theorem sc_Layer_sees : FnScope ["self", "sign"] ["self", "sign"] (defScope s_Layer_sees) := ⟨rfl, rfl, rfl, by decide +kernel, rfl, by decide +kernel, by decide +kernel⟩
theorem sc_cut : FnScope ["words", "last"] ["words", "last"] (defScope s_cut) := ⟨rfl, rfl, rfl, by decide +kernel, rfl, by decide +kernel, by decide +kernel⟩
theorem sc_numbers : FnScope ["least", "most", "number"] ["least", "most"] (defScope s_numbers) := ⟨rfl, rfl, rfl, by decide +kernel, rfl, by decide +kernel, by decide +kernel⟩
theorem sc_cut_every : FnScope ["words"] ["words"] (defScope s_cut_every) := ⟨rfl, rfl, rfl, by decide +kernel, rfl, by decide +kernel, by decide +kernel⟩
theorem sc_width : FnScope ["words", "every"] ["words", "every"] (defScope s_width) := ⟨rfl, rfl, rfl, by decide +kernel, rfl, by decide +kernel, by decide +kernel⟩
theorem sc_wide_span : FnScope ["way", "near", "every", "distances", "far"] ["way", "near", "every"] (defScope s_wide_span) := ⟨rfl, rfl, rfl, by decide +kernel, rfl, by decide +kernel, by decide +kernel⟩
theorem sc_read_span : FnScope ["words", "every", "scope", "nears"] ["words", "every", "scope"] (defScope s_read_span) := ⟨rfl, rfl, rfl, by decide +kernel, rfl, by decide +kernel, by decide +kernel⟩
theorem sc_read_layer : FnScope ["value", "words", "for_true", "own", "every", "adds", "span"] ["value"] (defScope s_read_layer) := ⟨rfl, rfl, rfl, by decide +kernel, rfl, by decide +kernel, by decide +kernel⟩
theorem sc_first_wrong : FnScope ["written", "width", "index", "value", "layer"] ["written"] (defScope s_first_wrong) := ⟨rfl, rfl, rfl, by decide +kernel, rfl, by decide +kernel, by decide +kernel⟩
theorem sc_Program___init__ : FnScope ["self", "layers", "wrong"] ["self", "layers"] (defScope s_Program___init__) := ⟨rfl, rfl, rfl, by decide +kernel, rfl, by decide +kernel, by decide +kernel⟩
theorem sc_Program_layers : FnScope ["self"] ["self"] (defScope s_Program_layers) := ⟨rfl, rfl, rfl, by decide +kernel, rfl, by decide +kernel, by decide +kernel⟩
theorem sc_Program___len__ : FnScope ["self"] ["self"] (defScope s_Program___len__) := ⟨rfl, rfl, rfl, by decide +kernel, rfl, by decide +kernel, by decide +kernel⟩
theorem sc_Program___eq__ : FnScope ["self", "other"] ["self", "other"] (defScope s_Program___eq__) := ⟨rfl, rfl, rfl, by decide +kernel, rfl, by decide +kernel, by decide +kernel⟩
theorem sc_Program___str__ : FnScope ["self"] ["self"] (defScope s_Program___str__) := ⟨rfl, rfl, rfl, by decide +kernel, rfl, by decide +kernel, by decide +kernel⟩
theorem sc_check_program : FnScope ["value"] ["value"] (defScope s_check_program) := ⟨rfl, rfl, rfl, by decide +kernel, rfl, by decide +kernel, by decide +kernel⟩
theorem sc_Program_then : FnScope ["self", "other"] ["self", "other"] (defScope s_Program_then) := ⟨rfl, rfl, rfl, by decide +kernel, rfl, by decide +kernel, by decide +kernel⟩
theorem sc_layers_of : FnScope ["program", "layer"] ["program"] (defScope s_layers_of) := ⟨rfl, rfl, rfl, by decide +kernel, rfl, by decide +kernel, by decide +kernel⟩
theorem sc_taken_lists : FnScope ["layer", "line", "place_signs", "pieces", "found", "place", "sign", "places", "other", "other_sign", "takes"] ["layer", "line"] (defScope s_taken_lists) := ⟨rfl, rfl, rfl, by decide +kernel, rfl, by decide +kernel, by decide +kernel⟩
theorem sc_together : FnScope ["holds", "places", "found", "place"] ["holds", "places"] (defScope s_together) := ⟨rfl, rfl, rfl, by decide +kernel, rfl, by decide +kernel, by decide +kernel⟩
theorem sc_held_sets : FnScope ["layers", "line", "rounds", "takings", "layer", "holds", "place", "_", "taking", "places"] ["layers", "line", "rounds"] (defScope s_held_sets) := ⟨rfl, rfl, rfl, by decide +kernel, rfl, by decide +kernel, by decide +kernel⟩
theorem sc_is_rounds : FnScope ["value"] ["value"] (defScope s_is_rounds) := ⟨rfl, rfl, rfl, by decide +kernel, rfl, by decide +kernel, by decide +kernel⟩
theorem sc_check_rounds : FnScope ["rounds"] ["rounds"] (defScope s_check_rounds) := ⟨rfl, rfl, rfl, by decide +kernel, rfl, by decide +kernel, by decide +kernel⟩
theorem sc_held_ : FnScope ["program", "line", "rounds", "holds", "places"] ["program", "line", "rounds"] (defScope s_held_) := ⟨rfl, rfl, rfl, by decide +kernel, rfl, by decide +kernel, by decide +kernel⟩
theorem sc_held : FnScope ["program", "line", "rounds"] ["program", "line", "rounds"] (defScope s_held) := ⟨rfl, rfl, rfl, by decide +kernel, rfl, by decide +kernel, by decide +kernel⟩
theorem sc_law_cell : FnScope ["script", "k", "seed", "number"] ["script", "k"] (defScope s_law_cell) := ⟨rfl, rfl, rfl, by decide +kernel, rfl, by decide +kernel, by decide +kernel⟩
theorem sc_law_well : FnScope ["cell", "digits", "state", "turn"] ["cell"] (defScope s_law_well) := ⟨rfl, rfl, rfl, by decide +kernel, rfl, by decide +kernel, by decide +kernel⟩
theorem sc_law_draw : FnScope ["well", "many", "state", "digit"] ["well", "many"] (defScope s_law_draw) := ⟨rfl, rfl, rfl, by decide +kernel, rfl, by decide +kernel, by decide +kernel⟩
theorem sc_law_wells : FnScope ["script", "most", "k"] ["script", "most"] (defScope s_law_wells) := ⟨rfl, rfl, rfl, by decide +kernel, rfl, by decide +kernel, by decide +kernel⟩
theorem sc_law_word : FnScope ["pieces", "size"] ["pieces"] (defScope s_law_word) := ⟨rfl, rfl, rfl, by decide +kernel, rfl, by decide +kernel, by decide +kernel⟩
theorem sc_law_pieces : FnScope ["word", "found", "k", "sign"] ["word"] (defScope s_law_pieces) := ⟨rfl, rfl, rfl, by decide +kernel, rfl, by decide +kernel, by decide +kernel⟩
theorem sc_law_short : FnScope ["well", "most", "word", "turn", "sign"] ["well", "most"] (defScope s_law_short) := ⟨rfl, rfl, rfl, by decide +kernel, rfl, by decide +kernel, by decide +kernel⟩
theorem sc_law_long : FnScope ["well", "left", "found", "turn", "size", "filling"] ["well"] (defScope s_law_long) := ⟨rfl, rfl, rfl, by decide +kernel, rfl, by decide +kernel, by decide +kernel⟩
theorem sc_law_some : FnScope ["well"] ["well"] (defScope s_law_some) := ⟨rfl, rfl, rfl, by decide +kernel, rfl, by decide +kernel, by decide +kernel⟩
theorem sc_law_clear : FnScope [] [] (defScope s_law_clear) := ⟨rfl, rfl, rfl, by decide +kernel, rfl, by decide +kernel, by decide +kernel⟩
theorem sc_law_said : FnScope ["well", "choice", "scope", "way", "number", "every", "verb", "spare"] ["well"] (defScope s_law_said) := ⟨rfl, rfl, rfl, by decide +kernel, rfl, by decide +kernel, by decide +kernel⟩
theorem sc_law_width : FnScope ["said"] ["said"] (defScope s_law_width) := ⟨rfl, rfl, rfl, by decide +kernel, rfl, by decide +kernel, by decide +kernel⟩
theorem sc_law_saids : FnScope ["well", "most", "found", "whole", "turn", "said"] ["well", "most"] (defScope s_law_saids) := ⟨rfl, rfl, rfl, by decide +kernel, rfl, by decide +kernel, by decide +kernel⟩
theorem sc_law_text : FnScope ["said", "way", "number", "extra"] ["said"] (defScope s_law_text) := ⟨rfl, rfl, rfl, by decide +kernel, rfl, by decide +kernel, by decide +kernel⟩
theorem sc_law_texts : FnScope ["saids", "said"] ["saids"] (defScope s_law_texts) := ⟨rfl, rfl, rfl, by decide +kernel, rfl, by decide +kernel, by decide +kernel⟩
theorem sc_law_joined : FnScope ["found", "places", "got", "z", "y"] ["found", "places"] (defScope s_law_joined) := ⟨rfl, rfl, rfl, by decide +kernel, rfl, by decide +kernel, by decide +kernel⟩
theorem sc_law_pair : FnScope ["well", "saids", "at"] ["well"] (defScope s_law_pair) := ⟨rfl, rfl, rfl, by decide +kernel, rfl, by decide +kernel, by decide +kernel⟩
theorem sc_law_handed : FnScope ["found", "places"] ["found", "places"] (defScope s_law_handed) := ⟨rfl, rfl, rfl, by decide +kernel, rfl, by decide +kernel, by decide +kernel⟩
theorem sc_law_right : FnScope ["well", "ahead_here", "behind_here", "first", "second", "pieces", "one_told", "two_told", "both_told", "early", "later", "early_told", "more_told", "all_told", "many", "found", "x"] ["well"] (defScope s_law_right) := ⟨rfl, rfl, rfl, by decide +kernel, rfl, by decide +kernel, by decide +kernel⟩
theorem sc_law : FnScope ["script", "well"] ["script"] (defScope s_law) := ⟨rfl, rfl, rfl, by decide +kernel, rfl, by decide +kernel, by decide +kernel⟩
section
variable {P : Program} {w : World} {K : PySem.W.Frag} {mg : Str → Option Value} {base : Heap}
/-! members -/
theorem k_members (D : Dn K mg "members" s_members ["bits"]) (B : Bi mg) : Kn P w K mg base 1 "members" ["bits"] (spMem K) := by
  refine kn_of1 D sc_members (by decide) fun f cdv A outer s H E hr hu => ⟨_, (pss_one (ps_ret (pe_lc (own := [("member", 1)]) (g := gName 1)  rfl sc_members.nd (pi_range1 (by rfl) B.range (pa_cons (pe_bits (pv 0)) pa_nil)) (blkOk_by (N := ["bits", "member"]) (sc := defScope s_members) (by decide +kernel)) (fun _ _ _ _ _ => pg_name (i := 1) sc_members.nd rfl (Or.inl rfl)) (fun _ _ _ _ _ => pts_one (kpt_tru (K := K) rfl (pe_op op_and (pe_op op_shr (pv 0) (pv 1)) pe_int) (by intro _; rfl))) (fun _ _ _ _ _ => (pv 1))))), fun Y x ⟨b, e, hb⟩ => ?_⟩
  subst e
  have hl : Builtin.Int.intBits (b : Int) ≤ 1000 := intBits_le (by rw [Int.natAbs_natCast]; exact hb)
  refine ss_retd (d := dZ (memI b)) (EvD.to (ev_lcRf (n := ((Builtin.Int.intBits (b : Int) : Nat) : Int)) (fun k => b.testBit k) (fun k : Nat => .int (k : Int)) (ar_consd (ev_bits et_var) ar_nil) (fun k hk => (tb_truI (ev_opd (ev_opd et_var et_var os_shr).tt et_int os_and1)).mono fun c e => e.trans bit_at) (fun k hk _ => ev_var) (by omega) (by omega)) ?_) fun b' h => by rw [Int.ofNat.inj (PyData.int.inj h)]
  rw [Int.toNat_natCast]
  unfold memI
  show PyData.list _ = PyData.list (List.map _ (List.map _ _))
  rw [List.map_map]
  rfl

/-! is_integer -/
theorem k_is_integer (D : Dn K mg "is_integer" s_is_integer ["value"]) (B : Bi mg) : Kn P w K mg base 1 "is_integer" ["value"] (sp1 K Pl (fun x d => d = .bool (isIntD x))) := by
  refine kn_of1 D sc_is_integer (by decide) fun f cdv A outer s H E hr hu => ⟨_, (pss_one (ps_ret (pe_and (pe_callB (kc_isi (K := K) rfl) (by rfl) B.isi bt_isi (pa_cons (pv 0) (pa_cons (pe_bltn (v := .ty "int") (by rfl) B.int bt_itg rfl) pa_nil))) (pe_one (pe_not (pe_callB (kc_isi (K := K) rfl) (by rfl) B.isi bt_isi (pa_cons (pv 0) (pa_cons (pe_bltn (v := .ty "bool") (by rfl) B.bool bt_boo rfl) pa_nil)))))))), fun Y d hp => ?_⟩
  refine ss_ret (P := (· = .bool (isIntD d))) ?_ (fun _ e => e)
  have key : (kitB (tyN d) "int" = some false ∧ isIntD d = false) ∨ (∃ i, d = .int i) ∨ ∃ b, d = .bool b := by
    cases d with
    | int i => exact .inr (.inl ⟨i, rfl⟩)
    | bool b => exact .inr (.inr ⟨b, rfl⟩)
    | none => exact .inl ⟨by decide +kernel, rfl⟩
    | str _ => exact .inl ⟨by show kitB "str" "int" = _; decide +kernel, rfl⟩
    | list _ => exact .inl ⟨by show kitB "list" "int" = _; decide +kernel, rfl⟩
    | tuple _ => exact .inl ⟨by show kitB "tuple" "int" = _; decide +kernel, rfl⟩
    | dict _ => exact .inl ⟨by show kitB "dict" "int" = _; decide +kernel, rfl⟩
  rcases key with ⟨e1, e2⟩ | ⟨i, rfl⟩ | ⟨b, rfl⟩
  · rw [e2]
    exact (ev_andV (b := false) (c := true) (ev_isiP et_var hp e1) (fun e => by cases e)).to rfl
  · exact (ev_andV (ev_isiP et_var hp (r := true) (by show kitB "int" "int" = _; decide +kernel)) fun _ => ev_notV (ev_isiP et_var hp (r := false) (by show kitB "int" "bool" = _; decide +kernel))).to rfl
  · exact (ev_andV (c := false) (ev_isiP et_var hp (r := true) (by show kitB "bool" "int" = _; decide +kernel)) fun _ => (ev_notV (ev_isiP et_var hp (r := true) (by show kitB "bool" "bool" = _; decide +kernel))).to rfl).to rfl

/-! _is_piece -/
theorem k_is_piece (D : Dn K mg "_is_piece" s_is_piece ["value"]) (B : Bi mg) (k_is_integer : Kn P w K mg base 1 "is_integer" ["value"] (sp1 K Pl (fun x d => d = .bool (isIntD x)))) : Kn P w K mg base 2 "_is_piece" ["value"] (sp1 K Pl (fun x d => d = .bool (isPieceD x))) := by
  refine kn_of1 D sc_is_piece (by decide) fun f cdv A outer s H E hr hu => ⟨_, (pss_one (ps_ret (pe_and (pe_callN k_is_integer (hr.mono (by decide)) (pa_cons (pv 0) pa_nil)) (pe_one (pe_cmpR (kop_ne (K := K) rfl hu) (pv 0) pe_int (nomark _)))))), fun Y d hp => ?_⟩
  refine ss_ret (P := (· = .bool (isPieceD d))) ?_ (fun _ e => e)
  by_cases q : isIntD d = true
  · obtain ⟨i, rfl⟩ : ∃ i, d = .int i := by
      cases d with
      | int i => exact ⟨i, rfl⟩
      | _ => cases q
    exact (ev_andV (b := isIntD (.int i)) (ev_c1 ev_var hp) fun _ => ev_opd et_var et_int os_neI).to rfl
  · have e1 : isIntD d = false := by
      cases h : isIntD d with
      | true => exact absurd h q
      | false => rfl
    have e2 : isPieceD d = false := by
      cases d with
      | int i => cases e1
      | _ => rfl
    rw [e2]
    exact (ev_andV (b := isIntD d) (c := true) (ev_c1 ev_var hp) (fun e => by rw [e1] at e; cases e)).to (by rw [e1]; rfl)

/-! is_line -/
theorem k_is_line (D : Dn K mg "is_line" s_is_line ["value"]) (B : Bi mg) (C : Cs mg) (k_is_piece : Kn P w K mg base 2 "_is_piece" ["value"] (sp1 K Pl (fun x d => d = .bool (isPieceD x)))) :
    Kn P w K mg base 3 "is_line" ["value"] (sp1 K OkLn (fun x d => d = .bool (isLineD x))) := by
  refine kn_of1 D sc_is_line (by decide) fun f cdv A outer s H E hr hu => ⟨_, (pss_cons (ps_if (pw_or (pt_not (pt_val (pe_callB (kc_isi (K := K) rfl) (by rfl) B.isi bt_isi (pa_cons (pv 0) (pa_cons (pe_bltn (v := .ty "tuple") (by rfl) B.tuple bt_tup rfl) pa_nil))))) (pw_or1 (pt_cmpR (kop_eq (K := K) rfl hu) (pe_callB (kc_len (K := K) rfl) (by rfl) B.len boot_len (pa_cons (pv 0) pa_nil)) pe_int (nomark _)))).pt (pss_one (ps_ret pe_bl)) pss_nil)
      (pss_cons (ps_if (pt_not (pt_val (pe_callB (kc_all (K := K) rfl rfl) (by rfl) B.all bt_all (pa_cons (pe_lc (own := [("piece", 1)]) (g := gName 1) (tt := tYes) rfl sc_is_line.nd (kpi_seq (K := K) rfl (pv 0)) (blkOk_by (N := ["value", "piece", "k"]) (sc := defScope s_is_line) (by decide +kernel)) (fun _ _ _ _ _ => pg_name (i := 1) sc_is_line.nd rfl (Or.inl rfl)) (fun _ _ _ _ _ => pts_nil) (fun _ _ _ _ _ => (pe_callN k_is_piece (hr.mono (by decide)) (pa_cons (pv 1) pa_nil)))) pa_nil)))) (pss_one (ps_ret pe_bl)) pss_nil)
      (pss_cons (ps_if (pt_cmpR op_gt (pe_callB (kc_sum (K := K) rfl rfl) (by rfl) B.sum bt_sum (pa_cons (pe_lc (own := [("piece", 1)]) (g := gName 1) (tt := tYes) rfl sc_is_line.nd (kpi_seq (K := K) rfl (pv 0)) (blkOk_by (N := ["value", "piece", "k"]) (sc := defScope s_is_line) (by decide +kernel)) (fun _ _ _ _ _ => pg_name (i := 1) sc_is_line.nd rfl (Or.inl rfl)) (fun _ _ _ _ _ => pts_nil) (fun _ _ _ _ _ => (pe_callB call_abs (by rfl) B.abs bt_ab (pa_cons (pv 1) pa_nil)))) pa_nil)) (pe_gi C.MOST_PLACES) (nomark _)) (pss_one (ps_ret pe_bl)) pss_nil)
      (pss_one (ps_ret (pe_not (pe_callB (kc_any (K := K) rfl rfl) (by rfl) B.any bt_any (pa_cons (pe_lc (own := [("k", 2)]) (g := gName 2) (tt := tYes) rfl sc_is_line.nd (pi_range1 (by rfl) B.range (pa_cons (pe_op op_sub (pe_callB (kc_len (K := K) rfl) (by rfl) B.len boot_len (pa_cons (pv 0) pa_nil)) pe_int) pa_nil)) (blkOk_by (N := ["value", "piece", "k"]) (sc := defScope s_is_line) (by decide +kernel)) (fun _ _ _ _ _ => pg_name (i := 2) sc_is_line.nd rfl (Or.inl rfl)) (fun _ _ _ _ _ => pts_nil) (fun _ _ _ _ _ => (pe_and (pe_cmpR op_lt (pe_ix (kix (K := K) rfl) (pv 0) (pv 2) (fun _ _ => rfl)) pe_int (nomark _)) (pe_one (pe_cmpR op_lt (pe_ix (kix (K := K) rfl) (pv 0) (pe_op (kop_add (K := K) rfl) (pv 2) pe_int) (fun _ _ => rfl)) pe_int (nomark _)))))) pa_nil)))))))), fun Y d ⟨hp, hd⟩ => ?_⟩
  have key : (kitB (tyN d) "tuple" = some false ∧ isLineD d = false) ∨ ∃ ds, d = .tuple ds := by
    cases d with
    | int i => exact .inl ⟨by show kitB "int" "tuple" = _; decide +kernel, rfl⟩
    | bool b => exact .inl ⟨by show kitB "bool" "tuple" = _; decide +kernel, rfl⟩
    | none => exact .inl ⟨by decide +kernel, rfl⟩
    | str _ => exact .inl ⟨by show kitB "str" "tuple" = _; decide +kernel, rfl⟩
    | list _ => exact .inl ⟨by show kitB "list" "tuple" = _; decide +kernel, rfl⟩
    | tuple ds => exact .inr ⟨ds, rfl⟩
    | dict _ => exact .inl ⟨by show kitB "dict" "tuple" = _; decide +kernel, rfl⟩
  rcases key with ⟨e1, e2⟩ | ⟨ds, rfl⟩
  · rw [e2]
    exact qs_whend (bb := true) ((tb_ord (b := true) (c := true) (tb_notd (tb_Bd (ev_isiP et_var hp e1))) fun e => by cases e).mono fun _ e => e) (fun _ => ss_retd ev_bl rfl) (fun e => by cases e)
  · obtain ⟨hpl, hl⟩ := hd ds rfl
    refine qs_whend (tb_ord (tb_notd (tb_Bd (ev_isiP et_var hp (r := true) (by show kitB "tuple" "tuple" = _; decide +kernel)))) fun _ => tb_testd (ev_opd (ev_cb1d et_var cb_lenT).tt et_int os_eqI)) (fun e => ?_) fun e => ?_
    · have e0 : ds = [] := by
        rw [Bool.not_true, Bool.false_or] at e
        have := of_decide_eq_true e
        exact List.eq_nil_of_length_eq_zero (by omega)
      subst e0
      exact ss_retd ev_bl rfl
    have hne : ds ≠ [] := fun q => by
      subst q
      cases e
    refine qs_whend (tb_notd (tb_Bd (ev_cb1d (EvD.to (e := .list ((ds.map isPieceD).map .bool)) (ev_lcTd (fun d => .bool (isPieceD d)) ev_var (fun d hm => ev_c1 ev_var (hpl d hm)) hl) (by rw [List.map_map]; rfl)).tt cb_all))) (fun e => ?_) fun e => ?_
    · refine ss_retd ev_bl ?_
      have : ds.all isPieceD = false := by
        rw [List.all_map] at e
        simpa using e
      show PyData.bool false = .bool (ds.all isPieceD && lineB (intsD ds))
      rw [this]
      rfl
    have hp : ds.all isPieceD = true := by
      rw [List.all_map] at e
      simpa using e
    have hds := ints_of hp
    generalize hns : intsD ds = ns at hds
    subst hds
    rw [isLineD_L]
    rw [List.length_map] at hl
    refine qs_whend (tb_testd (ev_opd (ev_cb1d (EvD.to (e := .list ((ns.map absI).map .int)) (ev_lcTd (fun d => match d with | .int i => .int (absI i) | _ => .none) ev_var (fun d hd => by
      obtain ⟨i, _, rfl⟩ := List.mem_map.mp hd
      exact ev_cb1d et_var cb_abs) (by rw [List.length_map]; exact hl)) (by rw [List.map_map, List.map_map]; rfl)).tt cb_sum).tt et_int os_gt)) (fun e => ?_) fun e => ?_
    · refine ss_retd ev_bl ?_
      have h1 : ¬ sumAbs ns ≤ 60 := by have := of_decide_eq_true e; unfold sumAbs; omega
      unfold lineB
      rw [decide_eq_false h1]
      simp
    have h1 : sumAbs ns ≤ 60 := by have := of_decide_eq_false e; unfold sumAbs; omega
    refine ss_retd (ev_notV (ev_cb1d (EvD.to (e := .list (((List.range (ns.length - 1)).map fun k => decide (ns.getD k 0 < 0) && decide (ns.getD (k + 1) 0 < 0)).map .bool)) (ev_lcRd (fun k => .bool (decide (ns.getD k 0 < 0) && decide (ns.getD (k + 1) 0 < 0))) (ar_consd (ev_opd (ev_cb1d et_var cb_lenT).tt et_int os_sub) ar_nil) (fun k hk => by
      rw [List.length_map] at hk
      have a1 : atI (ns.map PyData.int) (k : Int) = some (.int (ns.getD k 0)) := atI_nat (by rw [List.getElem?_map, List.getElem?_eq_getElem (by omega)]; simp [List.getD, List.getElem?_eq_getElem (show k < ns.length by omega)])
      have a2 : atI (ns.map PyData.int) ((k : Int) + 1) = some (.int (ns.getD (k + 1) 0)) 
        := by
        have e9 : ((k : Int) + 1) = ((k + 1 : Nat) : Int) := by omega
        rw [e9]
        exact atI_nat (by rw [List.getElem?_map, List.getElem?_eq_getElem (by omega)]; simp [List.getD, List.getElem?_eq_getElem (show k + 1 < ns.length by omega)])
      exact ev_andV (ev_opd (ev_opd et_var et_var (os_ixT a1)).tt et_int os_lt) fun _ => ev_opd (ev_opd et_var (ev_opd et_var et_int os_addI).tt (os_ixT a2)).tt et_int os_lt) (by rw [List.length_map]; omega) (by omega)) (by
        rw [List.map_map, List.length_map]
        have e : ((ns.length : Int) - 1).toNat = ns.length - 1 := by omega
        rw [e]
        rfl)).tt cb_any)) ?_
    unfold lineB adjB
    rw [decide_eq_true h1, List.any_map]
    have a1 : ns.isEmpty = false := by cases ns <;> simp_all
    have a2 : ns.all (fun n => !decide (n = 0)) = true := by rw [← all_piece]; exact hp
    rw [a1, a2]
    rfl

/-! check_line, of a line -/
theorem k_check_line (D : Dn K mg "check_line" s_check_line ["line"]) (B : Bi mg) (k_is_line : Kn P w K mg base 3 "is_line" ["value"] (sp1 K OkLn (fun x d => d = .bool (isLineD x)))) :
    Kn P w K mg base 4 "check_line" ["line"] (sp1 K (fun d => ∃ ns, d = dL ns ∧ lineB ns = true ∧ ns.length < 1000000) (fun x d => d = .none)) := by
  refine kn_of1 D sc_check_line (by decide) fun f cdv A outer s H E hr hu => ⟨_, (pss_one (ps_if (pt_not (pt_val (pe_callN k_is_line (hr.mono (by decide)) (pa_cons (pv 0) pa_nil)))) (pss_one ps_never) pss_nil)), fun Y d ⟨ns, e, hn, hl⟩ => ?_⟩
  subst e
  have e1 : isLineD (dL ns) = true := by rw [isLineD_L]; exact hn
  refine ss_ifd (bb := !true) (tb_notd (tb_Bd ((ev_c1 ev_var (okLn_dL hl)).mono fun d e => by rw [e, e1]))) (fun e => by cases e) fun _ => ss_next rfl

/-! signs -/
theorem k_signs (D : Dn K mg "signs" s_signs ["line"]) (B : Bi mg) (C : Cs mg) : Kn P w K mg base 1 "signs" ["line"] (sp1 K (fun d => ∃ ns, d = dL ns ∧ lineB ns = true) (fun x d => ∀ ns, x = dL ns → d = dI (sigN ns))) := by
  refine kn_of1 D sc_signs (by decide) fun f cdv A outer s H E hr hu => ⟨_, (pss_cons (ps_set (i := 1) sc_signs.nd rfl (by first | exact Or.inl rfl | exact Or.inr rfl) (pe_lst pa_nil))
      (pss_cons (ps_for PassesOwn.never rfl (kpi_seq (K := K) rfl (pv 0)) (pg_name (i := 2) sc_signs.nd rfl (by first | exact Or.inl rfl | exact Or.inr rfl)) (pss_one (ps_if (pt_cmpR op_lt (pv 2) pe_int (nomark _)) (pss_one (ps_expr (kpe_bm (K := K) rfl PySem.F.plainAttrs_list PySem.F.slot_list_extend PySem.F.type_list_extend mt_extend (pv 1) (pa_cons (pe_op op_mulU (pe_lst (pa_cons (pe_gi C.FILLS) pa_nil)) (pe_un un_neg (pv 2))) pa_nil)))) (pss_one (ps_if (pt_cmpR (kop_eq (K := K) rfl hu) (pv 2) pe_int (nomark _)) (pss_one (ps_expr (kpe_bm (K := K) rfl PySem.F.plainAttrs_list PySem.F.slot_list_append PySem.F.type_list_append mt_append (pv 1) (pa_cons (pe_gi C.SINGLE) pa_nil)))) (pss_one (ps_expr (kpe_bm (K := K) rfl PySem.F.plainAttrs_list PySem.F.slot_list_extend PySem.F.type_list_extend mt_extend (pv 1) (pa_cons (pe_op (kop_add (K := K) rfl) (pe_op (kop_add (K := K) rfl) (pe_lst (pa_cons (pe_gi C.OPENS) pa_nil)) (pe_op op_mulU (pe_lst (pa_cons (pe_gi C.GOES_ON) pa_nil)) (pe_op op_sub (pv 2) pe_int))) (pe_lst (pa_cons (pe_gi C.CLOSES) pa_nil))) pa_nil)))))))))
      (pss_one (ps_ret (pv 1))))), fun Y d ⟨ns, e, hn⟩ => ?_⟩
  subst e
  obtain ⟨hok, hne, hs⟩ := lineB_inv hn
  have hb := line_bounds hok.nz hs
  refine qs_own ar_nil ?_
  refine ss_seq (M := fun e => ∃ x, e = [.dat (dL ns), .own ((sigN ns).map .int), x]) ?_ ?_
  · refine ss_forT (ds := ns.map .int) ev_var (fun k e => ∃ x, e = [.dat (dL ns), .own ((sigN (ns.take k)).map .int), x]) ⟨_, rfl⟩ ?_ ?_
    case refine_2 =>
      rintro e ⟨x, h⟩
      refine ⟨x, ?_⟩
      rw [h, List.length_map, List.take_length]
    rintro k d _ hd ⟨x, rfl⟩
    rw [List.getElem?_map] at hd
    obtain ⟨n, hnk, rfl⟩ : ∃ n, ns[k]? = some n ∧ d = .int n := by
      cases q : ns[k]? with
      | none => rw [q] at hd; cases hd
      | some n => rw [q] at hd; cases hd; exact ⟨n, rfl, rfl⟩
    have hm := List.mem_of_getElem? hnk
    have nz := hok.nz n hm
    have bn := hb.2 n hm
    have hsucc : sigN (ns.take (k + 1)) = sigN (ns.take k) ++ sgBlk n := by
      rw [List.take_add_one, hnk]
      show sigN (ns.take k ++ [n]) = _
      rw [sigN_app, sigN_one]
    have hlen : (sigN (ns.take k)).length ≤ 60 := by
      have h1 := sigN_len (ns := ns.take k) fun m hm => hok.nz m (List.mem_of_mem_take hm)
      have h2 : sumAbs ns = sumAbs (ns.take k) + sumAbs (ns.drop k) := by rw [← sumAbs_app, List.take_append_drop]
      have h3 := sum_nn (ns.drop k)
      omega
    have fin : ∀ l : List Int, l = sgBlk n → ∃ x, [Ent.dat (dL ns), .own ((sigN (ns.take k)).map PyData.int ++ l.map PyData.int), .dat (.int n)] = [.dat (dL ns), .own ((sigN (ns.take (k + 1))).map .int), x] := fun l e => ⟨.dat (.int n), by rw [hsucc, List.map_append, e]⟩
    refine ss_ifd (tb_testd (ev_opd et_var et_int os_lt)) (fun q => ?_) (fun q => ?_)
    · have q := of_decide_eq_true q
      have e9 : (List.replicate (-n).toNat (PyData.int 2)) = (List.replicate (-n).toNat (2 : Int)).map .int := by rw [List.map_replicate]
      refine ss_ext (i := 1) rfl (EvD.to (ev_opd (ev_lstd (ar_consd ev_int ar_nil)).tt (ev_neg et_var).tt (os_mul1 (by omega) (by omega))) (by rw [e9])) (by rw [List.length_map, List.length_map, List.length_replicate]; omega) (fin _ ?_)
      unfold sgBlk
      rw [if_pos q]
    · have q := of_decide_eq_false q
      refine ss_ifd (tb_testd (ev_opd et_var et_int os_eqI)) (fun q1 => ?_) (fun q1 => ?_)
      · have q1 := of_decide_eq_true q1
        refine ss_app (P := (· = .int 3)) (i := 1) rfl ev_int (by rw [List.length_map]; omega) fun d e => ?_
        rw [e]
        refine fin [3] ?_
        unfold sgBlk
        rw [if_neg q, if_pos q1]
      · have q1 := of_decide_eq_false q1
        obtain ⟨l3, hl3⟩ : ∃ l : List Int, l = [0] ++ List.replicate (n - 2).toNat (1 : Int) ++ [4] := ⟨_, rfl⟩
        have e9 : ([PyData.int 0] ++ List.replicate (n - 2).toNat (PyData.int 1) ++ [PyData.int 4]) = l3.map PyData.int := by rw [hl3, List.map_append, List.map_append, List.map_replicate]; rfl
        have e8 : (l3.map PyData.int).length ≤ 70 := by rw [← e9, List.length_append, List.length_append, List.length_replicate]; simp only [List.length_cons, List.length_nil]; omega
        refine ss_ext (i := 1) (xs := l3.map PyData.int) rfl (EvD.to (ev_opd (ev_opd (ev_lstd (ar_consd ev_int ar_nil)).tt (ev_opd (ev_lstd (ar_consd ev_int ar_nil)).tt (ev_opd et_var et_int os_sub).tt (os_mul1 (by omega) (by omega))).tt (os_addL (by rw [List.length_replicate]; simp only [List.length_cons, List.length_nil]; omega))).tt (ev_lstd (ar_consd ev_int ar_nil)).tt (os_addL (by rw [List.length_append, List.length_replicate]; simp only [List.length_cons, List.length_nil]; omega))) (congrArg PyData.list e9)) (by rw [List.length_map (as := sigN (ns.take k))]; omega) (fin l3 ?_)
        rw [hl3]
        unfold sgBlk
        rw [if_neg q, if_neg q1]
  · rintro _ ⟨x, rfl⟩
    exact ss_retOwn rfl fun ns' e => by rw [dL_injI e]

/-! _piece_of_each -/
theorem k_piece_of_each (D : Dn K mg "_piece_of_each" s_piece_of_each ["line"]) (B : Bi mg) (B2 : Bi2 mg) : Kn P w K mg base 1 "_piece_of_each" ["line"] (sp1 K (fun d => ∃ ns, d = dL ns ∧ lineB ns = true) (fun x d => ∀ ns, x = dL ns → d = dI (pcB 0 ns))) := by
  refine kn_of1 D sc_piece_of_each (by decide) fun f cdv A outer s H E hr hu => ⟨_, (pss_cons (ps_set (i := 1) sc_piece_of_each.nd rfl (by first | exact Or.inl rfl | exact Or.inr rfl) (pe_lst pa_nil))
      (pss_cons (ps_for PassesOwn.never rfl (kpi_enum (K := K) rfl (pa_cons (pv 0) pa_nil) (by rfl) B2.enum) (kpg_pair (K := K) (i := 2) (j := 3) rfl rfl sc_piece_of_each.nd rfl rfl (by first | exact Or.inl rfl | exact Or.inr rfl) (by first | exact Or.inl rfl | exact Or.inr rfl)) (pss_one (ps_expr (kpe_bm (K := K) rfl PySem.F.plainAttrs_list PySem.F.slot_list_extend PySem.F.type_list_extend mt_extend (pv 1) (pa_cons (pe_op op_mulU (pe_lst (pa_cons (pv 2) pa_nil)) (pe_callB call_abs (by rfl) B.abs bt_ab (pa_cons (pv 3) pa_nil))) pa_nil)))))
      (pss_one (ps_ret (pv 1))))), fun Y d ⟨ns, e, hn⟩ => ?_⟩
  subst e
  obtain ⟨hok, hne, hs⟩ := lineB_inv hn
  have hb := line_bounds hok.nz hs
  refine qs_own ar_nil ?_
  refine ss_seq (M := fun e => ∃ x y, e = [.dat (dL ns), .own ((pcB 0 ns).map .int), x, y]) ?_ ?_
  · refine ss_forE (d := dL ns) (ds := ns.map .int) ev_var (.inr rfl) (fun k e => ∃ x y, e = [.dat (dL ns), .own ((pcB 0 (ns.take k)).map .int), x, y]) ⟨_, _, rfl⟩ ?_ ?_
    case refine_2 =>
      rintro e ⟨x, y, h⟩
      refine ⟨x, y, ?_⟩
      rw [h, List.length_map, List.take_length]
    rintro k d _ hd ⟨x, y, rfl⟩
    rw [List.getElem?_map] at hd
    obtain ⟨n, hnk, rfl⟩ : ∃ n, ns[k]? = some n ∧ d = .int n := by
      cases q : ns[k]? with
      | none => rw [q] at hd; cases hd
      | some n => rw [q] at hd; cases hd; exact ⟨n, rfl, rfl⟩
    have hm := List.mem_of_getElem? hnk
    have nz := hok.nz n hm
    have bn := hb.2 n hm
    have hk : k < ns.length := (List.getElem?_eq_some_iff.mp hnk).1
    have hsucc : pcB 0 (ns.take (k + 1)) = pcB 0 (ns.take k) ++ List.replicate (absI n).toNat (k : Int) := by
      rw [List.take_add_one, hnk]
      show pcB 0 (ns.take k ++ [n]) = _
      rw [pcB_app, pcB_one, List.length_take, Nat.min_eq_left (by omega), Int.zero_add]
    have hlen : (pcB 0 (ns.take k)).length ≤ 60 := by
      have h1 := pcB_len 0 (ns.take k)
      have h2 : sumAbs ns = sumAbs (ns.take k) + sumAbs (ns.drop k) := by rw [← sumAbs_app, List.take_append_drop]
      have h3 := sum_nn (ns.drop k)
      omega
    have ha : 0 ≤ absI n ∧ absI n ≤ 60 := by rw [absI_def]; split <;> omega
    refine ss_ext (i := 1) (xs := (List.replicate (absI n).toNat (k : Int)).map .int) rfl (EvD.to (ev_opd (ev_lstd (ar_consd ev_var ar_nil)).tt (ev_cb1d et_var cb_abs).tt (os_mul1 ha.1 (by omega))) (by rw [List.map_replicate]; rfl)) (by rw [List.length_map, List.length_map, List.length_replicate]; omega) ⟨.dat (.int k), .dat (.int n), ?_⟩
    rw [hsucc, List.map_append]
    rfl
  · rintro _ ⟨x, y, rfl⟩
    exact ss_retOwn rfl fun ns' e => by rw [dL_injI e]

/-! Span.reaches -/
theorem f_Span_reaches {q : Str} {fI : Addr} {fd : FuncData} (F : Fun K "reaches" q s_Span_reaches fI fd) (LC : LyC K) : FnOk P w K mg base CX0 1 fI fd ["self", "distance"] (spReach K) := by
  refine fn_ofD2 F sc_Span_reaches (by decide) fun cdv A outer s H E hr hu => ⟨_, (pss_cons (ps_if (pt_cmpR op_is_non (kpe_fld (K := K) rfl (pv 0)) pe_non (nomark _)) (pss_one (ps_ret (pe_cmpR (kop_eq (K := K) rfl hu) (pe_op op_mod (pv 1) (kpe_fld (K := K) rfl (pv 0))) pe_int (nomark _)))) pss_nil)
      (pss_one (ps_ret (pe_cmpR (kop_in (K := K) rfl) (pv 1) (kpe_fld (K := K) rfl (pv 0)) rfl)))), fun Y x y ⟨a, b, o, m, en, n, e1, e2, hm⟩ => ?_⟩
  subst e1 e2
  have end_ : ∀ d, d = PyData.bool (reachB o m n) → ∀ (a' b' : Bool) (o' : Option (List Int)) (m' : Nat) (en' : List Int) (n' : Int), spanD a b (dsD o) m en = spanD a' b' (dsD o') m' en' → PyData.int n = .int n' → d = .bool (reachB o' m' n') := fun d e a' b' o' m' en' n' h1 h2 => by
    obtain ⟨_, _, z3, z4, _⟩ := spanD_inj h1
    rw [← dsD_inj z3, ← z4, ← PyData.int.inj h2]
    exact e
  refine qs_whend (tb_testd (ev_opd (ev_sDist LC ev_var).tt ev_non.tt os_isN)) (fun e => ?_) (fun e => ?_)
  · cases o with
    | some l => cases e
    | none => exact ss_retd (ev_opd (ev_opd et_var (ev_sEvery LC ev_var).tt (os_mod (by omega))).tt et_int os_eqI) (end_ _ rfl)
  · cases o with
    | none => cases e
    | some l => exact ss_retd (ev_opd et_var (ev_sDist LC ev_var).tt (os_inTi (ns := l))) (end_ _ rfl)

/-! Span.leads -/
theorem f_Span_leads {q : Str} {fI : Addr} {fd : FuncData} (F : Fun K "leads" q s_Span_leads fI fd) (B : Bi mg) (LC : LyC K) (MR : MthO P w K mg base "Span" "reaches" 1 ["self", "distance"] (spReach K)) : FnOk P w K mg base CX0 2 fI fd ["self", "step"] (spLeads K) := by
  refine fn_ofD2 F sc_Span_leads (by decide) fun cdv A outer s H E hr hu => ⟨_, (pss_cons (ps_set (i := 2) sc_Span_leads.nd rfl (by first | exact Or.inl rfl | exact Or.inr rfl) (pe_ifExp (pt_cmpR op_lt (pv 1) pe_int (nomark _)) (kpe_fld (K := K) rfl (pv 0)) (kpe_fld (K := K) rfl (pv 0))))
      (pss_one (ps_ret (pe_and (pv 2) (pe_one (kpe_methO (K := K) rfl MR LC.cs (hr.mono (by decide)) (pv 0) (pa_cons (pe_callB call_abs (by rfl) B.abs bt_ab (pa_cons (pv 1) pa_nil)) pa_nil))))))), fun Y x y ⟨L, n, e1, e2, hm⟩ => ?_⟩
  subst e1 e2
  have end_ : ∀ d, d = PyData.bool (leadsB L n) → ∀ (L' : Ly) (n' : Int), spanOf L = spanOf L' → PyData.int n = .int n' → d = .bool (leadsB L' n') := fun d e L' n' h1 h2 => by
    obtain ⟨z1, z2, z3, z4, _⟩ := spanD_inj h1
    have z3 := dsD_inj z3
    have h2 := PyData.int.inj h2
    subst h2
    rw [e]
    unfold leadsB
    rw [z1, z2, z3, z4]
  refine qs_setd (d := .bool (if n < 0 then L.a else L.b)) (EvD.to (ev_ifd (tb_testd (ev_opd et_var et_int os_lt)) (fun _ => ev_sBack LC ev_var) (fun _ => ev_sAhead LC ev_var)) (by by_cases q : n < 0 <;> simp [q])) ?_
  exact ss_retd (ev_andV ev_var (fun _ => ev_reach hm ev_var (ev_cb1d et_var cb_abs))) (end_ _ rfl)

/-! Layer.keeps -/
theorem f_Layer_keeps {q : Str} {fI : Addr} {fd : FuncData} (F : Fun K "keeps" q s_Layer_keeps fI fd) (C : Cs mg) (LC : LyC K) : FnOk P w K mg base CX0 1 fI fd ["self", "sign"] (spSign K keepsB) := by
  refine fn_ofD2 F sc_Layer_keeps (by decide) fun cdv A outer s H E hr hu => ⟨_, (pss_cons (ps_if (pt_val (kpe_fld (K := K) rfl (pv 0))) (pss_one (ps_ret (pe_cmpR (kop_ne (K := K) rfl hu) (pv 1) (pe_gi C.FILLS) (nomark _)))) pss_nil)
      (pss_cons (ps_if (pw_or (pt_val (kpe_fld (K := K) rfl (pv 0))) (pw_or1 (pw_and (pt_val (kpe_fld (K := K) rfl (pv 0))) (pw_and1 (pt_cmpR (kop_eq (K := K) rfl hu) (pv 1) (pe_gi C.FILLS) (nomark _)))).pt)).pt (pss_one (ps_ret pe_bl)) pss_nil)
      (pss_one (ps_ret (pe_cmpR (kop_in (K := K) rfl) (pv 1) (kpe_fld (K := K) rfl (kpe_fld (K := K) rfl (pv 0))) rfl))))), fun Y x y ⟨L, g, e1, e2⟩ => ?_⟩
  subst e1 e2
  have end_ : ∀ d, d = PyData.bool (keepsB L g) → ∀ (L' : Ly) (n' : Int), lyD L = lyD L' → PyData.int g = .int n' → d = .bool (keepsB L' n') := fun d e L' n' h1 h2 => by
    rw [← lyD_inj h1, ← PyData.int.inj h2]
    exact e
  refine qs_whend (tb_testd (ev_lCl LC ev_var)) (fun e => ?_) (fun e => ?_)
  · exact ss_retd (ev_opd et_var et_int os_neI) (end_ _ (by unfold keepsB; rw [if_pos e]))
  have f1 := e
  refine qs_whend (tb_ord (tb_testd (ev_lOwn LC ev_var)) (fun _ => tb_andd (tb_testd (ev_lFt LC ev_var)) (fun _ => tb_testd (ev_opd et_var et_int os_eqI)))) (fun e => ?_) (fun e => ?_)
  · exact ss_retd ev_bl (end_ _ (by unfold keepsB; rw [if_neg (by rw [f1]; decide), if_pos e]))
  · exact ss_retd (ev_opd et_var (ev_sEnds LC (ev_lSpan LC ev_var)).tt os_inTi) (end_ _ (by unfold keepsB; rw [if_neg (by rw [f1]; decide), if_neg (by rw [e]; decide)]))

/-! Layer.asks -/
theorem f_Layer_asks {q : Str} {fI : Addr} {fd : FuncData} (F : Fun K "asks" q s_Layer_asks fI fd) (C : Cs mg) (LC : LyC K) : FnOk P w K mg base CX0 1 fI fd ["self", "sign"] (spSign K asksB) := by
  refine fn_ofD2 F sc_Layer_asks (by decide) fun cdv A outer s H E hr hu => ⟨_, (pss_one (ps_ret (pe_or (pe_cmpR (kop_ne (K := K) rfl hu) (pv 1) (pe_gi C.FILLS) (nomark _)) (pe_one (pe_not (kpe_fld (K := K) rfl (pv 0))))))), fun Y x y ⟨L, g, e1, e2⟩ => ?_⟩
  subst e1 e2
  exact ss_retd (ev_orV (ev_opd et_var et_int os_neI) (fun _ => ev_notV (ev_lFt LC ev_var))) fun L' n' h1 h2 => by
    rw [← lyD_inj h1, ← PyData.int.inj h2]
    rfl

/-! Layer.sees -/
theorem f_Layer_sees {q : Str} {fI : Addr} {fd : FuncData} (F : Fun K "sees" q s_Layer_sees fI fd) (C : Cs mg) (LC : LyC K) : FnOk P w K mg base CX0 1 fI fd ["self", "sign"] (spSign K seesB) := by
  refine fn_ofD2 F sc_Layer_sees (by decide) fun cdv A outer s H E hr hu => ⟨_, (pss_cons (ps_if (kpt_tru (K := K) rfl (kpe_fld (K := K) rfl (kpe_fld (K := K) rfl (pv 0))) (by intro _; rfl)) (pss_one (ps_ret (pe_cmpR (kop_in (K := K) rfl) (pv 1) (kpe_fld (K := K) rfl (kpe_fld (K := K) rfl (pv 0))) rfl))) pss_nil)
      (pss_one (ps_ret (pe_or (pe_cmpR (kop_ne (K := K) rfl hu) (pv 1) (pe_gi C.FILLS) (nomark _)) (pe_one (pe_cmpR (kop_eq (K := K) rfl hu) (kpe_fld (K := K) rfl (pv 0)) (pe_gs C.LINE) (nomark _))))))), fun Y x y ⟨L, g, e1, e2⟩ => ?_⟩
  subst e1 e2
  have end_ : ∀ d, d = PyData.bool (seesB L g) → ∀ (L' : Ly) (n' : Int), lyD L = lyD L' → PyData.int g = .int n' → d = .bool (seesB L' n') := fun d e L' n' h1 h2 => by
    rw [← lyD_inj h1, ← PyData.int.inj h2]
    exact e
  refine qs_whend (tb_truT (ds := L.ends.map .int) (ev_sEnds LC (ev_lSpan LC ev_var))) (fun e => ?_) (fun e => ?_)
  · refine ss_retd (ev_opd et_var (ev_sEnds LC (ev_lSpan LC ev_var)).tt os_inTi) (end_ _ ?_)
    unfold seesB
    rw [if_pos (by simpa using e)]
  · refine ss_retd (ev_orV (ev_opd et_var et_int os_neI) (fun _ => ev_opd (ev_lScope LC ev_var).tt (et_s (l := wLine)) os_eqS')) (end_ _ ?_)
    unfold seesB
    rw [if_neg (by simpa using e)]

/-! _cut -/
theorem k_cut (D : Dn K mg "_cut" s_cut ["words", "last"]) (B : Bi mg) : Kn P w K mg base 1 "_cut" ["words", "last"] (sp2 K (fun x y => ∃ ws l, x = dW ws ∧ y = dW l ∧ AscW ws ∧ AscW l ∧ 0 < l.length ∧ l.length ≤ 1000) (fun x y d => ∀ ws l, x = dW ws → y = dW l → d = .tuple [dW (cutF ws l).1, .bool (cutF ws l).2])) := by
  refine kn_of2 D sc_cut (by decide) fun f cdv A outer s H E hr hu => ⟨_, (pss_cons (ps_if (pt_cmpR (kop_eq (K := K) rfl hu) (pe_slice (ksl (K := K) rfl) (pv 0) (po_some (pe_un un_neg (pe_callB (kc_len (K := K) rfl) (by rfl) B.len boot_len (pa_cons (pv 1) pa_nil)))) po_none) (pv 1) (nomark _)) (pss_one (ps_ret (pe_tup (pa_cons (pe_slice (ksl (K := K) rfl) (pv 0) po_none (po_some (pe_un un_neg (pe_callB (kc_len (K := K) rfl) (by rfl) B.len boot_len (pa_cons (pv 1) pa_nil))))) (pa_cons pe_bl pa_nil))))) pss_nil)
      (pss_one (ps_ret (pe_tup (pa_cons (pv 0) (pa_cons pe_bl pa_nil)))))), fun Y x y ⟨ws, l, e1, e2, h1, h2, h3, h4⟩ => ?_⟩
  subst e1 e2
  have len : EvD Y K (.dat (dW ws) :: .dat (dW l) :: List.replicate (2 - 2) .unk) (tUn (rU fun i => .int (-i)) (tCB (rLenU K) (tCons (tVar 1) tNil))) (· = .int (-(l.length : Int))) := ev_neg (ev_cb1d et_var ((cb_lenL (ds := l.map dS)).mono fun d e => by rw [e, List.length_map])).tt
  have end_ : ∀ d, d = PyData.tuple [dW (cutF ws l).1, .bool (cutF ws l).2] → ∀ ws' l', dW ws = dW ws' → dW l = dW l' → d = .tuple [dW (cutF ws' l').1, .bool (cutF ws' l').2] := fun d e ws' l' a b => by
    rw [← dW_injW a, ← dW_injW b]
    exact e
  refine qs_whend (tb_testd (ev_opd (ev_sl (lo := some (-(l.length : Int))) (hi := none) et_var (pa_some len) pa_none (sw_mfrom h3)).tt et_var (os_eqW (h1.drop _) h2))) (fun e => ?_) (fun e => ?_)
  · have e := of_decide_eq_true e
    have ec : cutF ws l = (ws.take (ws.length - l.length), true) := if_pos e
    exact ss_retd (ev_tupd (ar_consd (ev_sl (lo := none) (hi := some (-(l.length : Int))) et_var pa_none (pa_some len) (sw_mto h3)) (ar_consd ev_bl ar_nil))) (end_ _ (by rw [ec]))
  · have e := of_decide_eq_false e
    have ec : cutF ws l = (ws, false) := if_neg e
    exact ss_retd (ev_tupd (ar_consd ev_var (ar_consd ev_bl ar_nil))) (end_ _ (by rw [ec]))

/-! _numbers -/
theorem k_numbers (D : Dn K mg "_numbers" s_numbers ["least", "most"]) (B : Bi mg) : Kn P w K mg base 1 "_numbers" ["least", "most"] (sp2 K (fun x y => ∃ a b : Nat, x = .int a ∧ y = .int b ∧ a ≤ b ∧ b < 10) (fun x y d => ∀ a b : Nat, x = .int a → y = .int b → d = dW (numsW a b))) := by
  refine kn_of2 D sc_numbers (by decide) fun f cdv A outer s H E hr hu => ⟨_, (pss_one (ps_ret (pe_lc (own := [("number", 2)]) (g := gName 2) (tt := tYes) rfl sc_numbers.nd (pi_range2 (by rfl) B.range (pa_cons (pv 0) (pa_cons (pe_op (kop_add (K := K) rfl) (pv 1) pe_int) pa_nil))) (blkOk_by (N := ["least", "most", "number"]) (sc := defScope s_numbers) (by decide +kernel)) (fun _ _ _ _ _ => pg_name (i := 2) sc_numbers.nd rfl (Or.inl rfl)) (fun _ _ _ _ _ => pts_nil) (fun _ _ _ _ _ => (pe_callTy call_str_int (by rfl) B.str bt_txt (pa_cons (pv 2) pa_nil)))))), fun Y x y ⟨a, b, e1, e2, h1, h2⟩ => ?_⟩
  subst e1 e2
  have ek : ((b : Int) + 1 - (a : Int)).toNat = b + 1 - a := by omega
  refine ss_retd (ev_lcR2d (lo := (a : Int)) (n := (b : Int) + 1) (fun k => dS (digN (a + k))) (ar_consd ev_var (ar_consd (ev_opd et_var et_int os_addI) ar_nil)) (fun k hk => ?_) (by omega) (by omega) (by omega) (by omega) (by omega)) ?_
  · refine EvD.to (ev_cb1d et_var (cb_strI (i := (a : Int) + k) (log_small (by omega)))) ?_
    have e : ((a : Int) + (k : Int)) = ((a + k : Nat) : Int) := by omega
    rw [e, dig_str ⟨a + k, by omega⟩]
  · intro a' b' ea eb
    have ea : (a : Int) = a' := by injection ea
    have eb : (b : Int) = b' := by injection eb
    obtain rfl : a = a' := by omega
    obtain rfl : b = b' := by omega
    rw [ek]
    show PyData.list _ = PyData.list (List.map dS (List.map _ _))
    rw [List.map_map]
    rfl

/-! _cut_every -/
theorem k_cut_every (D : Dn K mg "_cut_every" s_cut_every ["words"]) (B : Bi mg) (C : Cs mg)
    (k_numbers : Kn P w K mg base 1 "_numbers" ["least", "most"] (sp2 K (fun x y => ∃ a b : Nat, x = .int a ∧ y = .int b ∧ a ≤ b ∧ b < 10) (fun x y d => ∀ a b : Nat, x = .int a → y = .int b → d = dW (numsW a b)))) :
    Kn P w K mg base 2 "_cut_every" ["words"] (sp1 K (fun x => ∃ ws, x = dW ws ∧ AscW ws) (fun x d => ∀ ws, x = dW ws → d = .tuple [dW (everF ws).1, oInt (everF ws).2])) := by
  refine kn_of1 D sc_cut_every (by decide) fun f cdv A outer s H E hr hu => ⟨_, (pss_cons (ps_if (pw_and (pt_cmpR (kop_eq (K := K) rfl hu) (pe_slice (ksl (K := K) rfl) (pv 0) (po_some (pe_un un_neg pe_int)) (po_some (pe_un un_neg pe_int))) (pe_lst (pa_cons pe_str pa_nil)) (nomark _)) (pw_and1 (pt_cmpR (kop_in (K := K) rfl) (pe_ix (kix (K := K) rfl) (pv 0) (pe_un un_neg pe_int) (fun _ _ => rfl)) (pe_callN k_numbers (hr.mono (by decide)) (pa_cons pe_int (pa_cons (pe_gi C.MOST_EVERY) pa_nil))) rfl))).pt (pss_one (ps_ret (pe_tup (pa_cons (pe_slice (ksl (K := K) rfl) (pv 0) po_none (po_some (pe_un un_neg pe_int))) (pa_cons (pe_callTy call_int_str (by rfl) B.int bt_itg (pa_cons (pe_ix (kix (K := K) rfl) (pv 0) (pe_un un_neg pe_int) (fun _ _ => rfl)) pa_nil)) pa_nil))))) pss_nil)
      (pss_one (ps_ret (pe_tup (pa_cons (pv 0) (pa_cons pe_non pa_nil)))))), fun Y x ⟨ws, e1, h1⟩ => ?_⟩
  subst e1
  have end_ : ∀ d, d = PyData.tuple [dW (everF ws).1, oInt (everF ws).2] → ∀ ws', dW ws = dW ws' → d = .tuple [dW (everF ws').1, oInt (everF ws').2] := fun d e ws' a => by
    rw [← dW_injW a]
    exact e
  have m1 : ∀ {es : List Ent} {k : Nat}, PaD Y K es (tPart (tUn (rU fun i => .int (-i)) (tC (.int k)))) (· = some (-(k : Int))) := fun {es k} => pa_some (ev_neg ev_int.tt)
  have lst : ∀ {es : List Ent} {w : List Nat}, es[0]? = some (.dat (dW ws)) → 1 ≤ ws.length → ws.getLastD [] = w → EvD Y K es (tOp (rIx K) (tVar 0) (tUn (rU fun i => .int (-i)) (tC (.int 1)))) (· = dS w) := fun {es w} h0 hl e => by
    refine ev_opd (ev_var h0).tt (ev_neg (i := ((1 : Nat) : Int)) ev_int.tt).tt (os_ixWm (k := 1) (by decide) hl ?_)
    rw [← e, ← List.getLast?_eq_getElem?, List.getLastD_eq_getLast?]
    cases q : ws.getLast? with
    | some y => rfl
    | none =>
      rw [List.getLast?_eq_none_iff] at q
      rw [q] at hl
      exact absurd hl (by decide)
  have nums : ∀ {es : List Ent}, EvD Y K es (tCall (sp2 K (fun x y => ∃ a b : Nat, x = .int a ∧ y = .int b ∧ a ≤ b ∧ b < 10) (fun x y d => ∀ a b : Nat, x = .int a → y = .int b → d = dW (numsW a b))) [] E0 (tCons (tC (.int 2)) (tCons (tC (.int 3)) tNil))) (· = dW (numsW 2 3)) := fun {es} => (ev_c2 ev_int ev_int ⟨2, 3, rfl, rfl, by decide, by decide⟩).mono fun d h => h 2 3 rfl rfl
  have hlen : (ws.drop (ws.length - 2)).take (ws.length - 1 - (ws.length - 2)) = [wEvery] → 2 ≤ ws.length := fun e => by
    have := congrArg List.length e
    rw [List.length_take, List.length_drop] at this
    simp at this
    omega
  refine qs_whend (tb_andd (c := decide (ws.getLastD [] ∈ numsW 2 3)) (tb_testd (ev_opd (ev_sl (lo := some (-((2 : Nat) : Int))) (hi := some (-((1 : Nat) : Int))) et_var m1 m1 (sw_mm (j := 1) (k := 2) (by decide) (by decide))).tt (ev_lstd (ar_consd (ev_s (l := wEvery)) ar_nil)).tt (os_eqW (a := (ws.drop (ws.length - 2)).take (ws.length - 1 - (ws.length - 2))) (b := [wEvery]) ((h1.drop _).take _) (ascW_of (by decide))))) (fun e => tb_testd (ev_opd (lst rfl (by have := hlen (of_decide_eq_true e); omega) rfl).tt nums.tt os_inWs))) (fun e => ?_) (fun e => ?_)
  · rw [Bool.and_eq_true, decide_eq_true_eq, decide_eq_true_eq] at e
    have ec : everF ws = (ws.take (ws.length - 2), some (dig1 (ws.getLastD []))) := if_pos e
    obtain ⟨d1, d2⟩ := dig1_of (by decide) e.2
    have hl := hlen e.1
    refine ss_retd (ev_tupd (ar_consd (ev_sl (lo := none) (hi := some (-((2 : Nat) : Int))) et_var pa_none m1 (sw_mto (k := 2) (by decide))) (ar_consd (ev_cb1d (lst rfl (by omega) d2).tt (cb_intS (n := (dig1 (ws.getLastD []) : Int)) (dig_int ⟨_, d1⟩) (by rw [SX.S_len]; exact Nat.le_of_ble_eq_true rfl))) ar_nil))) (end_ _ (by rw [ec]; rfl))
  · have ec : everF ws = (ws, none) := if_neg fun z => by
      rw [Bool.and_eq_false_iff, decide_eq_false_iff_not, decide_eq_false_iff_not] at e
      rcases e with e | e
      · exact e z.1
      · exact e z.2
    exact ss_retd (ev_tupd (ar_consd ev_var (ar_consd ev_non ar_nil))) (end_ _ (by rw [ec]; rfl))

/-! _width -/
theorem k_width (D : Dn K mg "_width" s_width ["words", "every"]) (B : Bi mg) : Kn P w K mg base 1 "_width" ["words", "every"] (sp2 K (fun x y => ∃ ws m, x = dW ws ∧ y = oInt m ∧ AscW ws ∧ 1 ≤ ws.length ∧ (ws.length ≠ 1 → ws[1]? = some wAll ∨ ∃ n, 0 < n ∧ n < 10 ∧ ws[1]? = some (digN n)) ∧ ∀ n, m = some n → 0 < n) (fun x y d => ∀ ws m, x = dW ws → y = oInt m → d = .int (widF ws m))) := by
  refine kn_of2 D sc_width (by decide) fun f cdv A outer s H E hr hu => ⟨_, (pss_cons (ps_if (pt_cmpR (kop_eq (K := K) rfl hu) (pe_callB (kc_len (K := K) rfl) (by rfl) B.len boot_len (pa_cons (pv 0) pa_nil)) pe_int (nomark _)) (pss_one (ps_ret pe_int)) pss_nil)
      (pss_cons (ps_if (pt_cmpR (kop_eq (K := K) rfl hu) (pe_ix (kix (K := K) rfl) (pv 0) pe_int (fun _ _ => rfl)) pe_str (nomark _)) (pss_one (ps_ret (kpe_orT (K := K) rfl (pv 1) (pe_one pe_int)))) pss_nil)
      (pss_one (ps_ret (pe_callTy call_int_str (by rfl) B.int bt_itg (pa_cons (pe_ix (kix (K := K) rfl) (pv 0) pe_int (fun _ _ => rfl)) pa_nil)))))), fun Y x y ⟨ws, m, e1, e2, h1, h2, h3, h4⟩ => ?_⟩
  subst e1 e2
  have end_ : ∀ d, d = PyData.int (widF ws m) → ∀ ws' m', dW ws = dW ws' → oInt m = oInt m' → d = .int (widF ws' m') := fun d e ws' m' a b => by
    rw [← dW_injW a, ← oInt_inj b]
    exact e
  refine qs_whend (tb_testd (ev_opd (ev_cb1d et_var (cb_lenL (ds := ws.map dS))).tt et_int os_eqI)) (fun e => ?_) (fun e => ?_)
  · have e := of_decide_eq_true e
    rw [List.length_map] at e
    have e : ws.length = 1 := by omega
    exact ss_retd ev_int (end_ _ (by unfold widF; rw [if_pos e]; rfl))
  have e := of_decide_eq_false e
  rw [List.length_map] at e
  have hn : ws.length ≠ 1 := by omega
  rcases h3 hn with hw | ⟨n, n0, n1, hw⟩
  · refine qs_whend (bb := true) ((tb_testd (ev_opd (ev_opd et_var et_int (os_ixW (i := 1) hw)).tt (et_s (l := wAll)) os_eqS')).mono fun _ e => e.trans (by decide)) (fun _ => ?_) (fun e => by cases e)
    cases m with
    | none => exact ss_retd (EvD.to (ev_orT (k := false) ev_var rfl fun _ => ev_int) rfl) (end_ _ (by unfold widF; rw [if_neg hn, if_pos hw]; rfl))
    | some n =>
      have n0 := h4 n rfl
      refine ss_retd (EvD.to (ev_orT (k := true) (x := .int (n : Int)) (y := .int 1) ev_var (by show some ((n : Int) != 0) = some true; congr 1; simp; omega) (fun e => by cases e)) rfl) (end_ _ (by unfold widF; rw [if_neg hn, if_pos hw]; rfl))
  · have hne : digN n ≠ wAll := fun z => absurd (congrArg List.length z) (by show ¬ (1 = 3); decide)
    refine qs_whend (bb := false) ((tb_testd (ev_opd (ev_opd et_var et_int (os_ixW (i := 1) hw)).tt (et_s (l := wAll)) os_eqS')).mono fun _ e => e.trans (decide_eq_false hne)) (fun e => by cases e) (fun _ => ?_)
    refine ss_retd (ev_cb1d (ev_opd et_var et_int (os_ixW (i := 1) hw)).tt (cb_intS (n := (n : Int)) (dig_int ⟨n, n1⟩) (by rw [SX.S_len]; exact Nat.le_of_ble_eq_true rfl))) (end_ _ ?_)
    unfold widF
    have hx : ws[1]? ≠ some wAll := fun z => by
      rw [hw] at z
      exact hne (Option.some.inj z)
    rw [if_neg hn, if_neg hx, hw]
    have e : dig1 (digN n) = n := by show 48 + n - 48 = n; omega
    show _ = PyData.int ((dig1 (digN n) : Nat) : Int)
    rw [e]

/-! _wide_span -/
theorem k_wide_span {T : Addr} (D : Dn K mg "_wide_span" s_wide_span ["way", "near", "every"]) (B : Bi mg) (C : Cs mg) (MS : MkO P w K mg base "Span" spanFl 3 ["every"] (fun vs zs => vs ++ zs ++ [.ref T])) (hT : ∀ H, L2.SqT K H T []) :
    Kn P w K mg base 3 "_wide_span" ["way", "near", "every"] (spF K 3 (fun ds => ∃ (way near : List Nat) (m : Nat), ds = [dS way, dS near, .int m] ∧ (near = wAll ∨ ∃ n, 0 < n ∧ n < 10 ∧ near = digN n) ∧ 0 < m ∧ m < 100) (fun ds d => ∀ (way near : List Nat) (m : Nat), ds = [dS way, dS near, .int m] → d = wideF way near m)) := by
  refine kn_of (n := 3) D sc_wide_span rfl (by decide) fun f cdv A outer s H E hr => ?_
  have hu : (A.deeper (envOfC "_wide_span" (defScope s_wide_span) s.heap.objs.size f cdv)).units + 64 < cLine := by have := hr.un; omega
  refine ⟨_, (pss_cons (ps_set (i := 3) sc_wide_span.nd rfl (by first | exact Or.inl rfl | exact Or.inr rfl) pe_non)
      (pss_cons (ps_if (pt_cmpR (kop_ne (K := K) rfl hu) (pv 1) pe_str (nomark _)) (pss_one (ps_set (i := 3) sc_wide_span.nd rfl (by first | exact Or.inl rfl | exact Or.inr rfl) (pe_callTy (kc_tup (K := K) rfl) (by rfl) B.tuple bt_tup (pa_cons (pe_lc (own := [("far", 4)]) (g := gName 4)  rfl sc_wide_span.nd (pi_range2 (by rfl) B.range (pa_cons pe_int (pa_cons (pe_op (kop_add (K := K) rfl) (pe_callTy call_int_str (by rfl) B.int bt_itg (pa_cons (pv 1) pa_nil)) pe_int) pa_nil))) (blkOk_by (N := ["way", "near", "every", "distances", "far"]) (sc := defScope s_wide_span) (by decide +kernel)) (fun _ _ _ _ _ => pg_name (i := 4) sc_wide_span.nd rfl (Or.inl rfl)) (fun _ _ _ _ _ => pts_one (pt_cmpR (kop_eq (K := K) rfl hu) (pe_op op_mod (pv 4) (pv 2)) pe_int (nomark _))) (fun _ _ _ _ _ => (pv 4))) pa_nil)))) pss_nil)
      (pss_one (ps_ret (kpe_mk1 (K := K) rfl MS (hr.mono (by decide)) (pa_cons (pe_cmpR (kop_ne (K := K) rfl hu) (pv 0) (pe_gs C.AHEAD) (nomark _)) (pa_cons (pe_cmpR (kop_ne (K := K) rfl hu) (pv 0) (pe_gs C.BACK) (nomark _)) (pa_cons (pv 3) pa_nil))) (pk_cons (pv 2) pk_nil)))))), fun Y ds hl ⟨way, near, m, e1, h1, h2, h3⟩ => ?_⟩
  subst e1
  refine qs_setd (d := .none) ev_non ?_
  refine ss_seq (M := fun e => e = [.dat (dS way), .dat (dS near), .dat (.int m), .dat (distF near m), .unk]) ?_ fun e he => ?_
  · rcases h1 with h1 | ⟨n, n0, n1, h1⟩
    · refine ss_ifd (bb := false) ((tb_testd (ev_opd et_var (et_s (l := wAll)) os_neS')).mono fun _ e => e.trans (by rw [h1]; rfl)) (fun e => by cases e) (fun _ => ss_next ?_)
      show _ = _
      rw [h1]
      rfl
    · have hne : near ≠ wAll := fun z => by
        rw [h1] at z
        exact absurd (congrArg List.length z) (by show ¬ (1 = 3); decide)
      have ed : dig1 near = n := by rw [h1]; show 48 + n - 48 = n; omega
      refine ss_ifd (bb := true) ((tb_testd (ev_opd et_var (et_s (l := wAll)) os_neS')).mono fun _ e => e.trans (by rw [decide_eq_false hne]; rfl)) (fun _ => ?_) (fun e => by cases e)
      have ei : PySem.intText? (SX.S near) = some (n : Int) := by rw [h1]; exact dig_int ⟨n, n1⟩
      refine ss_setd (d := distF near m) (EvD.to (ev_cb1d (ev_lcR2f (lo := 1) (n := (n : Int) + 1) (fun k => decide ((1 + k) % m = 0)) (fun k : Nat => .int (1 + (k : Int))) (ar_consd ev_int (ar_consd (ev_opd (ev_cb1d et_var (cb_intS ei (by rw [SX.S_len, h1]; exact Nat.le_of_ble_eq_true rfl))).tt et_int os_addI) ar_nil)) (fun k hk => (tb_testd (ev_opd (ev_opd et_var et_var (os_mod (by omega))).tt et_int os_eqI)).mono fun _ e => e.trans (decide_eq_decide.mpr (by have e3 : (1 + (k : Int)) % (m : Int) = (((1 + k) % m : Nat) : Int) := (by rw [Int.natCast_emod, Int.natCast_add]; rfl); rw [e3]; omega))) (fun k hk _ => ev_var) (by omega) (by omega) (by omega) (by omega) (by omega)).tt cb_tupL) ?_) ?_
      · unfold distF
        rw [if_neg hne, ed]
        have e2 : ((n : Int) + 1 - 1).toNat = n := by omega
        rw [e2]
      · rfl
  · subst he
    refine ss_retd (ev_mkK (ds := [.bool (decide (way ≠ wAhead)), .bool (decide (way ≠ wBack)), distF near m]) (zs := [.int m]) (rs := [.bool (decide (way ≠ wAhead)), .bool (decide (way ≠ wBack)), distF near m, .int m, .tuple []]) (ar_consd (EvD.to (ev_opd et_var (et_s (l := wAhead)) os_neS') (by simp)) (ar_consd (EvD.to (ev_opd et_var (et_s (l := wBack)) os_neS') (by simp)) (ar_consd ev_var ar_nil))) (ar_consd ev_var ar_nil) rfl rfl (fun H a vs ws hv hw => ⟨vs ++ ws ++ [.ref T], rfl, (hv.append hw).append (.cons (.tup (hT H) .nil) .nil)⟩) rfl) ?_
    intro way' near' m' e
    injection e with e1 e
    injection e with e2 e
    injection e with e3 _
    injection e3 with e3
    rw [← SX.S_inj (PyData.str.inj e1), ← SX.S_inj (PyData.str.inj e2)]
    have e3 : m = m' := by omega
    rw [← e3]
    rfl

/-! _read_span -/
theorem k_read_span {T : Addr} (D : Dn K mg "_read_span" s_read_span ["words", "every", "scope"]) (B : Bi mg) (C : Cs mg) (MS0 : MkO P w K mg base "Span" spanFl 3 [] (fun vs zs => vs ++ [.int 1, .ref T] ++ zs)) (MSe : MkO P w K mg base "Span" spanFl 3 ["ends"] (fun vs zs => vs ++ [.int 1] ++ zs)) (hT : ∀ H, L2.SqT K H T [])
    (k_numbers : Kn P w K mg base 1 "_numbers" ["least", "most"] (sp2 K (fun x y => ∃ a b : Nat, x = .int a ∧ y = .int b ∧ a ≤ b ∧ b < 10) (fun x y d => ∀ a b : Nat, x = .int a → y = .int b → d = dW (numsW a b))))
    (k_wide_span : Kn P w K mg base 3 "_wide_span" ["way", "near", "every"] (spF K 3 (fun ds => ∃ (way near : List Nat) (m : Nat), ds = [dS way, dS near, .int m] ∧ (near = wAll ∨ ∃ n, 0 < n ∧ n < 10 ∧ near = digN n) ∧ 0 < m ∧ m < 100) (fun ds d => ∀ (way near : List Nat) (m : Nat), ds = [dS way, dS near, .int m] → d = wideF way near m))) :
    Kn P w K mg base 4 "_read_span" ["words", "every", "scope"] (spF K 3 (fun ds => ∃ (ws : List (List Nat)) (m : Option Nat) (sc : List Nat), ds = [dW ws, oInt m, dS sc] ∧ AscW ws ∧ ∀ n, m = some n → 0 < n ∧ n < 100) (fun ds d => ∀ (ws : List (List Nat)) (m : Option Nat) (sc : List Nat), ds = [dW ws, oInt m, dS sc] → d = spanF ws m sc)) := by
  refine kn_of (n := 3) D sc_read_span rfl (by decide) fun f cdv A outer s H E hr => ?_
  have hu : (A.deeper (envOfC "_read_span" (defScope s_read_span) s.heap.objs.size f cdv)).units + 64 < cLine := by have := hr.un; omega
  refine ⟨_, (pss_cons (ps_set (i := 3) sc_read_span.nd rfl (by first | exact Or.inl rfl | exact Or.inr rfl) (pe_callN k_numbers (hr.mono (by decide)) (pa_cons pe_int (pa_cons (pe_gi C.MOST_NEAR) pa_nil))))
      (pss_cons (ps_if (pw_and (pt_cmpR (kop_eq (K := K) rfl hu) (pe_callB (kc_len (K := K) rfl) (by rfl) B.len boot_len (pa_cons (pv 0) pa_nil)) pe_int (nomark _)) (pw_and (pt_cmpR (kop_in (K := K) rfl) (pe_ix (kix (K := K) rfl) (pv 0) pe_int (fun _ _ => rfl)) (pe_tup (pa_cons (pe_gs C.BACK) (pa_cons (pe_gs C.AHEAD) (pa_cons (pe_gs C.AROUND) pa_nil)))) rfl) (pw_and1 (pt_cmpR (kop_in (K := K) rfl) (pe_ix (kix (K := K) rfl) (pv 0) pe_int (fun _ _ => rfl)) (pe_lst (kpa_star (K := K) rfl (pv 3) (pa_cons pe_str pa_nil))) rfl)))).pt (pss_one (ps_ret (pe_callN k_wide_span (hr.mono (by decide)) (pa_cons (pe_ix (kix (K := K) rfl) (pv 0) pe_int (fun _ _ => rfl)) (pa_cons (pe_ix (kix (K := K) rfl) (pv 0) pe_int (fun _ _ => rfl)) (pa_cons (kpe_orT (K := K) rfl (pv 1) (pe_one pe_int)) pa_nil)))))) pss_nil)
      (pss_cons (ps_if (pt_cmpR op_isnot_non (pv 1) pe_non (nomark _)) (pss_one (ps_ret pe_non)) pss_nil)
      (pss_cons (ps_if (pw_and (pt_cmpR (kop_eq (K := K) rfl hu) (pe_callB (kc_len (K := K) rfl) (by rfl) B.len boot_len (pa_cons (pv 0) pa_nil)) pe_int (nomark _)) (pw_and (pt_cmpR (kop_eq (K := K) rfl hu) (pe_ix (kix (K := K) rfl) (pv 0) pe_int (fun _ _ => rfl)) pe_str (nomark _)) (pw_and (pt_cmpR (kop_in (K := K) rfl) (pe_ix (kix (K := K) rfl) (pv 0) pe_int (fun _ _ => rfl)) (pv 3) rfl) (pw_and1 (pt_cmpR (kop_in (K := K) rfl) (pe_ix (kix (K := K) rfl) (pv 0) pe_int (fun _ _ => rfl)) (pe_tup (pa_cons (pe_gs C.BACK) (pa_cons (pe_gs C.AHEAD) pa_nil))) rfl))))).pt (pss_one (ps_ret (kpe_mk1 (K := K) rfl MS0 (hr.mono (by decide)) (pa_cons (pe_cmpR (kop_eq (K := K) rfl hu) (pe_ix (kix (K := K) rfl) (pv 0) pe_int (fun _ _ => rfl)) (pe_gs C.BACK) (nomark _)) (pa_cons (pe_cmpR (kop_eq (K := K) rfl hu) (pe_ix (kix (K := K) rfl) (pv 0) pe_int (fun _ _ => rfl)) (pe_gs C.AHEAD) (nomark _)) (pa_cons (pe_tup (pa_cons (pe_callTy call_int_str (by rfl) B.int bt_itg (pa_cons (pe_ix (kix (K := K) rfl) (pv 0) pe_int (fun _ _ => rfl)) pa_nil)) pa_nil)) pa_nil))) pk_nil))) pss_nil)
      (pss_cons (ps_if (pw_and (pt_cmpR (kop_eq (K := K) rfl hu) (pv 2) (pe_gs C.ROW) (nomark _)) (pw_and1 (pt_cmpR (kop_eq (K := K) rfl hu) (pv 0) (pe_lst (pa_cons pe_str pa_nil)) (nomark _)))).pt (pss_one (ps_ret (kpe_mk1 (K := K) rfl MSe (hr.mono (by decide)) (pa_cons pe_bl (pa_cons pe_bl (pa_cons pe_non pa_nil))) (pk_cons (pe_tup (pa_cons (pe_gi C.OPENS) (pa_cons (pe_gi C.SINGLE) pa_nil))) pk_nil)))) pss_nil)
      (pss_cons (ps_if (pw_and (pt_cmpR (kop_eq (K := K) rfl hu) (pv 2) (pe_gs C.ROW) (nomark _)) (pw_and1 (pt_cmpR (kop_eq (K := K) rfl hu) (pv 0) (pe_lst (pa_cons pe_str pa_nil)) (nomark _)))).pt (pss_one (ps_ret (kpe_mk1 (K := K) rfl MSe (hr.mono (by decide)) (pa_cons pe_bl (pa_cons pe_bl (pa_cons pe_non pa_nil))) (pk_cons (pe_tup (pa_cons (pe_gi C.CLOSES) (pa_cons (pe_gi C.SINGLE) pa_nil))) pk_nil)))) pss_nil)
      (pss_one (ps_ret pe_non)))))))), fun Y ds hl ⟨ws, m, sc, e1, h1, h2⟩ => ?_⟩
  subst e1
  have end_ : ∀ d, d = spanF ws m sc → ∀ (ws' : List (List Nat)) (m' : Option Nat) (sc' : List Nat), ([dW ws, oInt m, dS sc] : List PyData) = [dW ws', oInt m', dS sc'] → d = spanF ws' m' sc' := fun d e ws' m' sc' z => by
    injection z with z1 z
    injection z with z2 z
    injection z with z3 _
    rw [← dW_injW z1, ← oInt_inj z2, ← SX.S_inj (PyData.str.inj z3)]
    exact e
  refine qs_setd (d := dW (numsW 1 3)) ((ev_c2 ev_int ev_int ⟨1, 3, rfl, rfl, by decide, by decide⟩).mono fun d h => h 1 3 rfl rfl) ?_
  refine qs_whend (tb_andd (ev_lenW (n := 2) rfl) (fun e => tb_andd (tb_testd (ev_opd (ev_wrd (i := 0) rfl (by have := of_decide_eq_true e; omega)).tt (ev_tupd (ar_consd (ev_s (l := wBack)) (ar_consd (ev_s (l := wAhead)) (ar_consd (ev_s (l := wAround)) ar_nil)))).tt (os_inWt (ws := [wBack, wAhead, wAround])))) (fun _ => tb_testd (ev_opd (ev_wrd (i := 1) rfl (by have := of_decide_eq_true e; omega)).tt (EvD.tt (EvD.to (e := dW (numsW 1 3 ++ [wAll])) (ev_lstd (ar_star (rs := (numsW 1 3).map dS) (EvD.mono ev_var fun d e => .inl e) (ar_consd (ev_s (l := wAll)) ar_nil)) (by decide)) rfl)) os_inWs)))) (fun e => ?_) (fun e => ?_)
  · have ec : spanF ws m sc = wideF (wrd ws 0) (wrd ws 1) (m.getD 1) := if_pos e
    rw [Bool.and_eq_true, Bool.and_eq_true, decide_eq_true_eq, decide_eq_true_eq, decide_eq_true_eq] at e
    have hn : wrd ws 1 = wAll ∨ ∃ n, 0 < n ∧ n < 10 ∧ wrd ws 1 = digN n := by
      rcases List.mem_append.mp e.2.2 with z | z
      · obtain ⟨k, hk, ek⟩ := List.mem_map.mp z
        have hk := List.mem_range.mp hk
        exact .inr ⟨1 + k, by omega, by omega, ek.symm⟩
      · exact .inl (List.mem_singleton.mp z)
    have hm : 0 < m.getD 1 ∧ m.getD 1 < 100 := by
      cases m with
      | none => exact ⟨by decide, by decide⟩
      | some n => exact h2 n rfl
    have evm : ∀ {es : List Ent}, es[1]? = some (.dat (oInt m)) → EvD Y K es (tOrT K (tVar 1) (tC (.int 1))) (· = .int (m.getD 1 : Nat)) := fun {es} h0 => by
      cases m with
      | none => exact EvD.to (ev_orT (k := false) (ev_var h0) rfl fun _ => ev_int) rfl
      | some n =>
        have n0 := (h2 n rfl).1
        exact EvD.to (ev_orT (k := true) (x := .int (n : Int)) (y := .int 1) (ev_var h0) (by show some ((n : Int) != 0) = some true; congr 1; simp; omega) (fun e => by cases e)) rfl
    exact ss_ret ((ev_call (ar_consd (ev_wrd (i := 0) rfl (by omega)) (ar_consd (ev_wrd (i := 1) rfl (by omega)) (ar_consd (evm rfl) ar_nil))) rfl ⟨_, _, _, rfl, hn, hm⟩).mono fun d h => h _ _ _ rfl) fun d e => end_ d (e.trans ec.symm)
  have f1 := e
  refine qs_whend (bb := m.isSome) ((tb_testd (ev_opd et_var ev_non.tt os_isnotN)).mono fun d e => e.trans (by cases m <;> rfl)) (fun e => ?_) (fun e => ?_)
  · exact ss_retd ev_non (end_ _ (by unfold spanF; rw [if_neg (by rw [f1]; decide), if_pos e]))
  have f2 := e
  refine qs_whend (tb_andd (ev_lenW (n := 3) rfl) (fun e => tb_andd (tb_testd (ev_opd (ev_wrd (i := 0) rfl (by have := of_decide_eq_true e; omega)).tt (et_s (l := wAt)) os_eqS')) (fun _ => tb_andd (tb_testd (ev_opd (ev_wrd (i := 1) rfl (by have := of_decide_eq_true e; omega)).tt et_var os_inWs)) (fun _ => tb_testd (ev_opd (ev_wrd (i := 2) rfl (by have := of_decide_eq_true e; omega)).tt (ev_tupd (ar_consd (ev_s (l := wBack)) (ar_consd (ev_s (l := wAhead)) ar_nil))).tt (os_inWt (ws := [wBack, wAhead]))))))) (fun e => ?_) (fun e => ?_)
  · have ec : spanF ws m sc = spanD (decide (wrd ws 2 = wBack)) (decide (wrd ws 2 = wAhead)) (.tuple [.int (dig1 (wrd ws 1))]) 1 [] := by
      unfold spanF
      rw [if_neg (by rw [f1]; decide), if_neg (by rw [f2]; decide), if_pos e]
    rw [Bool.and_eq_true, Bool.and_eq_true, Bool.and_eq_true, decide_eq_true_eq, decide_eq_true_eq, decide_eq_true_eq, decide_eq_true_eq] at e
    obtain ⟨d1, d2⟩ := dig1_of (by decide) e.2.2.1
    have ei : PySem.intText? (SX.S (wrd ws 1)) = some (dig1 (wrd ws 1) : Int) := (congrArg (fun l => PySem.intText? (SX.S l)) d2).trans (dig_int ⟨_, d1⟩)
    refine ss_retd (ev_mkK (ds := [.bool (decide (wrd ws 2 = wBack)), .bool (decide (wrd ws 2 = wAhead)), .tuple [.int (dig1 (wrd ws 1))]]) (zs := []) (rs := [.bool (decide (wrd ws 2 = wBack)), .bool (decide (wrd ws 2 = wAhead)), .tuple [.int (dig1 (wrd ws 1))], .int 1, .tuple []]) (ar_consd (ev_opd (ev_wrd (i := 2) rfl (by omega)).tt (et_s (l := wBack)) os_eqS') (ar_consd (ev_opd (ev_wrd (i := 2) rfl (by omega)).tt (et_s (l := wAhead)) os_eqS') (ar_consd (ev_tupd (ar_consd (ev_cb1d (ev_wrd (i := 1) rfl (by omega)).tt (cb_intS ei (by rw [SX.S_len, d2]; exact Nat.le_of_ble_eq_true rfl))) ar_nil)) ar_nil))) ar_nil rfl rfl (fun H a vs ws hv hw => ⟨vs ++ [.int 1, .ref T] ++ ws, rfl, (hv.append (.cons (.int 1) (.cons (.tup (hT H) .nil) .nil))).append hw⟩) rfl) (end_ _ (by rw [ec]; rfl))
  have f3 := e
  refine qs_whend (tb_andd (tb_testd (ev_opd et_var (et_s (l := wRow)) os_eqS')) (fun _ => tb_testd (ev_opd et_var (ev_lstd (ar_consd (ev_s (l := wFirst)) ar_nil)).tt (os_eqW (a := ws) (b := [wFirst]) h1 (ascW_of (by decide)))))) (fun e => ?_) (fun e => ?_)
  · refine ss_retd (ev_mkK (ds := [.bool true, .bool false, .none]) (zs := [.tuple [.int 0, .int 3]]) (rs := [.bool true, .bool false, .none, .int 1, .tuple [.int 0, .int 3]]) (ar_consd ev_bl (ar_consd ev_bl (ar_consd ev_non ar_nil))) (ar_consd (ev_tupd (ar_consd ev_int (ar_consd ev_int ar_nil))) ar_nil) rfl rfl (fun H a vs ws hv hw => ⟨vs ++ [.int 1] ++ ws, rfl, (hv.append (.cons (.int 1) .nil)).append hw⟩) rfl) (end_ _ ?_)
    unfold spanF
    rw [if_neg (by rw [f1]; decide), if_neg (by rw [f2]; decide), if_neg (by rw [f3]; decide), if_pos e]
    rfl
  have f4 := e
  refine qs_whend (tb_andd (tb_testd (ev_opd et_var (et_s (l := wRow)) os_eqS')) (fun _ => tb_testd (ev_opd et_var (ev_lstd (ar_consd (ev_s (l := wLast)) ar_nil)).tt (os_eqW (a := ws) (b := [wLast]) h1 (ascW_of (by decide)))))) (fun e => ?_) (fun e => ?_)
  · refine ss_retd (ev_mkK (ds := [.bool false, .bool true, .none]) (zs := [.tuple [.int 4, .int 3]]) (rs := [.bool false, .bool true, .none, .int 1, .tuple [.int 4, .int 3]]) (ar_consd ev_bl (ar_consd ev_bl (ar_consd ev_non ar_nil))) (ar_consd (ev_tupd (ar_consd ev_int (ar_consd ev_int ar_nil))) ar_nil) rfl rfl (fun H a vs ws hv hw => ⟨vs ++ [.int 1] ++ ws, rfl, (hv.append (.cons (.int 1) .nil)).append hw⟩) rfl) (end_ _ ?_)
    unfold spanF
    rw [if_neg (by rw [f1]; decide), if_neg (by rw [f2]; decide), if_neg (by rw [f3]; decide), if_neg (by rw [f4]; decide), if_pos e]
    rfl
  refine ss_retd ev_non (end_ _ ?_)
  unfold spanF
  rw [if_neg (by rw [f1]; decide), if_neg (by rw [f2]; decide), if_neg (by rw [f3]; decide), if_neg (by rw [f4]; decide), if_neg (by rw [e]; decide)]

/-! read_layer -/
theorem k_read_layer {T : Addr} (D : Dn K mg "read_layer" s_read_layer ["value"]) (B : Bi mg) (C : Cs mg) (MS0 : MkO P w K mg base "Span" spanFl 3 [] (fun vs zs => vs ++ [.int 1, .ref T] ++ zs)) (MLc : MkO P w K mg base "Layer" layFl 3 ["clears"] (fun vs zs => vs ++ [.bl false, .bl false] ++ zs)) (MLo : MkO P w K mg base "Layer" layFl 3 ["own", "for_true"] (fun vs zs => vs ++ zs ++ [.bl false])) (hT : ∀ H, L2.SqT K H T [])
    (k_cut : Kn P w K mg base 1 "_cut" ["words", "last"] (sp2 K (fun x y => ∃ ws l, x = dW ws ∧ y = dW l ∧ AscW ws ∧ AscW l ∧ 0 < l.length ∧ l.length ≤ 1000) (fun x y d => ∀ ws l, x = dW ws → y = dW l → d = .tuple [dW (cutF ws l).1, .bool (cutF ws l).2])))
    (k_cut_every : Kn P w K mg base 2 "_cut_every" ["words"] (sp1 K (fun x => ∃ ws, x = dW ws ∧ AscW ws) (fun x d => ∀ ws, x = dW ws → d = .tuple [dW (everF ws).1, oInt (everF ws).2])))
    (k_width : Kn P w K mg base 1 "_width" ["words", "every"] (sp2 K (fun x y => ∃ ws m, x = dW ws ∧ y = oInt m ∧ AscW ws ∧ 1 ≤ ws.length ∧ (ws.length ≠ 1 → ws[1]? = some wAll ∨ ∃ n, 0 < n ∧ n < 10 ∧ ws[1]? = some (digN n)) ∧ ∀ n, m = some n → 0 < n) (fun x y d => ∀ ws m, x = dW ws → y = oInt m → d = .int (widF ws m))))
    (k_read_span : Kn P w K mg base 4 "_read_span" ["words", "every", "scope"] (spF K 3 (fun ds => ∃ (ws : List (List Nat)) (m : Option Nat) (sc : List Nat), ds = [dW ws, oInt m, dS sc] ∧ AscW ws ∧ ∀ n, m = some n → 0 < n ∧ n < 100) (fun ds d => ∀ (ws : List (List Nat)) (m : Option Nat) (sc : List Nat), ds = [dW ws, oInt m, dS sc] → d = spanF ws m sc))) :
    Kn P w K mg base 5 "read_layer" ["value"] (sp1 K (fun x => (Pl x ∧ tyN x ≠ "str") ∨ ∃ u, x = dS u ∧ AscW (wordsF u) ∧ u.length ≤ 1000) (fun x d => (tyN x ≠ "str" → d = .none) ∧ ∀ u, x = dS u → d = layF u)) := by
  refine kn_of1 D sc_read_layer (by decide) fun f cdv A outer s H E hr hu => ⟨_, (pss_cons (ps_if (pt_not (pt_val (pe_callB (kc_isi (K := K) rfl) (by rfl) B.isi bt_isi (pa_cons (pv 0) (pa_cons (pe_bltn (v := .ty "str") (by rfl) B.str bt_txt rfl) pa_nil))))) (pss_one (ps_ret pe_non)) pss_nil)
      (pss_cons (ps_if (pt_cmpR (kop_eq (K := K) rfl hu) (pv 0) pe_str (nomark _)) (pss_one (ps_ret (kpe_mk1 (K := K) rfl MLc (hr.mono (by decide)) (pa_cons pe_int (pa_cons (pe_gs C.ROW) (pa_cons (kpe_mk1 (K := K) rfl MS0 (hr.mono (by decide)) (pa_cons pe_bl (pa_cons pe_bl (pa_cons (pe_tup pa_nil) pa_nil))) pk_nil) pa_nil))) (pk_cons pe_bl pk_nil)))) pss_nil)
      (pss_cons (ps_asg (pe_callN k_cut (hr.mono (by decide)) (pa_cons (pe_split (pv 0) pe_str) (pa_cons (pe_lst (pa_cons pe_str (pa_cons pe_str pa_nil))) pa_nil))) (kpg_pair (K := K) (i := 1) (j := 2) rfl rfl sc_read_layer.nd rfl rfl (by first | exact Or.inl rfl | exact Or.inr rfl) (by first | exact Or.inl rfl | exact Or.inr rfl)))
      (pss_cons (ps_asg (pe_callN k_cut (hr.mono (by decide)) (pa_cons (pv 1) (pa_cons (pe_lst (pa_cons pe_str pa_nil)) pa_nil))) (kpg_pair (K := K) (i := 1) (j := 3) rfl rfl sc_read_layer.nd rfl rfl (by first | exact Or.inl rfl | exact Or.inr rfl) (by first | exact Or.inl rfl | exact Or.inr rfl)))
      (pss_cons (ps_asg (pe_callN k_cut_every (hr.mono (by decide)) (pa_cons (pv 1) pa_nil)) (kpg_pair (K := K) (i := 1) (j := 4) rfl rfl sc_read_layer.nd rfl rfl (by first | exact Or.inl rfl | exact Or.inr rfl) (by first | exact Or.inl rfl | exact Or.inr rfl)))
      (pss_cons (ps_if (pw_or (pt_cmpR (kop_notInDa (K := K) rfl hu) (pe_slice (ksl (K := K) rfl) (pv 1) po_none (po_some pe_int)) (pe_tup (pa_cons (pe_lst (pa_cons pe_str pa_nil)) (pa_cons (pe_lst (pa_cons pe_str pa_nil)) pa_nil))) rfl) (pw_or1 (pt_cmpR (kop_notInDa (K := K) rfl hu) (pe_slice (ksl (K := K) rfl) (pv 1) (po_some pe_int) (po_some pe_int)) (pe_tup (pa_cons (pe_lst (pa_cons (pe_gs C.ROW) pa_nil)) (pa_cons (pe_lst (pa_cons (pe_gs C.TRUE) pa_nil)) (pa_cons (pe_lst (pa_cons (pe_gs C.LINE) pa_nil)) pa_nil)))) rfl))).pt (pss_one (ps_ret pe_non)) pss_nil)
      (pss_cons (ps_set (i := 5) sc_read_layer.nd rfl (by first | exact Or.inl rfl | exact Or.inr rfl) (pe_cmpR (kop_eq (K := K) rfl hu) (pe_ix (kix (K := K) rfl) (pv 1) pe_int (fun _ _ => rfl)) pe_str (nomark _)))
      (pss_cons (ps_set (i := 6) sc_read_layer.nd rfl (by first | exact Or.inl rfl | exact Or.inr rfl) (pe_callN k_read_span (hr.mono (by decide)) (pa_cons (pe_slice (ksl (K := K) rfl) (pv 1) (po_some pe_int) po_none) (pa_cons (pv 4) (pa_cons (pe_ix (kix (K := K) rfl) (pv 1) pe_int (fun _ _ => rfl)) pa_nil)))))
      (pss_cons (ps_if (pw_or (pt_cmpR op_is_non (pv 6) pe_non (nomark _)) (pw_or1 (pw_and (pt_val (pv 5)) (pw_and1 (pt_val (pv 3)))).pt)).pt (pss_one (ps_ret pe_non)) pss_nil)
      (pss_one (ps_ret (kpe_mk1 (K := K) rfl MLo (hr.mono (by decide)) (pa_cons (pe_callN k_width (hr.mono (by decide)) (pa_cons (pe_slice (ksl (K := K) rfl) (pv 1) (po_some pe_int) po_none) (pa_cons (pv 4) pa_nil))) (pa_cons (pe_ix (kix (K := K) rfl) (pv 1) pe_int (fun _ _ => rfl)) (pa_cons (pv 6) pa_nil))) (pk_cons (pe_or (pv 3) (pe_one (pv 5))) (pk_cons (pv 2) pk_nil)))))))))))))), fun Y x hx => ?_⟩
  rcases hx with ⟨hp, hne⟩ | ⟨u, rfl, h1, h2⟩
  · have kb : ∀ s ∈ ["NoneType", "bool", "int", "list", "tuple", "dict"], kitB s "str" = some false := by decide +kernel
    have hk : kitB (tyN x) "str" = some false := by
      cases x with
      | str s => exact absurd rfl hne
      | none => exact kb "NoneType" (by decide)
      | bool _ => exact kb "bool" (by decide)
      | int _ => exact kb "int" (by decide)
      | list _ => exact kb "list" (by decide)
      | tuple _ => exact kb "tuple" (by decide)
      | dict _ => exact kb "dict" (by decide)
    refine qs_whend (bb := true) (tb_notd (b := false) (tb_Bd (ev_isPl (w := .ty "str") et_var hp (.ty "str") (kit_ty hk)))) (fun _ => ss_retd ev_non ⟨fun _ => rfl, fun u e => ?_⟩) (fun e => by cases e)
    subst e
    exact absurd rfl hne
  have end_ : ∀ d, d = layF u → (tyN (dS u) ≠ "str" → d = .none) ∧ ∀ u', dS u = dS u' → d = layF u' := fun d e => ⟨fun z => absurd rfl z, fun u' z => by rw [← SX.S_inj (PyData.str.inj z)]; exact e⟩
  refine qs_whend (bb := false) (tb_notd (b := true) (tb_Bd (ev_isPl (w := .ty "str") et_var (show Pl (dS u) from True.intro) (.ty "str") (kit_ty (show kitB "str" "str" = some true by decide +kernel))))) (fun e => by cases e) (fun _ => ?_)
  refine qs_whend (tb_testd (ev_opd et_var (et_s (l := wClear)) os_eqS')) (fun e => ?_) (fun e => ?_)
  · have e := of_decide_eq_true e
    refine ss_retd (ev_mkK (ds := [.int 0, dS wRow, spanD false false (.tuple []) 1 []]) (zs := [.bool true]) (rs := [.int 0, dS wRow, spanD false false (.tuple []) 1 [], .bool false, .bool false, .bool true]) (ar_consd ev_int (ar_consd (ev_s (l := wRow)) (ar_consd (ev_mkK (ds := [.bool false, .bool false, .tuple []]) (zs := []) (rs := [.bool false, .bool false, .tuple [], .int 1, .tuple []]) (ar_consd ev_bl (ar_consd ev_bl (ar_consd (ev_tupd ar_nil) ar_nil))) ar_nil rfl rfl (fun H a vs ws hv hw => ⟨vs ++ [.int 1, .ref T] ++ ws, rfl, (hv.append (.cons (.int 1) (.cons (.tup (hT H) .nil) .nil))).append hw⟩) rfl) ar_nil))) (ar_consd ev_bl ar_nil) rfl rfl (fun H a vs ws hv hw => ⟨vs ++ [.bl false, .bl false] ++ ws, rfl, (hv.append (.cons (.bl false) (.cons (.bl false) .nil))).append hw⟩) rfl) (end_ _ ?_)
    unfold layF
    rw [if_pos e]
    rfl
  have e0 := of_decide_eq_false e
  refine qs_unp2 (a := dW (cutF (wordsF u) [wFor, wTrue]).1) (b := .bool (cutF (wordsF u) [wFor, wTrue]).2) ((ev_c2 (x := dW (wordsF u)) (y := dW [wFor, wTrue]) (EvD.to (ev_split ev_var (ev_s (l := [32])) (by decide) (by rw [SX.S_len]; omega)) (words_W u)) (ev_lstd (ar_consd (ev_s (l := wFor)) (ar_consd (ev_s (l := wTrue)) ar_nil))) ⟨_, _, rfl, rfl, h1, ascW_of (by decide), by decide, by decide⟩).mono fun d h => h _ _ rfl rfl) ?_
  have a1 : AscW (cutF (wordsF u) [wFor, wTrue]).1 := cutF_asc h1
  refine qs_unp2 (a := dW (cutF (cutF (wordsF u) [wFor, wTrue]).1 [wOwn]).1) (b := .bool (cutF (cutF (wordsF u) [wFor, wTrue]).1 [wOwn]).2) ((ev_c2 (x := dW (cutF (wordsF u) [wFor, wTrue]).1) (y := dW [wOwn]) ev_var (ev_lstd (ar_consd (ev_s (l := wOwn)) ar_nil)) ⟨_, _, rfl, rfl, a1, ascW_of (by decide), by decide, by decide⟩).mono fun d h => h _ _ rfl rfl) ?_
  have a2 : AscW (cutF (cutF (wordsF u) [wFor, wTrue]).1 [wOwn]).1 := cutF_asc a1
  refine qs_unp2 (a := dW (everF (cutF (cutF (wordsF u) [wFor, wTrue]).1 [wOwn]).1).1) (b := oInt (everF (cutF (cutF (wordsF u) [wFor, wTrue]).1 [wOwn]).1).2) ((ev_c1 (x := dW (cutF (cutF (wordsF u) [wFor, wTrue]).1 [wOwn]).1) ev_var ⟨_, rfl, a2⟩).mono fun d h => h _ rfl) ?_
  have a3 : AscW (everF (cutF (cutF (wordsF u) [wFor, wTrue]).1 [wOwn]).1).1 := everF_asc a2
  have el : layF u = _ := if_neg e0
  generalize hc1 : cutF (wordsF u) [wFor, wTrue] = c1 at *
  generalize hc2 : cutF c1.1 [wOwn] = c2 at *
  generalize hc3 : everF c2.1 = c3 at *
  have hnum : ∀ n, c3.2 = some n → 0 < n ∧ n < 100 := fun n h => everF_num (hc3 ▸ h)
  refine qs_whend (bb := (!decide (c3.1.take 1 ∈ [[wLook], [wAdd]]) || !decide ((c3.1.drop 1).take 1 ∈ [[wRow], [wTrue], [wLine]]))) (tb_ord (tb_testd (ev_opd (ev_sl (lo := none) (hi := some ((1 : Nat) : Int)) et_var pa_none (pa_some ev_int) (sw_to (i := 1))).tt (ev_tupd (ar_consd (ev_lstd (ar_consd (ev_s (l := wLook)) ar_nil)) (ar_consd (ev_lstd (ar_consd (ev_s (l := wAdd)) ar_nil)) ar_nil))).tt (os_inW (neg := true) (bs := [[wLook], [wAdd]]) (a3.take _) (fun b hb => by
      simp only [List.mem_cons, List.not_mem_nil, or_false] at hb
      rcases hb with rfl | rfl <;> exact ascW_of (by decide))))) (fun _ => tb_testd (ev_opd (ev_sl (lo := some ((1 : Nat) : Int)) (hi := some ((2 : Nat) : Int)) et_var (pa_some ev_int) (pa_some ev_int) (sw_nn (i := 1) (j := 2))).tt (ev_tupd (ar_consd (ev_lstd (ar_consd (ev_s (l := wRow)) ar_nil)) (ar_consd (ev_lstd (ar_consd (ev_s (l := wTrue)) ar_nil)) (ar_consd (ev_lstd (ar_consd (ev_s (l := wLine)) ar_nil)) ar_nil)))).tt (os_inW (neg := true) (bs := [[wRow], [wTrue], [wLine]]) ((a3.drop _).take _) (fun b hb => by
      simp only [List.mem_cons, List.not_mem_nil, or_false] at hb
      rcases hb with rfl | rfl | rfl <;> exact ascW_of (by decide)))))) (fun e => ?_) (fun e => ?_)
  · exact ss_retd ev_non (end_ _ (by rw [el]; unfold layG; rw [if_pos e]))
  have f1 := e
  have hl : 2 ≤ c3.1.length := by
    rw [Bool.or_eq_false_iff, Bool.not_eq_false', decide_eq_true_eq] at e
    have e2 := e.2
    rw [Bool.not_eq_false', decide_eq_true_eq] at e2
    have : ((c3.1.drop 1).take 1).length = 1 := by
      simp only [List.mem_cons, List.not_mem_nil, or_false] at e2
      rcases e2 with h | h | h <;> rw [h] <;> rfl
    rw [List.length_take, List.length_drop] at this
    omega
  refine qs_setd (d := .bool (decide (wrd c3.1 0 = wAdd))) (ev_opd (ev_wrd (i := 0) rfl (by omega)).tt (et_s (l := wAdd)) os_eqS') ?_
  refine qs_setd (d := spanF (c3.1.drop 2) c3.2 (wrd c3.1 1)) ((ev_call (ar_consd (ev_sl (lo := some ((2 : Nat) : Int)) (hi := none) et_var (pa_some ev_int) pa_none (sw_from (i := 2))) (ar_consd ev_var (ar_consd (ev_wrd (i := 1) rfl (by omega)) ar_nil))) rfl ⟨_, _, _, rfl, a3.drop _, hnum⟩).mono fun d h => h _ _ _ rfl) ?_
  refine qs_whend (tb_ord (tb_testd (ev_opd et_var ev_non.tt os_isN)) (fun _ => tb_andd (tb_Bd ev_var) (fun _ => tb_Bd ev_var))) (fun e => ?_) (fun e => ?_)
  · exact ss_retd ev_non (end_ _ (by rw [el]; unfold layG; rw [if_neg (by rw [f1]; decide), if_pos e]))
  have f2 := e
  rw [Bool.or_eq_false_iff] at e
  obtain ⟨w1, w2⟩ := spanF_wid e.1
  refine ss_retd (ev_mkK (ds := [.int (widF (c3.1.drop 2) c3.2), dS (wrd c3.1 1), spanF (c3.1.drop 2) c3.2 (wrd c3.1 1)]) (zs := [.bool (c2.2 || decide (wrd c3.1 0 = wAdd)), .bool c1.2]) (rs := [.int (widF (c3.1.drop 2) c3.2), dS (wrd c3.1 1), spanF (c3.1.drop 2) c3.2 (wrd c3.1 1), .bool (c2.2 || decide (wrd c3.1 0 = wAdd)), .bool c1.2, .bool false])
    (ar_consd ((ev_c2 (ev_sl (lo := some ((2 : Nat) : Int)) (hi := none) et_var (pa_some ev_int) pa_none (sw_from (i := 2))) ev_var ⟨_, _, rfl, rfl, a3.drop _, w1, w2, fun n h => (hnum n h).1⟩).mono fun d h => h _ _ rfl rfl) (ar_consd (ev_wrd (i := 1) rfl (by omega)) (ar_consd ev_var ar_nil)))
    (ar_consd (ev_orV ev_var (fun _ => ev_var)) (ar_consd ev_var ar_nil)) rfl rfl (fun H a vs ws hv hw => ⟨vs ++ ws ++ [.bl false], rfl, (hv.append hw).append (.cons (.bl false) .nil)⟩) rfl) (end_ _ ?_)
  rw [el]
  unfold layG
  rw [if_neg (by rw [f1]; decide), if_neg (by rw [f2]; decide)]

/-! _first_wrong -/
theorem k_first_wrong (D : Dn K mg "_first_wrong" s_first_wrong ["written"]) (B : Bi mg) (B2 : Bi2 mg) (C : Cs mg) (CL : Cls K (He.ga K "Layer")) (NW : NoAttr K (He.ga K "Layer") "width")
    (k_read_layer : Kn P w K mg base 5 "read_layer" ["value"] (sp1 K (fun x => (Pl x ∧ tyN x ≠ "str") ∨ ∃ u, x = dS u ∧ AscW (wordsF u) ∧ u.length ≤ 1000) (fun x d => (tyN x ≠ "str" → d = .none) ∧ ∀ u, x = dS u → d = layF u))) :
    Kn P w K mg base 6 "_first_wrong" ["written"] (sp1 K (fun x => ∃ ds, (x = .list ds ∨ x = .tuple ds) ∧ ∀ y ∈ ds, okL y) (fun x d => ∀ ds, (x = .list ds ∨ x = .tuple ds) → d = oInt (firstF ds 0 0))) := by
  refine kn_of1 D sc_first_wrong (by decide) fun f cdv A outer s H E hr hu => ⟨_, (pss_cons (ps_set (i := 1) sc_first_wrong.nd rfl (by first | exact Or.inl rfl | exact Or.inr rfl) pe_int)
      (pss_cons (ps_for PassesOwn.never rfl (kpi_enum (K := K) rfl (pa_cons (pv 0) pa_nil) (by rfl) B2.enum) (kpg_pair (K := K) (i := 2) (j := 3) rfl rfl sc_first_wrong.nd rfl rfl (by first | exact Or.inl rfl | exact Or.inr rfl) (by first | exact Or.inl rfl | exact Or.inr rfl)) (pss_cons (ps_set (i := 4) sc_first_wrong.nd rfl (by first | exact Or.inl rfl | exact Or.inr rfl) (pe_callN k_read_layer (hr.mono (by decide)) (pa_cons (pv 3) pa_nil)))
      (pss_cons (ps_if (pw_or (pt_cmpR (kop_eq (K := K) rfl hu) (pv 2) (pe_gi C.MOST_LAYERS) (nomark _)) (pw_or1 (pt_cmpR op_is_non (pv 4) pe_non (nomark _)))).pt (pss_one (ps_ret (pv 2))) pss_nil)
      (pss_cons (ps_aug (i := 1) sc_first_wrong.nd rfl (by first | exact Or.inl rfl | exact Or.inr rfl) (kpe_fld (K := K) rfl (pv 4)) ip_add)
      (pss_one (ps_if (pt_cmpR op_gt (pv 1) (pe_gi C.MOST_WIDTH) (nomark _)) (pss_one (ps_ret (pv 2))) pss_nil))))))
      (pss_one (ps_ret pe_non)))), fun Y x ⟨ds, hx, hok⟩ => ?_⟩
  have end_ : ∀ d, d = oInt (firstF ds 0 0) → ∀ ds', (x = .list ds' ∨ x = .tuple ds') → d = oInt (firstF ds' 0 0) := fun d e ds' hx' => by
    have eq : ds = ds' := by
      rcases hx with rfl | rfl <;> rcases hx' with z | z
      · injection z
      · cases z
      · cases z
      · injection z
    rw [← eq]
    exact e
  refine qs_setd (d := .int 0) ev_int ?_
  refine ss_seq (M := fun e => firstF ds 0 0 = none) (ss_forE (d := x) ev_var hx (fun k e => ∃ (n : Nat) (a b c : Ent), e = [.dat x, .dat (.int n), a, b, c] ∧ firstF (ds.drop k) k n = firstF ds 0 0) ⟨0, _, _, _, rfl, rfl⟩ (fun k y e hy ⟨n, a, b, c, he, hf⟩ => ?_) (fun e ⟨n, a, b, c, he, hf⟩ => ?_)) (fun e he => ss_retd ev_non (end_ _ (by rw [he]; rfl)))
  · subst he
    have hd : ds.drop k = y :: ds.drop (k + 1) := by
      have hk : k < ds.length := by
        rcases Nat.lt_or_ge k ds.length with z | z
        · exact z
        · rw [List.getElem?_eq_none z] at hy
          cases hy
      rw [List.drop_eq_getElem_cons hk]
      congr 1
      exact Option.some.inj ((List.getElem?_eq_getElem hk).symm.trans hy)
    rw [hd] at hf
    have oky := hok y (List.mem_of_getElem? hy)
    refine qs_setd (d := lyF y) ((ev_c1 (x := y) ev_var oky).mono fun d h => lyF_of oky h) ?_
    refine qs_whend (bb := (decide (k = 4) || isNo (lyF y))) (tb_ord ((tb_testd (ev_opd et_var et_int os_eqI)).mono fun d e => e.trans (decide_eq_decide.mpr (by omega))) (fun _ => tb_testd (ev_opd et_var ev_non.tt os_isN))) (fun e => ?_) (fun e => ?_)
    · exact ss_retd ev_var (end_ _ (by rw [← hf]; unfold firstF; rw [if_pos e]; rfl))
    have f1 := e
    have hno : isNo (lyF y) = false := (Bool.or_eq_false_iff.mp e).2
    obtain ⟨m, sc, sp, own, ft, cl, el⟩ : ∃ m sc sp own ft cl, lyF y = layD m sc sp own ft cl := by
      rcases lyF_is y with z | z
      · rw [z] at hno
        cases hno
      · exact z
    have ew : widD (lyF y) = m := by rw [el]; rfl
    refine qs_aug (c := (m : Int)) rfl (ev_fld (ks := layFl) (x := .int m) (EvD.to ev_var el) rfl CL NW rfl) ?_
    refine ss_ifd (bb := decide (8 < n + m)) ((tb_testd (ev_opd et_var et_int os_gt)).mono fun d e => e.trans (decide_eq_decide.mpr (by omega))) (fun e => ?_) (fun e => ?_)
    · exact ss_retd ev_var (end_ _ (by rw [← hf]; unfold firstF; rw [if_neg (by rw [f1]; decide), ew, if_pos (of_decide_eq_true e)]; rfl))
    · refine ss_next ⟨n + m, _, _, _, rfl, ?_⟩
      rw [← hf]
      conv => rhs; unfold firstF
      rw [if_neg (by rw [f1]; decide), ew, if_neg (of_decide_eq_false e)]
  · show firstF ds 0 0 = none
    rw [← hf, List.drop_length]
    rfl

/-! Program.__init__, of good layers -/
theorem f_Program_init {q : Str} {fI : Addr} {fd : FuncData} (F : Fun K "__init__" q s_Program___init__ fI fd) (B : Bi mg) (CP : Cls K (He.ga K "Program")) (NL : NoAttr K (He.ga K "Program") "_layers")
    (k_first_wrong : Kn P w K mg base 6 "_first_wrong" ["written"] (sp1 K (fun x => ∃ ds, (x = .list ds ∨ x = .tuple ds) ∧ ∀ y ∈ ds, okL y) (fun x d => ∀ ds, (x = .list ds ∨ x = .tuple ds) → d = oInt (firstF ds 0 0)))) :
    FnOk P w K mg base CX0 7 fI fd ["self", "layers"] (spProg K (He.ga K "Program")) := by
  refine F.ok sc_Program___init__ (fun vs H Q E h => by obtain ⟨_, _, _, _, _, _, e, _⟩ := h; rw [e]; rfl) (fun cdv A outer s H vs Q E hr h => ?_)
  have hu : (A.deeper (envOfC q (defScope s_Program___init__) s.heap.objs.size fI cdv)).units + 64 < cLine := by have := hr.un; omega
  refine ⟨_, (pss_cons (ps_if (pw_or (pt_not (pt_val (pe_callB (kc_isi (K := K) rfl) (by rfl) B.isi bt_isi (pa_cons (pv 1) (pa_cons (pe_bltn (v := .ty "tuple") (by rfl) B.tuple bt_tup rfl) pa_nil))))) (pw_or1 (pt_cmpR (kop_eq (K := K) rfl hu) (pe_callB (kc_len (K := K) rfl) (by rfl) B.len boot_len (pa_cons (pv 1) pa_nil)) pe_int (nomark _)))).pt (pss_one ps_never) pss_nil)
      (pss_cons (ps_set (i := 2) sc_Program___init__.nd rfl (by first | exact Or.inl rfl | exact Or.inr rfl) (pe_callN k_first_wrong (hr.mono (by decide)) (pa_cons (pv 1) pa_nil)))
      (pss_cons (ps_if (pt_cmpR op_isnot_non (pv 2) pe_non (nomark _)) (pss_one ps_never) pss_nil)
      (pss_one (ps_fld (pv 0) (pv 1) rfl))))), ?_⟩
  obtain ⟨a, dx, v, Y, Hi, ls, rfl, ha, p, wa, hv, g, q⟩ := h
  have st : StIs Y K Hi H Hi H (L2.start ["self", "layers", "wrong"] [.ref a, v]) [.raw (.ref a), .dat (.tuple ls), .unk] := st0 p (by show 2 ≤ 3; decide) rfl fun i e hi => by
    match i, hi with
    | 0, hi => cases hi; exact .inr ⟨_, rfl, .inr rfl⟩
    | 1, hi => cases hi; exact .inr ⟨_, rfl, .inl ⟨_, rfl, hv⟩⟩
    | 2, hi => cases hi; exact .inl rfl
  refine st_skip st (tb_ord (b := false) (c := false) (tb_notd (b := true) (tb_Bd (ev_isPl (w := .ty "tuple") et_var (show Pl (.tuple ls) from True.intro) (.ty "tuple") (kit_ty (show kitB "tuple" "tuple" = some true by decide +kernel))))) (fun _ => (tb_testd (ev_opd (ev_cb1d et_var (cb_lenT (ds := ls))).tt et_int os_eqI)).mono fun d e => e.trans (by
    have h0 : ls.length ≠ 0 := fun z => g.ne (List.eq_nil_of_length_eq_zero z)
    exact decide_eq_false (by omega)))) fun Hi1 H1 m1 s1 => ?_
  refine st_set s1 (d := .none) ((ev_c1 (x := .tuple ls) ev_var ⟨ls, .inr rfl, g.ok⟩).mono fun d h => (h ls (.inr rfl)).trans (by rw [g.fs]; rfl)) fun wv Hi2 H2 m2 s2 => ?_
  refine st_skip s2 ((tb_testd (ev_opd (et_var (d := .none)) ev_non.tt os_isnotN)).mono fun d e => e) fun Hi3 H3 m3 s3 => ?_
  have f := s3.fr
  exact ⟨v, rfl, .ref a, rfl, a, _, dx, [], rfl, f.keep a _ ha wa not_tb_ins, CP, NL, by decide, q Hi3 H3 f⟩

/-! Program.layers -/
theorem f_Program_layers {q : Str} {fI : Addr} {fd : FuncData} (F : Fun K "layers" q s_Program_layers fI fd) (CP : Cls K (He.ga K "Program")) (NL : NoAttr K (He.ga K "Program") "_layers") :
    FnOk P w K mg base CX0 1 fI fd ["self"] (sp1 K (fun x => ∃ ls, x = progD ls) (fun x d => ∀ ls, x = progD ls → d = .tuple ls)) := by
  refine fn_ofD1 F sc_Program_layers (by decide) fun cdv A outer s H E hr hu => ⟨_, (pss_one (ps_ret (kpe_fld (K := K) rfl (pv 0)))), fun Y x ⟨ls, e⟩ => ?_⟩
  subst e
  exact ss_retd (ev_fld (ks := ["_layers"]) (x := .tuple ls) ev_var rfl CP NL rfl) fun ls' e => by rw [progD_inj e]

/-! Program.__len__ -/
theorem f_Program_len {q : Str} {fI : Addr} {fd : FuncData} (F : Fun K "__len__" q s_Program___len__ fI fd) (B : Bi mg) (CP : Cls K (He.ga K "Program")) (NL : NoAttr K (He.ga K "Program") "_layers") :
    FnOk P w K mg base CX0 1 fI fd ["self"] (sp1 K (fun x => ∃ ls, x = progD ls) (fun x d => ∀ ls, x = progD ls → d = .int ls.length)) := by
  refine fn_ofD1 F sc_Program___len__ (by decide) fun cdv A outer s H E hr hu => ⟨_, (pss_one (ps_ret (pe_callB (kc_len (K := K) rfl) (by rfl) B.len boot_len (pa_cons (kpe_fld (K := K) rfl (pv 0)) pa_nil)))), fun Y x ⟨ls, e⟩ => ?_⟩
  subst e
  exact ss_retd (ev_cb1d (ev_fld (ks := ["_layers"]) (x := .tuple ls) ev_var rfl CP NL rfl).tt (cb_lenT (ds := ls))) fun ls' e => by rw [progD_inj e]

/-! Program.__eq__ -/
theorem f_Program_eq {q : Str} {fI : Addr} {fd : FuncData} (F : Fun K "__eq__" q s_Program___eq__ fI fd) (B : Bi mg) (GP : mg "Program" = some (.ref (He.ga K "Program"))) (OP : ObC K (He.ga K "Program")) (NL : NoAttr K (He.ga K "Program") "_layers")
    (k1 : PySem.W.kitOne K (.ref (He.ga K "Program")) (.ref (He.ga K "Program")) = some true) (k0 : ∀ t ∈ ["NoneType", "bool", "int", "str", "list", "tuple", "dict"], PySem.W.kitOne K (.type t) (.ref (He.ga K "Program")) = some false) :
    FnOk P w K mg base CX0 1 fI fd ["self", "other"] (sp2 K (fun x y => ∃ a : List (List Nat), x = progD (a.map dS) ∧ AscW a ∧ (Pl y ∨ ∃ b : List (List Nat), y = progD (b.map dS) ∧ AscW b)) (fun x y d => (Pl y → d = .bool false) ∧ ∀ (a b : List (List Nat)), x = progD (a.map dS) → y = progD (b.map dS) → d = .bool (decide (a = b)))) := by
  refine fn_ofD2 F sc_Program___eq__ (by decide) fun cdv A outer s H E hr hu => ⟨_, (pss_one (ps_ret (pe_and (pe_callB (kc_isi (K := K) rfl) (by rfl) B.isi bt_isi (pa_cons (pv 1) (pa_cons (pe_gr GP) pa_nil))) (pe_one (pe_cmpR (kop_eq (K := K) rfl hu) (kpe_fld (K := K) rfl (pv 0)) (kpe_fld (K := K) rfl (pv 1)) (nomark _)))))), fun Y x y ⟨a, e, ha, hy⟩ => ?_⟩
  subst e
  rcases hy with hp | ⟨b, e, hb⟩
  · have hk : PySem.W.kitOne K (.type (tyN y)) (.ref (He.ga K "Program")) = some false := by
      cases y with
      | none => exact k0 "NoneType" (by decide)
      | bool _ => exact k0 "bool" (by decide)
      | int _ => exact k0 "int" (by decide)
      | str _ => exact k0 "str" (by decide)
      | list _ => exact k0 "list" (by decide)
      | tuple _ => exact k0 "tuple" (by decide)
      | dict _ => exact k0 "dict" (by decide)
    refine ss_retd (d := .bool false) (EvD.to (ev_andV (b := false) (c := false) (ev_isPl (w := .ref _) et_var hp (.own _) hk) (fun z => by cases z)) rfl) ⟨fun _ => rfl, fun a' b' _ z => ?_⟩
    subst z
    obtain ⟨kvs, z⟩ := hp
    exact (no_kvs2 z).elim
  · subst e
    have sh : ∀ {u : List (List Nat)}, AscW u → SeqAt.shaped (.tuple (u.map dS)) = true := fun h => shaped_W h
    have ev : ∀ u v : List (List Nat), (PyData.tuple (u.map dS)).eqv (.tuple (v.map dS)) = decide (u = v) := fun u v => eqvAll_W u v
    refine ss_retd (d := .bool (decide (a = b))) (EvD.to (ev_andV (b := true) (c := decide (a = b)) (ev_isObj (ks := ["_layers"]) et_var rfl (.own _) k1 OP) (fun _ => EvD.to (ev_opd (ev_fld (ks := ["_layers"]) (x := .tuple (a.map dS)) ev_var rfl OP.cl NL rfl).tt (ev_fld (ks := ["_layers"]) (x := .tuple (b.map dS)) ev_var rfl OP.cl NL rfl).tt (os_eqD (sh ha) (sh hb))) (by rw [ev]))) rfl) ⟨fun z => ?_, fun a' b' ea eb => ?_⟩
    · obtain ⟨kvs, z⟩ := z
      exact (no_kvs2 z).elim
    · have e1 : dW a = dW a' := by rw [show dW a = .list (a.map dS) from rfl, progD_inj ea]
      have e2 : dW b = dW b' := by rw [show dW b = .list (b.map dS) from rfl, progD_inj eb]
      rw [dW_injW e1, dW_injW e2]

/-! Program.__str__ -/
theorem f_Program_str {q : Str} {fI : Addr} {fd : FuncData} (F : Fun K "__str__" q s_Program___str__ fI fd) (CP : Cls K (He.ga K "Program")) (NL : NoAttr K (He.ga K "Program") "_layers") :
    FnOk P w K mg base CX0 1 fI fd ["self"] (sp1 K (fun x => ∃ a : List (List Nat), x = progD (a.map dS) ∧ (a.map (·.length)).sum + a.length ≤ 1000000) (fun x d => ∀ a : List (List Nat), x = progD (a.map dS) → d = dS (TL.joinL [10] a))) := by
  refine fn_ofD1 F sc_Program___str__ (by decide) fun cdv A outer s H E hr hu => ⟨_, (pss_one (ps_ret (kpe_bm (K := K) rfl PySem.F.plainAttrs_str PySem.F.slot_str_join PySem.F.type_str_join (km_join (K := K) rfl) pe_str (pa_cons (kpe_fld (K := K) rfl (pv 0)) pa_nil)))), fun Y x ⟨a, e, hl⟩ => ?_⟩
  subst e
  refine ss_retd (ev_m1 (a := dS [10]) rfl (et_s (l := [10])) (ev_fld (ks := ["_layers"]) (x := .tuple (a.map dS)) ev_var rfl CP NL rfl).tt (mt_joinT (a := [10]) (ys := a) (by show _ + a.length * 1 ≤ _; omega))) fun a' e => ?_
  have e1 : dW a = dW a' := by rw [show dW a = .list (a.map dS) from rfl, progD_inj e]
  rw [dW_injW e1]

/-! check_program, of a program -/
theorem k_check_program (D : Dn K mg "check_program" s_check_program ["value"]) (B : Bi mg) (PO : ProgO P w K mg base) : Kn P w K mg base 1 "check_program" ["value"] (sp1 K (fun x => ∃ ls, x = progD ls) (fun _ d => d = .none)) := by
  refine kn_of1 D sc_check_program (by decide) fun f cdv A outer s H E hr hu => ⟨_, (pss_one (ps_if (pt_not (pt_val (pe_callB (kc_isi (K := K) rfl) (by rfl) B.isi bt_isi (pa_cons (pv 0) (pa_cons (pe_gr PO.gm) pa_nil))))) (pss_one ps_never) pss_nil)), fun Y x ⟨ls, e⟩ => ?_⟩
  subst e
  exact ss_ifd (bb := false) (tb_notd (b := true) (tb_Bd (ev_isPr PO ev_var))) (fun e => by cases e) fun _ => ss_next rfl

/-! Program.then -/
theorem f_Program_then {q : Str} {fI : Addr} {fd : FuncData} (F : Fun K "then" q s_Program_then fI fd) (B : Bi mg) (CP : Cls K (He.ga K "Program")) (NL : NoAttr K (He.ga K "Program") "_layers") (PO : ProgO P w K mg base)
    (k_check_program : Kn P w K mg base 1 "check_program" ["value"] (sp1 K (fun x => ∃ ls, x = progD ls) (fun _ d => d = .none))) : FnOk P w K mg base CX0 9 fI fd ["self", "other"] (spThen K) := by
  refine fn_ofD2 F sc_Program_then (by decide) fun cdv A outer s H E hr hu => ⟨_, (pss_cons (ps_expr (pe_callN k_check_program (hr.mono (by decide)) (pa_cons (pv 1) pa_nil)))
      (pss_one (ps_ret (kpe_mkP (K := K) rfl PO (hr.mono (by decide)) (pa_cons (pe_op (kop_add (K := K) rfl) (kpe_fld (K := K) rfl (pv 0)) (kpe_layP (K := K) rfl PO (hr.mono (by decide)) (pv 1))) pa_nil))))), fun Y x y ⟨a, b, e1, e2, hg⟩ => ?_⟩
  subst e1 e2
  have hl := hg.len
  rw [List.length_append] at hl
  refine ss_seq (M := fun e => e = [.dat (progD (a.map dS)), .dat (progD (b.map dS))]) (ss_expr (P := fun _ => True) ((ev_c1 ev_var ⟨_, rfl⟩).mono fun _ _ => trivial) rfl) ?_
  rintro _ rfl
  refine ss_retd (d := progD ((a ++ b).map dS)) (ev_mkProg (ar_consd (EvD.to (ev_opd (EvD.tt (ev_fld (ks := ["_layers"]) (x := .tuple (a.map dS)) ev_var rfl CP NL rfl)) (ev_layP ev_var).tt (os_addT (by rw [List.length_map, List.length_map]; omega))) (by rw [List.map_append])) ar_nil) hg.good) fun a' b' h1 h2 => ?_
  have inj : ∀ {u v : List (List Nat)}, progD (u.map dS) = progD (v.map dS) → u = v := fun {u v} h => dW_injW (show dW u = dW v by rw [show dW u = .list (u.map dS) from rfl, progD_inj h])
  rw [inj h1, inj h2]

end
end FRL
set_option maxRecDepth 100000
set_option maxHeartbeats 4000000
namespace FRL
open PySem PySem.Spec PyProof.Rows L2 FR
section
variable {P : Program} {w : World} {K : PySem.W.Frag} {mg : Str → Option Value} {base : Heap}
/-! layers_of -/
theorem k_layers_of (D : Dn K mg "layers_of" s_layers_of ["program"]) (PO : ProgO P w K mg base)
    (k_read_layer : Kn P w K mg base 5 "read_layer" ["value"] (sp1 K (fun x => (Pl x ∧ tyN x ≠ "str") ∨ ∃ u, x = dS u ∧ AscW (wordsF u) ∧ u.length ≤ 1000) (fun x d => (tyN x ≠ "str" → d = .none) ∧ ∀ u, x = dS u → d = layF u))) :
    Kn P w K mg base 6 "layers_of" ["program"] (sp1 K (fun x => ∃ ss : List Sd, x = progD ((ss.map txF).map dS) ∧ (∀ s ∈ ss, s ∈ sdAll) ∧ ss.length ≤ 1000) (fun x d => ∀ ss : List Sd, x = progD ((ss.map txF).map dS) → (∀ s ∈ ss, s ∈ sdAll) → d = .list ((ss.map lyOf).map lyD))) := by
  refine kn_of1 D sc_layers_of (by decide) fun f cdv A outer s H E hr hu => ⟨_, (pss_one (ps_ret (pe_lc (own := [("layer", 1)]) (g := gName 1) (tt := tYes) rfl sc_layers_of.nd (kpi_seq (K := K) rfl (kpe_layP (K := K) rfl PO (hr.mono (by decide)) (pv 0))) (blkOk_by (N := ["program", "layer"]) (sc := defScope s_layers_of) (by decide +kernel)) (fun _ _ _ _ _ => pg_name (i := 1) sc_layers_of.nd rfl (Or.inl rfl)) (fun _ _ _ _ _ => pts_nil) (fun _ _ _ _ _ => (pe_callN k_read_layer (hr.mono (by decide)) (pa_cons (pv 1) pa_nil)))))), fun Y x ⟨ss, e, hs, hl⟩ => ?_⟩
  subst e
  refine ss_retd (d := .list ((ss.map lyOf).map lyD)) (EvD.mono (ev_lcT (ds := (ss.map txF).map dS) (ev_layP ev_var) (fun _ => true) (fun d y => ∀ s, s ∈ sdAll → d = dS (txF s) → y = lyD (lyOf s)) (fun _ _ => tb_yes) (fun d hd _ => ?_) (by rw [List.length_map, List.length_map]; omega)) fun r ⟨ys, e, q⟩ => ?_) ?_
  · rw [List.map_map] at hd
    obtain ⟨s, hs1, rfl⟩ := List.mem_map.mp hd
    have hm := hs s hs1
    have g := sdAll_good hm
    refine (ev_c1 (x := dS (txF s)) ev_var (.inr ⟨txF s, rfl, g.wa, by have := g.len; omega⟩)).mono fun d h b hb e => ?_
    rw [h.2 (txF s) rfl, layF_sd hm, ly_same hm hb (dS_inj e)]
  · rw [List.filter_eq_self.mpr (fun _ _ => rfl), List.map_map] at q
    rw [e, List.map_map]
    exact congrArg PyData.list (paired_ofW (W := fun s => s ∈ sdAll) (f := dS ∘ txF) (g := lyD ∘ lyOf) hs q)
  · intro ss' h hs'
    have e : ss.map txF = ss'.map txF := dW_injW (show dW (ss.map txF) = dW (ss'.map txF) by rw [show dW (ss.map txF) = .list ((ss.map txF).map dS) from rfl, progD_inj h])
    rw [same_ly hs hs' e]

/-! taken_lists -/
theorem k_taken_lists (D : Dn K mg "taken_lists" s_taken_lists ["layer", "line"]) (B : Bi mg) (B2 : Bi2 mg) (C : Cs mg) (LC : LyC K)
    (ML : MthO P w K mg base "Span" "leads" 2 ["self", "step"] (spLeads K)) (MK : MthO P w K mg base "Layer" "keeps" 1 ["self", "sign"] (spSign K keepsB)) (MA : MthO P w K mg base "Layer" "asks" 1 ["self", "sign"] (spSign K asksB)) (MS_ : MthO P w K mg base "Layer" "sees" 1 ["self", "sign"] (spSign K seesB))
    (k_signs : Kn P w K mg base 1 "signs" ["line"] (sp1 K (fun d => ∃ ns, d = dL ns ∧ lineB ns = true) (fun x d => ∀ ns, x = dL ns → d = dI (sigN ns))))
    (k_piece_of_each : Kn P w K mg base 1 "_piece_of_each" ["line"] (sp1 K (fun d => ∃ ns, d = dL ns ∧ lineB ns = true) (fun x d => ∀ ns, x = dL ns → d = dI (pcB 0 ns)))) :
    Kn P w K mg base 3 "taken_lists" ["layer", "line"] (sp2 K (fun x y => ∃ (L : Ly) (ns : List Int), x = lyD L ∧ y = dL ns ∧ lineB ns = true ∧ 0 < L.m) (fun x y d => ∀ (L : Ly) (ns : List Int), x = lyD L → y = dL ns → d = .list ((takenF L ns).map dI))) := by
  refine kn_of2 D sc_taken_lists (by decide) fun f cdv A outer s H E hr hu => ⟨_, (pss_cons (ps_set (i := 2) sc_taken_lists.nd rfl (by first | exact Or.inl rfl | exact Or.inr rfl) (pe_callN k_signs (hr.mono (by decide)) (pa_cons (pv 1) pa_nil)))
      (pss_cons (ps_set (i := 3) sc_taken_lists.nd rfl (by first | exact Or.inl rfl | exact Or.inr rfl) (pe_callN k_piece_of_each (hr.mono (by decide)) (pa_cons (pv 1) pa_nil)))
      (pss_cons (ps_set (i := 4) sc_taken_lists.nd rfl (by first | exact Or.inl rfl | exact Or.inr rfl) (pe_lst pa_nil))
      (pss_cons (ps_for PassesOwn.never rfl (kpi_enum (K := K) rfl (pa_cons (pv 2) pa_nil) (by rfl) B2.enum) (kpg_pair (K := K) (i := 5) (j := 6) rfl rfl sc_taken_lists.nd rfl rfl (by first | exact Or.inl rfl | exact Or.inr rfl) (by first | exact Or.inl rfl | exact Or.inr rfl)) (pss_cons (ps_set (i := 7) sc_taken_lists.nd rfl (by first | exact Or.inl rfl | exact Or.inr rfl) (pe_lst pa_nil))
      (pss_cons (ps_for PassesOwn.never rfl (kpi_enum (K := K) rfl (pa_cons (pv 2) pa_nil) (by rfl) B2.enum) (kpg_pair (K := K) (i := 8) (j := 9) rfl rfl sc_taken_lists.nd rfl rfl (by first | exact Or.inl rfl | exact Or.inr rfl) (by first | exact Or.inl rfl | exact Or.inr rfl)) (pss_cons (ps_if (pt_cmpR (kop_eq (K := K) rfl hu) (pv 8) (pv 5) (nomark _)) (pss_one (ps_set (i := 10) sc_taken_lists.nd rfl (by first | exact Or.inl rfl | exact Or.inr rfl) (kpe_methO (K := K) rfl MK LC.cl (hr.mono (by decide)) (pv 0) (pa_cons (pv 6) pa_nil)))) (pss_one (ps_if (pw_and (pt_cmpR (kop_eq (K := K) rfl hu) (kpe_fld (K := K) rfl (pv 0)) (pe_gs C.ROW) (nomark _)) (pw_and1 (pt_cmpR (kop_ne (K := K) rfl hu) (pe_ix (kix (K := K) rfl) (pv 3) (pv 8) (fun _ _ => rfl)) (pe_ix (kix (K := K) rfl) (pv 3) (pv 5) (fun _ _ => rfl)) (nomark _)))).pt (pss_one (ps_set (i := 10) sc_taken_lists.nd rfl (by first | exact Or.inl rfl | exact Or.inr rfl) pe_bl)) (pss_cons (ps_set (i := 10) sc_taken_lists.nd rfl (by first | exact Or.inl rfl | exact Or.inr rfl) (pe_and (kpe_methO (K := K) rfl MA LC.cl (hr.mono (by decide)) (pv 0) (pa_cons (pv 6) pa_nil)) (pe_one (kpe_methO (K := K) rfl MS_ LC.cl (hr.mono (by decide)) (pv 0) (pa_cons (pv 9) pa_nil)))))
      (pss_one (ps_set (i := 10) sc_taken_lists.nd rfl (by first | exact Or.inl rfl | exact Or.inr rfl) (pe_and (pv 10) (pe_one (kpe_methO (K := K) rfl ML LC.cs (hr.mono (by decide)) (kpe_fld (K := K) rfl (pv 0)) (pa_cons (pe_op op_sub (pv 8) (pv 5)) pa_nil))))))))))
      (pss_one (ps_if (pt_val (pv 10)) (pss_one (ps_expr (kpe_bm (K := K) rfl PySem.F.plainAttrs_list PySem.F.slot_list_append PySem.F.type_list_append mt_append (pv 7) (pa_cons (pv 8) pa_nil)))) pss_nil))))
      (pss_one (ps_expr (kpe_bm (K := K) rfl PySem.F.plainAttrs_list PySem.F.slot_list_append PySem.F.type_list_append mt_append (pv 4) (pa_cons (pv 7) pa_nil)))))))
      (pss_one (ps_ret (pv 4))))))), fun Y x y ⟨L, ns, e1, e2, hn, hm⟩ => ?_⟩
  subst e1 e2
  obtain ⟨hok, hne, hs⟩ := lineB_inv hn
  have ls := sigN_len hok.nz
  have lp := pcB_len 0 ns
  have hN : (sigN ns).length ≤ 60 := by omega
  have hP : (pcB 0 ns).length = (sigN ns).length := by omega
  refine qs_setd (d := dI (sigN ns)) ((ev_c1 ev_var ⟨ns, rfl, hn⟩).mono fun d h => h ns rfl) ?_
  refine qs_setd (d := dI (pcB 0 ns)) ((ev_c1 ev_var ⟨ns, rfl, hn⟩).mono fun d h => h ns rfl) ?_
  refine qs_own ar_nil ?_
  have at_ : ∀ {l : List Int} {k : Nat} {d : PyData}, (l.map PyData.int)[k]? = some d → k < l.length ∧ d = .int (l.getD k 0) := fun {l k d} h => by
    rw [List.getElem?_map] at h
    cases q : l[k]? with
    | none => rw [q] at h; cases h
    | some n =>
      rw [q] at h
      cases h
      exact ⟨(List.getElem?_eq_some_iff.mp q).1, by rw [getD_of q]⟩
  have ix_ : ∀ {es : List Ent} {te ue : TE} {k : Nat}, EvD Y K es te (· = dI (pcB 0 ns)) → EvD Y K es ue (· = .int (k : Int)) → k < (sigN ns).length → EvD Y K es (tOp (rIx K) te ue) (· = .int ((pcB 0 ns).getD k 0)) := fun {es te ue k} h1 h2 hk => ev_opd h1.tt h2.tt (os_ixL (atI_nat (by rw [List.getElem?_map, List.getElem?_eq_getElem (by omega)]; simp [List.getD, List.getElem?_eq_getElem (show k < (pcB 0 ns).length by omega)])))
  refine ss_seq (M := fun e => ∃ z1 z2 z3 z4 z5 z6, e = [.dat (lyD L), .dat (dL ns), .dat (dI (sigN ns)), .dat (dI (pcB 0 ns)), .own ((takenF L ns).map dI), z1, z2, z3, z4, z5, z6]) ?_ ?_
  · refine ss_forE (d := dI (sigN ns)) ev_var (.inl rfl) (fun k e => ∃ z1 z2 z3 z4 z5 z6, e = [.dat (lyD L), .dat (dL ns), .dat (dI (sigN ns)), .dat (dI (pcB 0 ns)), .own (((List.range k).map (takesL L ns)).map dI), z1, z2, z3, z4, z5, z6]) ⟨_, _, _, _, _, _, rfl⟩ ?_ ?_
    case refine_2 =>
      rintro e ⟨z1, z2, z3, z4, z5, z6, h⟩
      refine ⟨z1, z2, z3, z4, z5, z6, ?_⟩
      rw [h, List.length_map]
      rfl
    rintro x d _ hd ⟨z1, z2, z3, z4, z5, z6, rfl⟩
    obtain ⟨hx, rfl⟩ := at_ hd
    refine qs_own ar_nil ?_
    refine ss_seq (M := fun e => ∃ z4 z5 z6, e = [.dat (lyD L), .dat (dL ns), .dat (dI (sigN ns)), .dat (dI (pcB 0 ns)), .own (((List.range x).map (takesL L ns)).map dI), .dat (.int x), .dat (.int ((sigN ns).getD x 0)), .own ((takesL L ns x).map .int), z4, z5, z6]) ?_ ?_
    · refine ss_forE (d := dI (sigN ns)) ev_var (.inl rfl) (fun k e => ∃ z4 z5 z6, e = [.dat (lyD L), .dat (dL ns), .dat (dI (sigN ns)), .dat (dI (pcB 0 ns)), .own (((List.range x).map (takesL L ns)).map dI), .dat (.int x), .dat (.int ((sigN ns).getD x 0)), .own ((((List.range k).filter (takeB L (sigN ns) (pcB 0 ns) x)).map fun z : Nat => (z : Int)).map .int), z4, z5, z6]) ⟨_, _, _, rfl⟩ ?_ ?_
      case refine_2 =>
        rintro e ⟨z4, z5, z6, h⟩
        refine ⟨z4, z5, z6, ?_⟩
        rw [h, List.length_map]
        rfl
      rintro z d _ hd ⟨z4, z5, z6, rfl⟩
      obtain ⟨hz, rfl⟩ := at_ hd
      refine ss_seq (M := fun e => e = [.dat (lyD L), .dat (dL ns), .dat (dI (sigN ns)), .dat (dI (pcB 0 ns)), .own (((List.range x).map (takesL L ns)).map dI), .dat (.int x), .dat (.int ((sigN ns).getD x 0)), .own ((((List.range z).filter (takeB L (sigN ns) (pcB 0 ns) x)).map fun z : Nat => (z : Int)).map .int), .dat (.int z), .dat (.int ((sigN ns).getD z 0)), .dat (.bool (takeB L (sigN ns) (pcB 0 ns) x z))]) ?_ ?_
      · refine ss_ifd (bb := decide (z = x)) ((tb_testd (ev_opd et_var et_var os_eqI)).mono fun d e => e.trans (decide_eq_decide.mpr (by omega))) (fun e => ?_) (fun e => ?_)
        · have e := of_decide_eq_true e
          refine ss_setd (d := .bool (takeB L (sigN ns) (pcB 0 ns) x z)) (EvD.to (ev_sign (mt := "keeps") (by decide) ev_var ev_var) ?_) rfl
          unfold takeB
          rw [if_pos e]
        · have e := of_decide_eq_false e
          refine ss_ifd (bb := decide (L.sc = wRow) && !decide ((pcB 0 ns).getD z 0 = (pcB 0 ns).getD x 0)) (tb_andd (tb_testd (ev_opd (ev_lScope LC ev_var).tt (et_s (l := wRow)) os_eqS')) fun _ => tb_testd (ev_opd (ix_ ev_var ev_var hz).tt (ix_ ev_var ev_var hx).tt os_neI)) (fun q => ?_) (fun q => ?_)
          · refine ss_setd (d := .bool (takeB L (sigN ns) (pcB 0 ns) x z)) (EvD.to ev_bl ?_) rfl
            unfold takeB
            rw [if_neg e, if_pos q]
          · refine qs_setd (d := .bool (asksB L ((sigN ns).getD x 0) && seesB L ((sigN ns).getD z 0))) (ev_andV (ev_sign (mt := "asks") (by decide) ev_var ev_var) fun _ => ev_sign (mt := "sees") (by decide) ev_var ev_var) ?_
            refine ss_setd (d := .bool (takeB L (sigN ns) (pcB 0 ns) x z)) (EvD.to (ev_andV ev_var fun _ => ev_leads hm (ev_lSpan LC ev_var) (ev_opd et_var et_var os_sub)) ?_) rfl
            unfold takeB
            rw [if_neg e, if_neg (by rw [q]; decide)]
      rintro _ rfl
      have hsucc : (List.range (z + 1)).filter (takeB L (sigN ns) (pcB 0 ns) x) = (List.range z).filter (takeB L (sigN ns) (pcB 0 ns) x) ++ (if takeB L (sigN ns) (pcB 0 ns) x z = true then [z] else []) := by
        rw [List.range_succ, List.filter_append, List.filter_cons, List.filter_nil]
      refine ss_ifd (bb := takeB L (sigN ns) (pcB 0 ns) x z) (tb_testd ev_var) (fun q => ?_) (fun q => ?_)
      · refine ss_app (P := (· = .int (z : Int))) (i := 7) rfl ev_var (by rw [List.length_map, List.length_map]; have := List.length_filter_le (takeB L (sigN ns) (pcB 0 ns) x) (List.range z); rw [List.length_range] at this; omega) fun d e => ?_
        subst e
        refine ⟨.dat (.int z), .dat (.int ((sigN ns).getD z 0)), .dat (.bool (takeB L (sigN ns) (pcB 0 ns) x z)), ?_⟩
        rw [hsucc, if_pos q, List.map_append, List.map_append]
        rfl
      · refine ss_next ⟨.dat (.int z), .dat (.int ((sigN ns).getD z 0)), .dat (.bool (takeB L (sigN ns) (pcB 0 ns) x z)), ?_⟩
        rw [hsucc, if_neg (by rw [q]; decide), List.append_nil]
    · rintro _ ⟨z4, z5, z6, rfl⟩
      refine ss_appOwn (i := 4) (j := 7) rfl rfl (by decide) (by rw [List.length_map, List.length_map, List.length_range]; omega) ⟨.dat (.int x), .dat (.int ((sigN ns).getD x 0)), .dat (dI (takesL L ns x)), z4, z5, z6, ?_⟩
      rw [List.range_succ, List.map_append, List.map_append]
      rfl
  · rintro _ ⟨z1, z2, z3, z4, z5, z6, rfl⟩
    exact ss_retOwn rfl fun L' ns' h1 h2 => by rw [lyD_inj h1, dL_injI h2]

/-! _together -/
theorem k_together (D : Dn K mg "_together" s_together ["holds", "places"]) (B : Bi mg) : Kn P w K mg base 1 "_together" ["holds", "places"] (spTog K) := by
  refine kn_of2 D sc_together (by decide) fun f cdv A outer s H E hr hu => ⟨_, (pss_cons (ps_set (i := 2) sc_together.nd rfl (by first | exact Or.inl rfl | exact Or.inr rfl) pe_int)
      (pss_cons (ps_for PassesOwn.never rfl (kpi_seq (K := K) rfl (pv 1)) (pg_name (i := 3) sc_together.nd rfl (by first | exact Or.inl rfl | exact Or.inr rfl)) (pss_one (ps_set (i := 2) sc_together.nd rfl (by first | exact Or.inl rfl | exact Or.inr rfl) (pe_op op_or (pv 2) (pe_ix (kix (K := K) rfl) (pv 0) (pv 3) (fun _ _ => rfl))))))
      (pss_one (ps_ret (pv 2))))), fun Y x y ⟨hs, ps, e1, e2, hp⟩ => ?_⟩
  subst e1 e2
  refine qs_setd (d := .int ((0 : Nat) : Int)) ev_int ?_
  refine ss_seq (M := fun e => ∃ z, e = [.dat (dZ hs), .dat (dZ ps), .dat (.int ((togI hs ps : Nat) : Int)), z]) ?_ ?_
  · refine ss_forL (ds := (zs ps).map .int) ev_var (fun k e => ∃ z, e = [.dat (dZ hs), .dat (dZ ps), .dat (.int ((togI hs (ps.take k) : Nat) : Int)), z]) ⟨_, rfl⟩ ?_ ?_
    · rintro k d e hk ⟨z, rfl⟩
      rw [List.map_map, List.getElem?_map] at hk
      obtain ⟨p, hp1, rfl⟩ := Option.map_eq_some_iff.mp hk
      have hlt := hp p (List.mem_of_getElem? hp1)
      refine ss_set (P := (· = .int ((togI hs (ps.take (k + 1)) : Nat) : Int))) (EvD.to (ev_opd et_var (ev_opd et_var et_var (os_ixL (d := .int ((hs.getD p 0 : Nat) : Int)) (atI_nat ?_))).tt os_or) ?_) fun d e => ⟨.dat (.int (p : Int)), by rw [e]; rfl⟩
      · rw [List.getElem?_map, List.getElem?_map, List.getElem?_eq_getElem hlt]
        simp [List.getD, List.getElem?_eq_getElem hlt]
      · congr 2
        rw [List.take_add_one, hp1]
        unfold togI
        rw [List.foldl_append]
        rfl
    · rintro e ⟨z, rfl⟩
      refine ⟨z, ?_⟩
      rw [List.length_map, List.length_map, List.take_length]
  · rintro _ ⟨z, rfl⟩
    exact ss_retd ev_var fun hs' ps' h1 h2 => by rw [dZ_inj h1, dZ_inj h2]

/-! held_sets -/
theorem k_held_sets (D : DnP K mg "held_sets" s_held_sets ["layers", "line", "rounds"]) (B : Bi mg)
    (k_signs : Kn P w K mg base 1 "signs" ["line"] (sp1 K (fun d => ∃ ns, d = dL ns ∧ lineB ns = true) (fun x d => ∀ ns, x = dL ns → d = dI (sigN ns))))
    (k_taken_lists : Kn P w K mg base 3 "taken_lists" ["layer", "line"] (sp2 K (fun x y => ∃ (L : Ly) (ns : List Int), x = lyD L ∧ y = dL ns ∧ lineB ns = true ∧ 0 < L.m) (fun x y d => ∀ (L : Ly) (ns : List Int), x = lyD L → y = dL ns → d = .list ((takenF L ns).map dI))))
    (k_together : Kn P w K mg base 1 "_together" ["holds", "places"] (spTog K)) : Kn P w K mg base 4 "held_sets" ["layers", "line", "rounds"] (spSets K) := by
  refine knq_of (n := 3) D sc_held_sets rfl (by decide) fun f cdv A outer s H E hr => ?_
  have hu : (A.deeper (envOfC "held_sets" (defScope s_held_sets) s.heap.objs.size f cdv)).units + 64 < cLine := by have := hr.un; omega
  refine ⟨_, (pss_cons (ps_setLc (i := 3) (own := [("layer", 4)]) (g := gName 4) (tt := tYes) rfl sc_held_sets.nd rfl rfl (sw_true rfl rfl rfl (by decide +kernel)) (kpi_seq (K := K) rfl (pv 0)) (blkOk_by (N := ["layers", "line", "rounds", "takings", "layer", "holds", "place", "_", "taking", "places"]) (sc := defScope s_held_sets) (by decide +kernel)) (fun _ _ _ _ _ => pg_name (i := 4) sc_held_sets.nd rfl (Or.inl rfl)) (fun _ _ _ _ _ => pts_nil) (fun _ _ _ _ _ => (pe_callN k_taken_lists (hr.mono (by decide)) (pa_cons (pv 4) (pa_cons (pv 1) pa_nil)))))
      (pss_cons (ps_set (i := 5) sc_held_sets.nd rfl (by first | exact Or.inl rfl | exact Or.inr rfl) (pe_lc (own := [("place", 6)]) (g := gName 6) (tt := tYes) rfl sc_held_sets.nd (pi_range1 (by rfl) B.range (pa_cons (pe_callB (kc_len (K := K) rfl) (by rfl) B.len boot_len (pa_cons (pe_callN k_signs (hr.mono (by decide)) (pa_cons (pv 1) pa_nil)) pa_nil)) pa_nil)) (blkOk_by (N := ["layers", "line", "rounds", "takings", "layer", "holds", "place", "_", "taking", "places"]) (sc := defScope s_held_sets) (by decide +kernel)) (fun _ _ _ _ _ => pg_name (i := 6) sc_held_sets.nd rfl (Or.inl rfl)) (fun _ _ _ _ _ => pts_nil) (fun _ _ _ _ _ => (pe_op op_shl pe_int (pv 6)))))
      (pss_cons (ps_for PassesOwn.never rfl (pi_range1 (by rfl) B.range (pa_cons (pv 2) pa_nil)) (pg_name (i := 7) sc_held_sets.nd rfl (by first | exact Or.inl rfl | exact Or.inr rfl)) (pss_one (ps_for PassesOwn.never rfl (kpi_seq (K := K) rfl (pv 3)) (pg_name (i := 8) sc_held_sets.nd rfl (by first | exact Or.inl rfl | exact Or.inr rfl)) (pss_one (ps_set (i := 5) sc_held_sets.nd rfl (by first | exact Or.inl rfl | exact Or.inr rfl) (pe_lc (own := [("places", 9)]) (g := gName 9) (tt := tYes) rfl sc_held_sets.nd (kpi_seq (K := K) rfl (pv 8)) (blkOk_by (N := ["layers", "line", "rounds", "takings", "layer", "holds", "place", "_", "taking", "places"]) (sc := defScope s_held_sets) (by decide +kernel)) (fun _ _ _ _ _ => pg_name (i := 9) sc_held_sets.nd rfl (Or.inl rfl)) (fun _ _ _ _ _ => pts_nil) (fun _ _ _ _ _ => (pe_callN k_together (hr.mono (by decide)) (pa_cons (pv 5) (pa_cons (pv 9) pa_nil))))))))))
      (pss_one (ps_ret (pv 5)))))), fun Y ds hl ⟨Ls, ns, r, e1, hn, hm, hL, hr6⟩ => ?_⟩
  subst e1
  obtain ⟨hok, hne, hsm⟩ := lineB_inv hn
  have lsn := sigN_len hok.nz
  have hN : (sigN ns).length ≤ 60 := by omega
  refine qs_setd (d := .list ((Ls.map fun L => takenN L ns).map dPl)) (EvD.to (ev_lcLg (l := Ls) lyD (fun L => dPl (takenN L ns)) ev_var (fun L hL1 => (ev_c2 ev_var ev_var ⟨L, ns, rfl, rfl, hn, hm L hL1⟩).mono fun d h b e => ?_) (by omega)) (by rw [List.map_map]; rfl)) ?_
  · rw [h L ns rfl rfl, taken_zs, lyD_inj e]
  refine qs_setd (d := dZ ((List.range (sigN ns).length).map fun k => 2 ^ k)) (EvD.to (ev_lcRd (n := ((sigN ns).length : Int)) (fun k => .int ((2 ^ k : Nat) : Int)) (ar_consd (EvD.to (ev_cb1d (a := dI (sigN ns)) (EvD.tt ((ev_c1 ev_var ⟨ns, rfl, hn⟩).mono fun d h => h ns rfl)) cb_lenL) (by rw [List.length_map])) ar_nil) (fun k hk => ev_opd et_int et_var (os_shl1 (by omega))) (by omega) (by omega)) (by rw [Int.toNat_natCast]; show PyData.list _ = PyData.list (List.map _ (List.map _ (List.map _ _))); rw [List.map_map, List.map_map]; rfl)) ?_
  refine ss_seq (M := fun e => ∃ z4 z6 z7 z8 z9, e = [.dat (.list (Ls.map lyD)), .dat (dL ns), .dat (.int (r : Int)), .dat (.list ((Ls.map fun L => takenN L ns).map dPl)), z4, .dat (dZ (heldI Ls ns r)), z6, z7, z8, z9]) ?_ ?_
  · refine ss_forR1 (n := (r : Int)) (ar_consd ev_var ar_nil) (by omega) (by omega) (fun k e => ∃ z4 z6 z7 z8 z9, e = [.dat (.list (Ls.map lyD)), .dat (dL ns), .dat (.int (r : Int)), .dat (.list ((Ls.map fun L => takenN L ns).map dPl)), z4, .dat (dZ (heldI Ls ns k)), z6, z7, z8, z9]) ⟨_, _, _, _, _, rfl⟩ ?_ ?_
    · rintro k e hk ⟨z4, z6, z7, z8, z9, rfl⟩
      refine ss_forL (ds := (Ls.map fun L => takenN L ns).map dPl) ev_var (fun j e => ∃ z4 z6 z7 z8 z9, e = [.dat (.list (Ls.map lyD)), .dat (dL ns), .dat (.int (r : Int)), .dat (.list ((Ls.map fun L => takenN L ns).map dPl)), z4, .dat (dZ (roundI ((Ls.map fun L => takenN L ns).take j) (heldI Ls ns k))), z6, z7, z8, z9]) ⟨_, _, _, _, _, rfl⟩ ?_ ?_
      · rintro j d e hd ⟨z4, z6, z7, z8, z9, rfl⟩
        rw [List.getElem?_map] at hd
        obtain ⟨T, hT, rfl⟩ := Option.map_eq_some_iff.mp hd
        obtain ⟨L, hL1, rfl⟩ := List.mem_map.mp (List.mem_of_getElem? hT)
        have hlen : (roundI ((Ls.map fun L => takenN L ns).take j) (heldI Ls ns k)).length = (sigN ns).length := by
          have h1 := held_all Ls ns k
          have h2 := round_all (n := (sigN ns).length) (steps := (Ls.map fun L => takenN L ns).take j) (F := heldL Ls ns k) (fun st hst => by
            obtain ⟨L', _, rfl⟩ := List.mem_map.mp (List.mem_of_mem_take hst)
            exact takenN_len L' ns) h1.2.1 h1.2.2
          rw [h1.1, h2.1, List.length_map, h2.2.1]
        refine ss_set (P := (· = dZ (roundI ((Ls.map fun L => takenN L ns).take (j + 1)) (heldI Ls ns k)))) (EvD.to (ev_lcLg (l := takenN L ns) dZ (fun l => .int ((togI (roundI ((Ls.map fun L => takenN L ns).take j) (heldI Ls ns k)) l : Nat) : Int)) ev_var (fun l hl => (ev_c2 ev_var ev_var ⟨_, l, rfl, rfl, fun p hp => by rw [hlen]; exact takenN_lt l hl p hp⟩).mono fun d h b e => by rw [h _ l rfl rfl, dZ_inj e]) (by rw [takenN_len]; omega)) ?_) fun d e => by
          subst e
          exact ⟨_, _, _, _, _, rfl⟩
        rw [List.take_add_one, hT]
        unfold roundI
        rw [List.foldl_append]
        show PyData.list _ = PyData.list (List.map _ (List.map _ (List.map _ (takenN L ns))))
        rw [List.map_map, List.map_map]
        rfl
      · rintro e ⟨z4, z6, z7, z8, z9, rfl⟩
        refine ⟨z4, z6, z7, z8, z9, ?_⟩
        rw [List.length_map, List.take_length]
        rfl
    · rintro e ⟨z4, z6, z7, z8, z9, rfl⟩
      rw [Int.toNat_natCast]
      exact ⟨z4, z6, z7, z8, z9, rfl⟩
  · rintro _ ⟨z4, z6, z7, z8, z9, rfl⟩
    refine ss_retd ev_var fun Ls' ns' r' h => ?_
    injection h with h1 h
    injection h with h2 h
    injection h with h3 _
    rw [lys_inj (PyData.list.inj h1), dL_injI h2, Int.ofNat.inj (PyData.int.inj h3)]

/-! is_rounds -/
theorem k_is_rounds (D : Dn K mg "is_rounds" s_is_rounds ["value"]) (B : Bi mg) (C : Cs mg) (k_is_integer : Kn P w K mg base 1 "is_integer" ["value"] (sp1 K Pl (fun x d => d = .bool (isIntD x)))) : Kn P w K mg base 2 "is_rounds" ["value"] (sp1 K (fun x => ∃ r : Nat, x = .int (r : Int) ∧ 1 ≤ r ∧ r ≤ 6) (fun _ d => d = .bool true)) := by
  refine kn_of1 D sc_is_rounds (by decide) fun f cdv A outer s H E hr hu => ⟨_, (pss_one (ps_ret (pe_and (pe_callN k_is_integer (hr.mono (by decide)) (pa_cons (pv 0) pa_nil)) (pe_one (pe_chain op_le op_le pe_int (pv 0) (pe_gi C.MOST_ROUNDS)))))), fun Y x ⟨r, e, h1, h2⟩ => ?_⟩
  subst e
  refine ss_retd (EvD.to (ev_andV (b := true) (ev_c1 (x := .int (r : Int)) ev_var True.intro) fun _ => ev_chaind (k1 := decide ((1 : Int) ≤ (r : Int))) (k2 := decide ((r : Int) ≤ 6)) et_int et_var os_le ev_int.tt os_le) ?_) rfl
  rw [decide_eq_true (show (1 : Int) ≤ (r : Int) by omega), decide_eq_true (show (r : Int) ≤ 6 by omega)]
  rfl

/-! check_rounds -/
theorem k_check_rounds (D : Dn K mg "check_rounds" s_check_rounds ["rounds"]) (k_is_rounds : Kn P w K mg base 2 "is_rounds" ["value"] (sp1 K (fun x => ∃ r : Nat, x = .int (r : Int) ∧ 1 ≤ r ∧ r ≤ 6) (fun _ d => d = .bool true))) : Kn P w K mg base 3 "check_rounds" ["rounds"] (sp1 K (fun x => ∃ r : Nat, x = .int (r : Int) ∧ 1 ≤ r ∧ r ≤ 6) (fun _ d => d = .none)) := by
  refine kn_of1 D sc_check_rounds (by decide) fun f cdv A outer s H E hr hu => ⟨_, (pss_one (ps_if (pt_not (pt_val (pe_callN k_is_rounds (hr.mono (by decide)) (pa_cons (pv 0) pa_nil)))) (pss_one ps_never) pss_nil)), fun Y x h => ?_⟩
  exact ss_ifd (bb := false) (tb_notd (b := true) (tb_Bd (ev_c1 ev_var h))) (fun e => by cases e) fun _ => ss_next rfl

/-! _held -/
theorem k_held_ (D : Dn K mg "_held" s_held_ ["program", "line", "rounds"]) (B : Bi mg)
    (k_layers_of : Kn P w K mg base 6 "layers_of" ["program"] (sp1 K (fun x => ∃ ss : List Sd, x = progD ((ss.map txF).map dS) ∧ (∀ s ∈ ss, s ∈ sdAll) ∧ ss.length ≤ 1000) (fun x d => ∀ ss : List Sd, x = progD ((ss.map txF).map dS) → (∀ s ∈ ss, s ∈ sdAll) → d = .list ((ss.map lyOf).map lyD))))
    (k_held_sets : Kn P w K mg base 4 "held_sets" ["layers", "line", "rounds"] (spSets K)) (k_members : Kn P w K mg base 1 "members" ["bits"] (spMem K)) : Kn P w K mg base 7 "_held" ["program", "line", "rounds"] (spHeld K) := by
  refine kn_of (n := 3) D sc_held_ rfl (by decide) fun f cdv A outer s H E hr => ?_
  have hu : (A.deeper (envOfC "_held" (defScope s_held_) s.heap.objs.size f cdv)).units + 64 < cLine := by have := hr.un; omega
  refine ⟨_, (pss_cons (ps_set (i := 3) sc_held_.nd rfl (by first | exact Or.inl rfl | exact Or.inr rfl) (pe_callN k_held_sets (hr.mono (by decide)) (pa_cons (pe_callN k_layers_of (hr.mono (by decide)) (pa_cons (pv 0) pa_nil)) (pa_cons (pv 1) (pa_cons (pv 2) pa_nil)))))
      (pss_one (ps_ret (pe_callTy (kc_tup (K := K) rfl) (by rfl) B.tuple bt_tup (pa_cons (pe_lc (own := [("places", 4)]) (g := gName 4) (tt := tYes) rfl sc_held_.nd (kpi_seq (K := K) rfl (pv 3)) (blkOk_by (N := ["program", "line", "rounds", "holds", "places"]) (sc := defScope s_held_) (by decide +kernel)) (fun _ _ _ _ _ => pg_name (i := 4) sc_held_.nd rfl (Or.inl rfl)) (fun _ _ _ _ _ => pts_nil) (fun _ _ _ _ _ => (pe_callTy (kc_tup (K := K) rfl) (by rfl) B.tuple bt_tup (pa_cons (pe_callN k_members (hr.mono (by decide)) (pa_cons (pv 4) pa_nil)) pa_nil)))) pa_nil))))), fun Y ds hl ⟨ss, ns, r, e1, hs, hL, hn, h1, h6⟩ => ?_⟩
  subst e1
  obtain ⟨hok, hne, hsm⟩ := lineB_inv hn
  have lsn := sigN_len hok.nz
  have hN : (sigN ns).length ≤ 60 := by omega
  have hlm : ∀ L ∈ ss.map lyOf, 0 < L.m := fun L hL1 => by
    obtain ⟨s1, hs1, rfl⟩ := List.mem_map.mp hL1
    exact ly_m (hs s1 hs1)
  have ha := held_all (ss.map lyOf) ns r
  have hc := held_asc (ss.map lyOf) ns r
  refine qs_setd (d := dZ (heldI (ss.map lyOf) ns r)) ((ev_call (ds := [.list ((ss.map lyOf).map lyD), dL ns, .int (r : Int)]) (ar_consd ((ev_c1 (x := progD ((ss.map txF).map dS)) ev_var ⟨ss, rfl, hs, hL⟩).mono fun d h => h ss rfl hs) (ar_consd ev_var (ar_consd ev_var ar_nil))) rfl ⟨_, ns, r, rfl, hn, hlm, by rw [List.length_map]; exact hL, by omega⟩).mono fun d h => h _ ns r rfl) ?_
  rw [ha.1]
  have hmk : ∀ l ∈ heldS ss ns r, maskN l < 2 ^ 1000 := fun l hl => Nat.lt_of_lt_of_le (mask_lt (ha.2.2 l hl)) (Nat.pow_le_pow_right (by decide) (by rw [ha.2.1]; omega))
  refine ss_retd (d := .tuple ((heldS ss ns r).map fun l => dL (zs l))) (EvD.to (ev_cb1d (EvD.tt (ev_lcLw Asc1 (l := heldS ss ns r) (fun l => .int ((maskN l : Nat) : Int)) (fun l => dL (zs l)) (EvD.to ev_var (by show PyData.list (List.map _ (List.map _ (List.map _ _))) = PyData.list _; rw [List.map_map, List.map_map]; rfl)) hc (fun l hl => EvD.mono (ev_cb1d (a := dZ (memI (maskN l))) (EvD.tt ((ev_c1 (x := .int ((maskN l : Nat) : Int)) ev_var ⟨maskN l, rfl, hmk l hl⟩).mono fun d h => h _ rfl)) cb_tupL) fun d e b hb eb => by rw [e, Int.ofNat.inj (PyData.int.inj eb), asc_mem hb]) (by show (heldL _ _ _).length < _; rw [ha.2.1]; omega))) cb_tupL) rfl) ?_
  · intro ss' ns' r' hs' h
    injection h with q1 h
    injection h with q2 h
    injection h with q3 _
    have e : ss.map txF = ss'.map txF := dW_injW (show dW (ss.map txF) = dW (ss'.map txF) by rw [show dW (ss.map txF) = .list ((ss.map txF).map dS) from rfl, progD_inj q1])
    unfold heldS
    rw [same_ly hs hs' e, dL_injI q2, Int.ofNat.inj (PyData.int.inj q3)]

/-! held -/
theorem k_held (D : DnB K mg "held" s_held ["program", "line", "rounds"] [.int 1] 2 ["rounds"]) (B : Bi mg)
    (k_check_program : Kn P w K mg base 1 "check_program" ["value"] (sp1 K (fun x => ∃ ls, x = progD ls) (fun _ d => d = .none)))
    (k_check_line : Kn P w K mg base 4 "check_line" ["line"] (sp1 K (fun d => ∃ ns, d = dL ns ∧ lineB ns = true ∧ ns.length < 1000000) (fun x d => d = .none)))
    (k_check_rounds : Kn P w K mg base 3 "check_rounds" ["rounds"] (sp1 K (fun x => ∃ r : Nat, x = .int (r : Int) ∧ 1 ≤ r ∧ r ≤ 6) (fun _ d => d = .none)))
    (k_held_ : Kn P w K mg base 7 "_held" ["program", "line", "rounds"] (spHeld K)) : KnB P w K mg base 8 "held" ["program", "line", "rounds"] (spHeld K) [.int 1] 2 ["rounds"] := by
  refine knbd_of (n := 3) D sc_held rfl (by decide) fun f cdv A outer s H E hr => ?_
  have hu : (A.deeper (envOfC "held" (defScope s_held) s.heap.objs.size f cdv)).units + 64 < cLine := by have := hr.un; omega
  refine ⟨_, (pss_cons (ps_expr (pe_callN k_check_program (hr.mono (by decide)) (pa_cons (pv 0) pa_nil)))
      (pss_cons (ps_expr (pe_callN k_check_line (hr.mono (by decide)) (pa_cons (pv 1) pa_nil)))
      (pss_cons (ps_expr (pe_callN k_check_rounds (hr.mono (by decide)) (pa_cons (pv 2) pa_nil)))
      (pss_one (ps_ret (pe_callN k_held_ (hr.mono (by decide)) (pa_cons (pv 0) (pa_cons (pv 1) (pa_cons (pv 2) pa_nil))))))))), fun Y ds hl ⟨ss, ns, r, e1, hs, hL, hn, h1, h6⟩ => ?_⟩
  subst e1
  obtain ⟨hok, hne, hsm⟩ := lineB_inv hn
  have hb := line_bounds hok.nz hsm
  refine ss_seq (M := fun e => e = [.dat (progD ((ss.map txF).map dS)), .dat (dL ns), .dat (.int (r : Int))]) (ss_expr (P := fun _ => True) ((ev_c1 ev_var ⟨_, rfl⟩).mono fun _ _ => trivial) rfl) ?_
  rintro _ rfl
  refine ss_seq (M := fun e => e = [.dat (progD ((ss.map txF).map dS)), .dat (dL ns), .dat (.int (r : Int))]) (ss_expr (P := fun _ => True) ((ev_c1 ev_var ⟨ns, rfl, hn, by omega⟩).mono fun _ _ => trivial) rfl) ?_
  rintro _ rfl
  refine ss_seq (M := fun e => e = [.dat (progD ((ss.map txF).map dS)), .dat (dL ns), .dat (.int (r : Int))]) (ss_expr (P := fun _ => True) ((ev_c1 ev_var ⟨r, rfl, h1, h6⟩).mono fun _ _ => trivial) rfl) ?_
  rintro _ rfl
  exact ss_ret (ev_call (ds := [progD ((ss.map txF).map dS), dL ns, .int (r : Int)]) (ar_consd ev_var (ar_consd ev_var (ar_consd ev_var ar_nil))) rfl ⟨ss, ns, r, rfl, hs, hL, hn, h1, h6⟩) fun d h => h

end
end FRL
set_option maxRecDepth 100000
set_option maxHeartbeats 4000000
namespace FRL
open PySem PySem.Spec PyProof.Rows L2 FR
section
variable {P : Program} {w : World} {K : PySem.W.Frag} {mg : Str → Option Value} {base : Heap}
/-! _law_cell -/
theorem k_law_cell (D : Dn K mg "_law_cell" s_law_cell ["script", "k"]) (B : Bi mg) : Kn P w K mg base 1 "_law_cell" ["script", "k"] (spS K 1 (fun ds => ∃ k : Nat, ds = [.int k]) (fun _ d => ∃ z : Int, d = .int z)) := by
  refine kn_ofS D sc_law_cell rfl (by decide) fun f cdv A outer s H E hr => ?_
  have hu : (A.deeper (envOfC "_law_cell" (defScope s_law_cell) s.heap.objs.size f cdv)).units + 64 < cLine := by have := hr.un; omega
  refine ⟨_, (pss_cons (ps_if (pt_cmpR op_lt (pv 1) (pe_callB (kc_len (K := K) rfl) (by rfl) B.len boot_len (pa_cons (pv 0) pa_nil)) (nomark _)) (pss_one (ps_ret (pe_ix (kix (K := K) rfl) (pv 0) (pv 1) (fun _ _ => rfl)))) pss_nil)
      (pss_cons (ps_set (i := 2) sc_law_cell.nd rfl (by first | exact Or.inl rfl | exact Or.inr rfl) (pe_op (kop_add (K := K) rfl) (pe_op op_mulU pe_int (pv 1)) pe_int))
      (pss_cons (ps_for PassesOwn.never rfl (kpi_seq (K := K) rfl (pe_slice (ksl (K := K) rfl) (pv 0) po_none (po_some pe_int))) (pg_name (i := 3) sc_law_cell.nd rfl (by first | exact Or.inl rfl | exact Or.inr rfl)) (pss_one (ps_set (i := 2) sc_law_cell.nd rfl (by first | exact Or.inl rfl | exact Or.inr rfl) (pe_op op_mod (pe_callTy call_int1 (by rfl) B.int bt_itg (pa_cons (pe_op (kop_add (K := K) rfl) (pe_op op_mulU (pv 2) pe_int) (pv 3)) pa_nil)) pe_int))))
      (pss_one (ps_ret (pv 2)))))), fun Y a ns ds hS hns hl hp => ?_⟩
  obtain ⟨k, rfl⟩ := hp
  refine qs_whend (tb_testd (ev_opd et_var (ev_lenS rfl hS).tt os_lt)) (fun e => ?_) fun _ => ?_
  · have hk : k < ns.length := by have := of_decide_eq_true e; omega
    exact ss_retd (ev_ixS rfl hS ev_var (List.getElem?_eq_getElem hk)) ⟨_, rfl⟩
  refine qs_setd (ev_opd (ev_opd et_int et_var (os_mulI (.inl ⟨by decide, by decide⟩))).tt et_int os_addI) ?_
  refine ss_seq (M := fun e => ∃ (z : Int) (x : Ent), e = [.raw (.ref a), .dat (.int k), .dat (.int z), x]) ?_ ?_
  · refine ss_forLx (ev_slS rfl hS pa_none (pa_some ev_int)) (fun ms i e => ∃ (z : Int) (x : Ent), e = [.raw (.ref a), .dat (.int k), .dat (.int z), x]) (fun d ⟨ms, e, _⟩ => ⟨_, e, _, _, rfl⟩) ?_ ?_
    · rintro ds ⟨ms, hd, _⟩ i d e hi ⟨z, x, rfl⟩
      cases hd
      obtain ⟨n, rfl⟩ : ∃ n, d = .int n := by
        rw [List.getElem?_map] at hi
        cases q : ms[i]? with
        | none => rw [q] at hi; cases hi
        | some n => rw [q] at hi; cases hi; exact ⟨n, rfl⟩
      refine ss_setd (ev_opd (ev_cb1d (ev_opd (ev_opd et_var et_int (os_mulI (.inr ⟨by decide, by decide⟩))).tt et_var os_addI).tt cb_int).tt et_int (os_mod (by decide))) ⟨_, _, rfl⟩
    · rintro ds e _ ⟨z, x, rfl⟩
      exact ⟨z, x, rfl⟩
  · rintro e ⟨z, x, rfl⟩
    exact ss_retd ev_var ⟨_, rfl⟩

/-! _law_well -/
theorem k_law_well (D : Dn K mg "_law_well" s_law_well ["cell"]) (B : Bi mg) : Kn P w K mg base 1 "_law_well" ["cell"] (spF K 1 (fun ds => ∃ z : Int, ds = [.int z]) (fun _ d => wellD d)) := by
  refine kn_of D sc_law_well rfl (by decide) fun f cdv A outer s H E hr => ?_
  have hu : (A.deeper (envOfC "_law_well" (defScope s_law_well) s.heap.objs.size f cdv)).units + 64 < cLine := by have := hr.un; omega
  refine ⟨_, (pss_cons (ps_set (i := 1) sc_law_well.nd rfl (by first | exact Or.inl rfl | exact Or.inr rfl) (pe_ifExp (pw_or (pt_cmpR op_lt (pv 0) pe_int (nomark _)) (pw_or1 (pt_cmpR op_ge (pv 0) (pe_op op_pow pe_int pe_int) (nomark _)))).pt (pe_callB call_abs (by rfl) B.abs bt_ab (pa_cons (pv 0) pa_nil)) pe_int))
      (pss_cons (ps_set (i := 2) sc_law_well.nd rfl (by first | exact Or.inl rfl | exact Or.inr rfl) (pe_op op_mod (pe_callTy call_int1 (by rfl) B.int bt_itg (pa_cons (pv 0) pa_nil)) pe_int))
      (pss_cons (ps_for PassesOwn.never rfl (pi_range1 (by rfl) B.range (pa_cons pe_int pa_nil)) (pg_name (i := 3) sc_law_well.nd rfl (by first | exact Or.inl rfl | exact Or.inr rfl)) (pss_one (ps_set (i := 2) sc_law_well.nd rfl (by first | exact Or.inl rfl | exact Or.inr rfl) (pe_op op_mod (pe_callTy call_int1 (by rfl) B.int bt_itg (pa_cons (pe_op (kop_add (K := K) rfl) (pe_op (kop_add (K := K) rfl) (pe_op op_mulU (pv 2) (pe_op (kop_add (K := K) rfl) (pe_op op_mod (pe_callTy call_int1 (by rfl) B.int bt_itg (pa_cons (pv 2) pa_nil)) pe_int) pe_int)) (pe_op op_mulU pe_int (pv 3))) pe_int) pa_nil)) pe_int))))
      (pss_one (ps_ret (pe_lst (pa_cons (pv 2) (pa_cons (pv 1) (pa_cons pe_int pa_nil))))))))), fun Y ds hl hp => ?_⟩
  obtain ⟨z, rfl⟩ := hp
  refine qs_set (P := fun d => ∃ t : Int, d = .int t ∧ 0 ≤ t) (ev_if (tb_ord (tb_testd (ev_opd et_var et_int os_lt)) fun _ => tb_testd (ev_opd et_var (ev_opd et_int et_int (os_pow (j := 18) (by decide) (by decide))).tt os_ge)) (fun _ => ?_) (fun _ => ev_int.mono fun d e => ⟨_, e, by decide⟩)) ?_
  · exact (ev_cb1d et_var cb_abs).mono fun d e => ⟨_, e, by split <;> omega⟩
  rintro _ ⟨t, rfl, ht⟩
  refine qs_setd (ev_opd (ev_cb1d et_var cb_int).tt et_int (os_mod (by decide))) ?_
  refine ss_seq (M := fun e => ∃ (s : Int) (x : Ent), e = [.dat (.int z), .dat (.int t), .dat (.int s), x] ∧ 0 ≤ s ∧ s < 2147483629) ?_ ?_
  · refine ss_forR1 (ar_consd ev_int ar_nil) (by decide) (by decide) (fun i e => ∃ (s : Int) (x : Ent), e = [.dat (.int z), .dat (.int t), .dat (.int s), x] ∧ 0 ≤ s ∧ s < 2147483629) ⟨_, _, rfl, Int.emod_nonneg _ (by decide), Int.emod_lt_of_pos _ (by decide)⟩ ?_ (fun _ h => h)
    rintro i e hi ⟨s, x, rfl, h1, h2⟩
    refine ss_setd (ev_opd (ev_cb1d (ev_opd (ev_opd (ev_opd et_var (ev_opd (ev_opd (ev_cb1d et_var cb_int).tt et_int (os_mod (by decide))).tt et_int os_addI).tt (os_mulI (.inl ⟨by omega, by omega⟩))).tt (ev_opd et_int et_var (os_mulI (.inl ⟨by decide, by decide⟩))).tt os_addI).tt et_int os_addI).tt cb_int).tt et_int (os_mod (by decide))) ⟨_, _, rfl, Int.emod_nonneg _ (by decide), Int.emod_lt_of_pos _ (by decide)⟩
  · rintro e ⟨s, x, rfl, h1, h2⟩
    exact ss_retd (ev_lstd (ar_consd ev_var (ar_consd ev_var (ar_consd ev_int ar_nil)))) ⟨_, _, _, rfl, h1, h2, ht, by decide⟩

/-! _law_draw -/
theorem k_law_draw (D : Dn K mg "_law_draw" s_law_draw ["well", "many"]) (B : Bi mg) : Kn P w K mg base 1 "_law_draw" ["well", "many"] (spW1 K (fun x => ∃ m : Int, x = .int m ∧ 0 < m ∧ m < 1000000) (fun x d => ∀ m : Int, x = .int m → ∃ r : Int, d = .int r ∧ 0 ≤ r ∧ r < m)) := by
  refine kn_ofW1 D sc_law_draw (by decide) fun f cdv A outer s H E hr hu => ⟨_, (pss_cons (ps_asg (pe_op (kop_add (K := K) rfl) (pe_ix (kix (K := K) rfl) (pv 0) pe_int (fun _ _ => rfl)) pe_int) (pg_sub (pv 0) pe_int set_list (by intro _; rfl)))
      (pss_cons (ps_set (i := 2) sc_law_draw.nd rfl (by first | exact Or.inl rfl | exact Or.inr rfl) (pe_callTy call_int1 (by rfl) B.int bt_itg (pa_cons (pe_ix (kix (K := K) rfl) (pv 0) pe_int (fun _ _ => rfl)) pa_nil)))
      (pss_cons (ps_set (i := 2) sc_law_draw.nd rfl (by first | exact Or.inl rfl | exact Or.inr rfl) (pe_op op_mulU (pv 2) (pe_op (kop_add (K := K) rfl) (pe_op op_mod (pe_callTy call_int1 (by rfl) B.int bt_itg (pa_cons (pv 2) pa_nil)) pe_int) pe_int)))
      (pss_cons (ps_asg (pe_op op_mod (pe_callTy call_int1 (by rfl) B.int bt_itg (pa_cons (pe_op (kop_add (K := K) rfl) (pe_op (kop_add (K := K) rfl) (pv 2) (pe_op op_mulU pe_int (pe_ix (kix (K := K) rfl) (pv 0) pe_int (fun _ _ => rfl)))) pe_int) pa_nil)) pe_int) (pg_sub (pv 0) pe_int set_list (by intro _; rfl)))
      (pss_cons (ps_if (pt_cmpR op_gt (pe_ix (kix (K := K) rfl) (pv 0) pe_int (fun _ _ => rfl)) pe_int (nomark _)) (pss_cons (ps_set (i := 3) sc_law_draw.nd rfl (by first | exact Or.inl rfl | exact Or.inr rfl) (pe_op op_mod (pe_callTy call_int1 (by rfl) B.int bt_itg (pa_cons (pe_ix (kix (K := K) rfl) (pv 0) pe_int (fun _ _ => rfl)) pa_nil)) (pv 1)))
      (pss_cons (ps_asg (pe_op op_fdiv (pe_ix (kix (K := K) rfl) (pv 0) pe_int (fun _ _ => rfl)) (pv 1)) (pg_sub (pv 0) pe_int set_list (by intro _; rfl)))
      (pss_one (ps_ret (pv 3))))) pss_nil)
      (pss_one (ps_ret (pe_op op_mod (pe_callTy call_int1 (by rfl) B.int bt_itg (pa_cons (pe_op op_fdiv (pe_ix (kix (K := K) rfl) (pv 0) pe_int (fun _ _ => rfl)) pe_int) pa_nil)) (pv 1))))))))), fun Y a x hW hp => ?_⟩
  obtain ⟨m, rfl, hm, hm2⟩ := hp
  have fin : ∀ z : Int, ∀ m' : Int, PyData.int m = .int m' → ∃ r : Int, PyData.int (z % m) = .int r ∧ 0 ≤ r ∧ r < m' := fun z m' e => by
    cases e
    exact ⟨_, rfl, Int.emod_nonneg _ (by omega), Int.emod_lt_of_pos _ hm⟩
  refine qs_well (j := 2) rfl hW (by decide) (ev_op (ev_well2 rfl hW).tt (fun _ _ => et_int) fun _ _ ⟨z, e1, hz⟩ e2 => e1 ▸ e2 ▸ ?_) ?_
  · exact fun Hi H v w p ha hb Q q => os_addI Hi H v w p ha hb Q fun u d Hi' H' f hd e => q u d Hi' H' f hd ⟨_, e, by omega, fun z => by cases z⟩
  refine qs_set (P := fun d => ∃ z : Int, d = .int z ∧ 0 ≤ z ∧ z < 2147483629) (ev_cb1 (ev_well0 rfl hW).tt fun _ ⟨z, e1, h1, h2⟩ => e1 ▸ fun Hi H vs p h Q q => cb_int Hi H vs p h Q fun u d Hi' H' f hd e => q u d Hi' H' f hd ⟨z, e, h1, h2⟩) ?_
  rintro _ ⟨z, rfl, h1, h2⟩
  refine qs_setd (ev_opd et_var (ev_opd (ev_opd (ev_cb1d et_var cb_int).tt et_int (os_mod (by decide))).tt et_int os_addI).tt (os_mulI (.inl ⟨by omega, by omega⟩))) ?_
  refine qs_well (j := 0) rfl hW (by decide) (ev_op (Pb := fun _ d => d = .int 2147483629) (Pa := fun d => ∃ z : Int, d = .int z) (ev_cb1 (Pa := fun d => ∃ z : Int, d = .int z) (ev_op (Pa := fun d => ∃ z : Int, d = .int z) (Pb := fun _ d => d = .int 4241) (ev_op (Pa := fun d => ∃ z : Int, d = .int z) (Pb := fun _ d => ∃ z : Int, d = .int z) (EvT.mono et_var fun _ e => ⟨_, e⟩) (fun _ _ => (ev_op (Pb := fun _ d => ∃ z : Int, d = .int z ∧ 0 ≤ z) et_int (fun _ _ => (ev_well2 rfl hW).tt) fun _ _ e1 ⟨z, e2, hz⟩ => ?_).tt) fun _ _ ⟨i, e1⟩ ⟨j, e2⟩ => ?_).tt (fun _ _ => et_int) fun _ _ ⟨i, e1⟩ e2 => ?_).tt fun _ ⟨i, e1⟩ => ?_).tt (fun _ _ => et_int) fun _ _ ⟨i, e1⟩ e2 => ?_) ?_
  · subst e1 e2
    exact fun Hi H v w p ha hb Q q => os_mulI (.inl ⟨by decide, by decide⟩) Hi H v w p ha hb Q fun u d Hi' H' f hd e => q u d Hi' H' f hd ⟨_, e⟩
  · subst e1 e2
    exact fun Hi H v w p ha hb Q q => os_addI Hi H v w p ha hb Q fun u d Hi' H' f hd e => q u d Hi' H' f hd ⟨_, e⟩
  · subst e1 e2
    exact fun Hi H v w p ha hb Q q => os_addI Hi H v w p ha hb Q fun u d Hi' H' f hd e => q u d Hi' H' f hd ⟨_, e⟩
  · subst e1
    exact fun Hi H vs p h Q q => cb_int Hi H vs p h Q fun u d Hi' H' f hd e => q u d Hi' H' f hd ⟨_, e⟩
  · subst e1 e2
    exact fun Hi H v w p ha hb Q q => os_mod (by decide) Hi H v w p ha hb Q fun u d Hi' H' f hd e => q u d Hi' H' f hd ⟨_, e, Int.emod_nonneg _ (by decide), fun _ => Int.emod_lt_of_pos _ (by decide)⟩
  refine qs_when (Pt := fun _ => True) (tb_test (ev_op (ev_well1 rfl hW).tt (fun _ _ => et_int) fun _ _ ⟨z, e1, hz⟩ e2 => ?_)) (fun _ => ?_) fun _ => ?_
  · subst e1 e2
    exact fun Hi H v w p ha hb Q q => os_gt Hi H v w p ha hb Q fun u d Hi' H' f hd e => q u d Hi' H' f hd ⟨_, e, trivial⟩
  · refine qs_set (P := fun d => ∃ z : Int, d = .int (z % m)) (ev_op (Pa := fun d => ∃ z : Int, d = .int z) (Pb := fun _ d => d = .int m) (ev_cb1 (ev_well1 rfl hW).tt fun _ ⟨z, e1, hz⟩ => ?_).tt (fun _ _ => et_var) fun _ _ ⟨i, e1⟩ e2 => ?_) ?_
    · subst e1
      exact fun Hi H vs p h Q q => cb_int Hi H vs p h Q fun u d Hi' H' f hd e => q u d Hi' H' f hd ⟨_, e⟩
    · subst e1 e2
      exact fun Hi H v w p ha hb Q q => os_mod hm Hi H v w p ha hb Q fun u d Hi' H' f hd e => q u d Hi' H' f hd ⟨_, e⟩
    rintro _ ⟨z, rfl⟩
    refine qs_well (j := 1) rfl hW (by decide) (ev_op (ev_well1 rfl hW).tt (fun _ _ => et_var) fun _ _ ⟨z, e1, hz⟩ e2 => ?_) ?_
    · subst e1 e2
      exact fun Hi H v w p ha hb Q q => os_fdiv hm (by omega) Hi H v w p ha hb Q fun u d Hi' H' f hd e => q u d Hi' H' f hd ⟨_, e, Int.ediv_nonneg hz (by omega), fun z => by cases z⟩
    exact ss_retd ev_var (fin _)
  · refine ss_ret (P := fun d => ∃ z : Int, d = .int (z % m)) (ev_op (Pa := fun d => ∃ z : Int, d = .int z) (Pb := fun _ d => d = .int m) (ev_cb1 (Pa := fun d => ∃ z : Int, d = .int z) (ev_op (ev_well0 rfl hW).tt (fun _ _ => et_int) fun _ _ ⟨z, e1, hz⟩ e2 => ?_).tt fun _ ⟨i, e1⟩ => ?_).tt (fun _ _ => et_var) fun _ _ ⟨i, e1⟩ e2 => ?_) ?_
    · subst e1 e2
      exact fun Hi H v w p ha hb Q q => os_fdiv (by decide) (by decide) Hi H v w p ha hb Q fun u d Hi' H' f hd e => q u d Hi' H' f hd ⟨_, e⟩
    · subst e1
      exact fun Hi H vs p h Q q => cb_int Hi H vs p h Q fun u d Hi' H' f hd e => q u d Hi' H' f hd ⟨_, e⟩
    · subst e1 e2
      exact fun Hi H v w p ha hb Q q => os_mod hm Hi H v w p ha hb Q fun u d Hi' H' f hd e => q u d Hi' H' f hd ⟨_, e⟩
    rintro _ ⟨z, rfl⟩
    exact fin z

/-! _law_wells -/
theorem k_law_wells (D : Dn K mg "_law_wells" s_law_wells ["script", "most"]) (B : Bi mg) (k_law_cell : Kn P w K mg base 1 "_law_cell" ["script", "k"] (spS K 1 (fun ds => ∃ k : Nat, ds = [.int k]) (fun _ d => ∃ z : Int, d = .int z)))
    (k_law_well : Kn P w K mg base 1 "_law_well" ["cell"] (spF K 1 (fun ds => ∃ z : Int, ds = [.int z]) (fun _ d => wellD d))) : Kn P w K mg base 2 "_law_wells" ["script", "most"] (spS K 1 (fun ds => ∃ k : Int, ds = [.int k] ∧ k ≤ 100) (fun _ d => ∃ ds, d = .list ds ∧ ds.length ≤ 100 ∧ ∀ x ∈ ds, wellD x)) := by
  refine kn_ofS D sc_law_wells rfl (by decide) fun f cdv A outer s H E hr => ?_
  have hu : (A.deeper (envOfC "_law_wells" (defScope s_law_wells) s.heap.objs.size f cdv)).units + 64 < cLine := by have := hr.un; omega
  refine ⟨_, (pss_one (ps_ret (pe_lc (own := [("k", 2)]) (g := gName 2) (tt := tYes) rfl sc_law_wells.nd (pi_range1 (by rfl) B.range (pa_cons (pe_callB (call_max2 rfl) (by rfl) B.max bt_max (pa_cons pe_int (pa_cons (pe_callB (call_min2 rfl) (by rfl) B.min bt_min (pa_cons (pe_callB (kc_len (K := K) rfl) (by rfl) B.len boot_len (pa_cons (pv 0) pa_nil)) (pa_cons (pv 1) pa_nil))) pa_nil))) pa_nil)) (blkOk_by (N := ["script", "most", "k"]) (sc := defScope s_law_wells) (by decide +kernel)) (fun _ _ _ _ _ => pg_name (i := 2) sc_law_wells.nd rfl (Or.inl rfl)) (fun _ _ _ _ _ => pts_nil) (fun _ _ _ _ _ => (pe_callN k_law_well (hr.mono (by decide)) (pa_cons (pe_callN k_law_cell (hr.mono (by decide)) (pa_cons (pv 0) (pa_cons (pv 2) pa_nil))) pa_nil)))))), fun Y a ns ds hS hns hl hp => ?_⟩
  obtain ⟨k, rfl, hk⟩ := hp
  refine ss_ret (ev_lcR1 (p := fun _ => true) (G := fun _ d => wellD d) (ar_consd (ev_cb2d et_int (ev_cb2d (ev_lenS rfl hS).tt et_var cb_min2).tt cb_max2) ar_nil) (fun _ _ => tb_yes) (fun i hi _ => ?_) (by split <;> split <;> omega) (by split <;> split <;> omega)) ?_
  · refine (ev_callF (Pds := fun ds => ∃ z : Int, ds = [.int z]) ((ar_cons (Pa := fun d => ∃ z : Int, d = .int z) (ev_callS rfl hS hns (ar_consd ev_var ar_nil) rfl ⟨i, rfl⟩) fun _ _ => ar_nil).mono ?_) ?_).mono ?_
    · rintro _ ⟨_, _, rfl, ⟨z, rfl⟩, rfl⟩
      exact ⟨z, rfl⟩
    · rintro _ ⟨z, rfl⟩
      exact ⟨rfl, z, rfl⟩
    · rintro d ⟨_, _, h⟩
      exact h
  · rintro d ⟨ys, rfl, hy⟩
    refine ⟨ys, rfl, ?_, fun x hx => ?_⟩
    · rw [← Paired.length hy]
      refine Nat.le_trans (List.length_filter_le _ _) ?_
      rw [List.length_range]
      split <;> split <;> omega
    · obtain ⟨j, hj⟩ := List.getElem?_of_mem hx
      exact paired_right hy hj

/-! _law_word -/
theorem k_law_word (D : Dn K mg "_law_word" s_law_word ["pieces"]) (B : Bi mg) :
    Kn P w K mg base 1 "_law_word" ["pieces"] (sp1 K (fun d => ∃ ns, d = dL ns ∧ lineB ns = true) (fun x d => ∀ ns, x = dL ns → d = dS (wordOf ns))) := by
  refine kn_of1 D sc_law_word (by decide) fun f cdv A outer s H E hr hu => ⟨_, (pss_one (ps_ret (kpe_bm (K := K) rfl PySem.F.plainAttrs_str PySem.F.slot_str_join PySem.F.type_str_join (km_join (K := K) rfl) pe_str (pa_cons (pe_lc (own := [("size", 1)]) (g := gName 1) (tt := tYes) rfl sc_law_word.nd (kpi_seq (K := K) rfl (pv 0)) (blkOk_by (N := ["pieces", "size"]) (sc := defScope s_law_word) (by decide +kernel)) (fun _ _ _ _ _ => pg_name (i := 1) sc_law_word.nd rfl (Or.inl rfl)) (fun _ _ _ _ _ => pts_nil) (fun _ _ _ _ _ => (pe_ifExp (pt_cmpR op_gt (pv 1) pe_int (nomark _)) (pe_op (kop_add (K := K) rfl) pe_str (pe_op op_mulU pe_str (pe_op op_sub (pv 1) pe_int))) (pe_op op_mulU pe_str (pe_op op_sub pe_int (pv 1)))))) pa_nil)))), fun Y d ⟨ns, e, hn⟩ => ?_⟩
  subst e
  obtain ⟨hok, hne, hs⟩ := lineB_inv hn
  have hb := line_bounds hok.nz hs
  refine ss_retd (ev_m1 (a := dS []) rfl et_s (EvD.to (e := .list ((ns.map pieceW).map fun y => dS y)) (ev_lcTd (fun d => match d with | .int i => dS (pieceW i) | _ => .none) ev_var (fun d hd => by
    obtain ⟨i, hi, rfl⟩ := List.mem_map.mp hd
    have hi2 := hb.2 i hi
    refine (ev_ifd (tb_testd (ev_opd et_var et_int os_gt)) (fun _ => ev_opd (et_s (l := [98])) (ev_opd (et_s (l := [111])) (ev_opd et_var et_int os_sub).tt (os_rep1 (by omega) (by omega))).tt (os_addS' (by rw [List.length_replicate]; show 1 + _ ≤ _; omega))) (fun _ => ev_opd (et_s (l := [102])) (ev_opd et_int et_var os_sub).tt (os_rep1 (by omega) (by omega)))).to ?_
    by_cases h : 0 < i
    · rw [decide_eq_true h, if_pos rfl]
      show _ = dS (pieceW i)
      rw [pieceW_pos h]
      rfl
    · rw [decide_eq_false h, if_neg Bool.false_ne_true]
      show _ = dS (pieceW i)
      unfold pieceW
      rw [if_neg h, Int.zero_sub]) (by rw [List.length_map]; omega)) (by rw [List.map_map, List.map_map]; rfl)).tt (mt_joinS (a := []) ?_)) ?_
  · have : ((ns.map pieceW).map (·.length)).sum = (wordOf ns).length := by unfold wordOf; rw [List.length_flatten]
    rw [this]
    have h2 := len_word hok.nz
    simp only [List.length_nil, Nat.mul_zero, Nat.add_zero]
    omega
  · intro ms e
    have e2 : ns = ms := dL_inj e
    subst e2
    rw [joinL_nil]
    rfl

/-! _law_pieces -/
theorem k_law_pieces (D : Dn K mg "_law_pieces" s_law_pieces ["word"]) (B : Bi mg) :
    Kn P w K mg base 1 "_law_pieces" ["word"] (sp1 K (fun d => ∃ u, d = dS u ∧ WOk u ∧ u.length ≤ 1000) (fun x d => ∀ u, x = dS u → d = dL (piecesOf u))) := by
  refine kn_of1 D sc_law_pieces (by decide) fun f cdv A outer s H E hr hu => ⟨_, (pss_cons (ps_set (i := 1) sc_law_pieces.nd rfl (by first | exact Or.inl rfl | exact Or.inr rfl) (pe_lst pa_nil))
      (pss_cons (ps_for PassesOwn.never rfl (pi_range1 (by rfl) B.range (pa_cons (pe_callB (kc_len (K := K) rfl) (by rfl) B.len boot_len (pa_cons (pv 0) pa_nil)) pa_nil)) (pg_name (i := 2) sc_law_pieces.nd rfl (by first | exact Or.inl rfl | exact Or.inr rfl)) (pss_cons (ps_set (i := 3) sc_law_pieces.nd rfl (by first | exact Or.inl rfl | exact Or.inr rfl) (pe_ix (kix (K := K) rfl) (pv 0) (pv 2) (fun _ _ => rfl)))
      (pss_cons (ps_if (pw_or (pt_cmpR (kop_eq (K := K) rfl hu) (pv 3) pe_str (nomark _)) (pw_or1 (pw_and (pt_cmpR (kop_eq (K := K) rfl hu) (pv 3) pe_str (nomark _)) (pw_and1 (pw_or (pt_cmpR (kop_eq (K := K) rfl hu) (pv 2) pe_int (nomark _)) (pw_or1 (pt_cmpR (kop_ne (K := K) rfl hu) (pe_ix (kix (K := K) rfl) (pv 0) (pe_op op_sub (pv 2) pe_int) (fun _ _ => rfl)) pe_str (nomark _)))).pt)).pt)).pt (pss_one (ps_expr (kpe_bm (K := K) rfl PySem.F.plainAttrs_list PySem.F.slot_list_append PySem.F.type_list_append mt_append (pv 1) (pa_cons pe_int pa_nil)))) pss_nil)
      (pss_one (ps_asg (pe_op (kop_add (K := K) rfl) (pe_ix (kix (K := K) rfl) (pv 1) (pe_un un_neg pe_int) (fun _ _ => rfl)) (pe_ifExp (pt_cmpR (kop_eq (K := K) rfl hu) (pv 3) pe_str (nomark _)) (pe_un un_neg pe_int) pe_int)) (pg_sub (pv 1) (pe_un un_neg pe_int) set_list (by intro _; rfl)))))))
      (pss_one (ps_ret (pe_callTy (kc_tup (K := K) rfl) (by rfl) B.tuple bt_tup (pa_cons (pv 1) pa_nil)))))), fun Y d ⟨u, e, hw, hl⟩ => ?_⟩
  subst e
  refine qs_own ar_nil ?_
  refine ss_seq (M := fun e => ∃ x y, e = [.dat (dS u), .own ((piecesOf u).map .int), x, y]) ?_ ?_
  · refine ss_forR1 (ar_consd (ev_cb1d et_var (cb_lenS' (by omega))) ar_nil) (by omega) (by omega) (fun k e => ∃ x y, e = [.dat (dS u), .own ((piecesOf (u.take k)).map .int), x, y]) ⟨_, _, rfl⟩ ?_ ?_
    case refine_2 =>
      rintro e ⟨x, y, h⟩
      refine ⟨x, y, ?_⟩
      rw [h, Int.toNat_natCast, List.take_length]
    rintro k _ hk ⟨x, y, rfl⟩
    have hk : k < u.length := by omega
    have hc : u[k]? = some (u[k]) := List.getElem?_eq_getElem hk
    generalize u[k] = c at hc
    have ok := hw.sgn hc
    have pk := pc_ok (hw.pre k)
    have hsucc : piecesOf (u.take (k + 1)) = pStep (piecesOf (u.take k)) (u.take k).getLast? c := by
      rw [List.take_add_one, hc]
      exact piecesOf_snoc _ _
    generalize hf : piecesOf (u.take k) = g at pk hsucc
    have hlen : g.length ≤ 1000 := by
      have h1 := len_word pk.ok.nz
      rw [pk.word, List.length_take] at h1
      have key : ∀ ns : List Int, (∀ n ∈ ns, n ≠ 0) → (ns.length : Int) ≤ sumAbs ns := by
        intro ns
        induction ns with
        | nil => exact fun _ => Int.le_refl _
        | cons n ns ih =>
          intro hz
          have e : sumAbs (n :: ns) = absI n + sumAbs ns := by unfold sumAbs; rw [List.map_cons, List.sum_cons]
          have h2 := absI_pos (hz n (by simp))
          have h3 := ih fun m hm => hz m (by simp [hm])
          rw [List.length_cons, e]
          omega
      have := key g pk.ok.nz
      omega
    refine qs_setd (ev_opd et_var et_var (os_ixS (by omega) (atI_nat hc))) ?_
    refine ss_seq (M := fun e => e = [.dat (dS u), .own ((if c = 98 ∨ (c = 102 ∧ (u.take k).getLast? ≠ some 102) then g ++ [0] else g).map .int), .dat (.int k), .dat (dS [c])]) ?_ ?_
    · refine ss_if (Pt := fun b => b = decide (c = 98 ∨ (c = 102 ∧ (u.take k).getLast? ≠ some 102))) ?_ (fun e => ?_) (fun e => ?_)
      · refine TsB.mono (tb_ord (tb_testd (ev_opd et_var (et_s (l := [98])) os_eqS')) fun _ => tb_andd (tb_testd (ev_opd et_var (et_s (l := [102])) os_eqS')) fun _ => tb_ord (tb_testd (ev_opd et_var et_int os_eqI)) fun h0 => tb_testd (ev_opd (ev_opd et_var (ev_opd et_var et_int os_sub).tt (os_ixS (c := u.getD (k - 1) 0) (by omega) ?_)).tt (et_s (l := [102])) os_neS')) ?_
        · have h0 := of_decide_eq_false h0
          have e9 : ((k : Int) - 1) = ((k - 1 : Nat) : Int) := by omega
          rw [e9]
          exact atI_nat (by rw [List.getElem?_eq_getElem (by omega)]; simp [List.getD, List.getElem?_eq_getElem (show k - 1 < u.length by omega)])
        · rintro b rfl
          have a1 : decide ([c] = [98]) = decide (c = 98) := by simp
          have a2 : decide ([c] = [102]) = decide (c = 102) := by simp
          rw [a1, a2]
          by_cases k0 : k = 0
          · subst k0
            simp
          · have a3 : decide ((k : Int) = 0) = false := decide_eq_false (by omega)
            rw [a3, take_last hk (by omega)]
            by_cases q1 : c = 98 <;> by_cases q2 : c = 102 <;> simp [q1, q2]
      · have e := of_decide_eq_true e.symm
        rw [if_pos e]
        exact ss_app rfl ev_int (by rw [List.length_map]; omega) fun d p => by
          subst p
          show [_, Ent.own (g.map PyData.int ++ [PyData.int 0]), _, _] = _
          rw [List.map_append]
          rfl
      · have e := of_decide_eq_false e.symm
        rw [if_neg e]
        exact ss_next rfl
    · rintro _ rfl
      have hne : (if c = 98 ∨ (c = 102 ∧ (u.take k).getLast? ≠ some 102) then g ++ [0] else g) ≠ [] := by
        split
        · simp
        · rename_i hno
          intro q
          have h1 := pk.emp.mp q
          rcases okC_cases ok with h2 | h2 | ⟨_, h2⟩
          · exact hno (.inl h2)
          · exact hno (.inr ⟨h2, by rw [h1]; simp⟩)
          · rw [h1] at h2
            rcases h2 with h2 | h2 <;> simp at h2
      have hst : piecesOf (u.take (k + 1)) = addLast (if c = 98 ∨ (c = 102 ∧ (u.take k).getLast? ≠ some 102) then g ++ [0] else g) (if c = 102 then -1 else 1) := hsucc
      have hlen2 : (if c = 98 ∨ (c = 102 ∧ (u.take k).getLast? ≠ some 102) then g ++ [0] else g).length ≤ 1001 := by
        split
        · rw [List.length_append]
          show g.length + 1 ≤ 1001
          omega
        · omega
      generalize (if c = 98 ∨ (c = 102 ∧ (u.take k).getLast? ≠ some 102) then g ++ [0] else g) = g' at hne hst hlen2
      obtain ⟨p, z, rfl⟩ : ∃ p z, g' = p ++ [z] := ⟨g'.dropLast, g'.getLast hne, (List.dropLast_concat_getLast hne).symm⟩
      have e0 : (p ++ [z]).map PyData.int = p.map .int ++ [.int z] := by rw [List.map_append]; rfl
      have ix : ixN ((p ++ [z]).map PyData.int).length (-1) = some p.length := by
        rw [List.length_map, List.length_append]
        unfold ixN
        rw [if_neg (by decide), if_pos (by show -((p.length + 1 : Nat) : Int) ≤ -1; omega)]
        congr 1
        show (-1 + ((p.length + 1 : Nat) : Int)).toNat = p.length
        omega
      have at1 : atI ((p ++ [z]).map PyData.int) (-1) = some (.int z) := by
        unfold atI
        rw [ix]
        show ((p ++ [z]).map PyData.int)[p.length]? = some (.int z)
        rw [List.getElem?_map, List.getElem?_append_right (Nat.le_refl _), Nat.sub_self]
        rfl
      refine ss_put (P := (· = .int (z + (if c = 102 then -1 else 1)))) rfl (ev_opd (ev_opd et_own (ev_neg et_int).tt (os_ixL at1)).tt (EvD.to (ev_ifd (tb_testd (ev_opd et_var (et_s (l := [102])) os_eqS')) (fun _ => ev_neg et_int) (fun _ => ev_int)) ?_).tt os_addI) (ev_neg et_int) ix ?_
      · by_cases q : c = 102 <;> simp [q]
      · rintro _ rfl
        refine ⟨.dat (.int k), .dat (dS [c]), ?_⟩
        rw [hst, addLast_snoc]
        show [_, Ent.own (((p ++ [z]).map PyData.int).set p.length (.int (z + if c = 102 then -1 else 1))), _, _] = _
        rw [e0, List.set_append_right _ _ (by rw [List.length_map]; exact Nat.le_refl _), List.length_map, Nat.sub_self, List.map_append]
        rfl
  · rintro _ ⟨x, y, rfl⟩
    refine ss_retd (ev_cb1d et_own cb_tupL) ?_
    intro v e
    have e2 : u = v := by
      injection e with e
      exact SX.S_inj e
    rw [e2]

/-! _law_short -/
theorem k_law_short (D : Dn K mg "_law_short" s_law_short ["well", "most"]) (B : Bi mg) (k_law_draw : Kn P w K mg base 1 "_law_draw" ["well", "many"] (spW1 K (fun x => ∃ m : Int, x = .int m ∧ 0 < m ∧ m < 1000000) (fun x d => ∀ m : Int, x = .int m → ∃ r : Int, d = .int r ∧ 0 ≤ r ∧ r < m))) :
    Kn P w K mg base 2 "_law_short" ["well", "most"] (spW1 K (fun x => ∃ m : Nat, x = .int m ∧ 0 < m ∧ m ≤ 100) (fun x d => ∀ m : Nat, x = .int m → ∃ u, d = dS u ∧ WOk u ∧ u ≠ [] ∧ u.length ≤ m)) := by
  refine kn_ofW1 D sc_law_short (by decide) fun f cdv A outer s H E hr hu => ⟨_, (pss_cons (ps_set (i := 2) sc_law_short.nd rfl (by first | exact Or.inl rfl | exact Or.inr rfl) pe_str)
      (pss_cons (ps_for PassesOwn.never rfl (pi_range1 (by rfl) B.range (pa_cons (pe_op (kop_add (K := K) rfl) pe_int (pe_callN k_law_draw (hr.mono (by decide)) (pa_cons (pv 0) (pa_cons (pv 1) pa_nil)))) pa_nil)) (pg_name (i := 3) sc_law_short.nd rfl (by first | exact Or.inl rfl | exact Or.inr rfl)) (pss_cons (ps_set (i := 4) sc_law_short.nd rfl (by first | exact Or.inl rfl | exact Or.inr rfl) (pe_ix (kix (K := K) rfl) (pe_lst (pa_cons pe_str (pa_cons pe_str (pa_cons pe_str pa_nil)))) (pe_callN k_law_draw (hr.mono (by decide)) (pa_cons (pv 0) (pa_cons pe_int pa_nil))) (fun _ _ => rfl)))
      (pss_cons (ps_if (pw_and (pt_cmpR (kop_eq (K := K) rfl hu) (pv 4) pe_str (nomark _)) (pw_and1 (pt_cmpR (kop_notIn (K := K) rfl) (pe_slice (ksl (K := K) rfl) (pv 2) (po_some (pe_un un_neg pe_int)) po_none) (pe_lst (pa_cons pe_str (pa_cons pe_str pa_nil))) rfl))).pt (pss_one (ps_set (i := 4) sc_law_short.nd rfl (by first | exact Or.inl rfl | exact Or.inr rfl) pe_str)) pss_nil)
      (pss_one (ps_set (i := 2) sc_law_short.nd rfl (by first | exact Or.inl rfl | exact Or.inr rfl) (pe_op (kop_add (K := K) rfl) (pv 2) (pv 4)))))))
      (pss_one (ps_ret (pv 2))))), fun Y a d hW ⟨m, e, hm, hm2⟩ => ?_⟩
  subst e
  refine qs_setd (ev_s (l := [])) ?_
  refine ss_seq (M := fun e => ∃ (u : List Nat) (x y : Ent), e = [.raw (.ref a), .dat (.int m), .dat (dS u), x, y] ∧ WOk u ∧ u ≠ [] ∧ u.length ≤ m) ?_ ?_
  · refine ss_forR1x (Pl := fun n => 1 ≤ n ∧ n ≤ m) ((ar_cons (Pa := fun d => ∃ n : Int, d = .int n ∧ 1 ≤ n ∧ n ≤ m) (ev_op (Pa := fun d => d = .int 1) (Pb := fun _ d => ∃ r : Int, d = .int r ∧ 0 ≤ r ∧ r < m) et_int (fun _ _ => ((ev_w1 rfl hW ev_var ⟨m, rfl, by omega, by omega⟩).mono fun d h => h m rfl).tt) (fun _ _ e1 ⟨r, e2, h1, h2⟩ => ?_)) fun _ _ => ar_nil).mono ?_) (fun n h => by omega) (fun n k e => ∃ (u : List Nat) (x y : Ent), e = [.raw (.ref a), .dat (.int m), .dat (dS u), x, y] ∧ WOk u ∧ u.length = k) (fun n h => ⟨[], .unk, .unk, rfl, .nil, rfl⟩) ?_ ?_
    · subst e1 e2
      exact os_addI.mono fun d e => ⟨_, e, by omega, by omega⟩
    · rintro _ ⟨_, _, rfl, ⟨n, rfl, h⟩, rfl⟩
      exact ⟨n, rfl, h⟩
    · rintro n hn k e hk ⟨u, x, y, rfl, hu1, hul⟩
      refine qs_set (P := fun d => ∃ c : Nat, d = dS [c] ∧ (c = 98 ∨ c = 111 ∨ c = 102)) (ev_op (Pa := fun d => d = .list [dS [98], dS [111], dS [102]]) (Pb := fun _ d => ∃ r : Int, d = .int r ∧ 0 ≤ r ∧ r < 3) (ev_lstd (ar_consd (ev_s (l := [98])) (ar_consd (ev_s (l := [111])) (ar_consd (ev_s (l := [102])) ar_nil)))).tt (fun _ _ => ((ev_w1 rfl hW ev_int ⟨3, rfl, by decide, by decide⟩).mono fun d h => h 3 rfl).tt) (fun _ _ e1 ⟨r, e2, h1, h2⟩ => ?_)) ?_
      · subst e1 e2
        have h6 : r = 0 ∨ r = 1 ∨ r = 2 := by omega
        rcases h6 with rfl | rfl | rfl
        · exact (os_ixL (d := dS [98]) rfl).mono fun d e => ⟨98, e, .inl rfl⟩
        · exact (os_ixL (d := dS [111]) rfl).mono fun d e => ⟨111, e, .inr (.inl rfl)⟩
        · exact (os_ixL (d := dS [102]) rfl).mono fun d e => ⟨102, e, .inr (.inr rfl)⟩
      rintro _ ⟨c, rfl, hc⟩
      refine ss_seq (M := fun e => ∃ (c : Nat), e = [.raw (.ref a), .dat (.int m), .dat (dS u), .dat (.int k), .dat (dS [c])] ∧ okC u.getLast? c = true) ?_ ?_
      · refine ss_if (Pt := fun b => b = (decide (c = 111) && !decide (u.drop (u.length - 1) ∈ [[98], [111]]))) ?_ (fun e => ?_) (fun e => ?_)
        · refine TsB.mono (tb_andd (tb_testd (ev_opd et_var (et_s (l := [111])) os_eqS')) fun _ => tb_testd (ev_opd (ev_sl et_var (pa_some (ev_neg et_int)) pa_none (ss_last (by omega))).tt (ev_lstd (ar_consd (ev_s (l := [98])) (ar_consd (ev_s (l := [111])) ar_nil))).tt (os_notInL' (ws := [[98], [111]])))) ?_
          rintro b rfl
          have a1 : decide ([c] = [111]) = decide (c = 111) := by simp
          rw [a1]
        · exact ss_setd (ev_s (l := [98])) ⟨98, rfl, by simp [okC]⟩
        · refine ss_next ⟨c, rfl, ?_⟩
          rcases hc with rfl | rfl | rfl
          · simp [okC]
          · have e := e.symm
            rw [decide_eq_true rfl, Bool.true_and, Bool.not_eq_false'] at e
            have e := of_decide_eq_true e
            have hp : u ≠ [] := fun q => by subst q; simp at e
            obtain ⟨p, z, rfl⟩ : ∃ p z, u = p ++ [z] := ⟨u.dropLast, u.getLast hp, (List.dropLast_concat_getLast hp).symm⟩
            have e3 : (p ++ [z]).drop ((p ++ [z]).length - 1) = [z] := by
              rw [List.length_append]
              show (p ++ [z]).drop (p.length + 1 - 1) = [z]
              rw [Nat.add_sub_cancel, List.drop_left']
              rfl
            rw [e3] at e
            rw [getLast_snoc]
            simp at e
            rcases e with rfl | rfl <;> simp [okC]
          · simp [okC]
      · rintro _ ⟨c, rfl, hok⟩
        exact ss_setd (ev_opd et_var et_var (os_addS' (by show u.length + 1 ≤ _; omega))) ⟨_, _, _, rfl, .snoc hu1 hok, by rw [List.length_append]; show u.length + 1 = k + 1; omega⟩
    · rintro n e hn ⟨u, x, y, rfl, h1, h2⟩
      refine ⟨u, x, y, rfl, h1, fun q => ?_, by omega⟩
      subst q
      simp at h2
      omega
  · rintro _ ⟨u, x, y, rfl, h1, h2, h3⟩
    refine ss_retd ev_var ?_
    intro m' e
    have : m = m' := by
      injection e with e
      omega
    subst this
    exact ⟨u, rfl, h1, h2, h3⟩

/-! _law_long -/
theorem k_law_long (D : Dn K mg "_law_long" s_law_long ["well"]) (B : Bi mg) (k_law_draw : Kn P w K mg base 1 "_law_draw" ["well", "many"] (spW1 K (fun x => ∃ m : Int, x = .int m ∧ 0 < m ∧ m < 1000000) (fun x d => ∀ m : Int, x = .int m → ∃ r : Int, d = .int r ∧ 0 ≤ r ∧ r < m))) :
    Kn P w K mg base 2 "_law_long" ["well"] (spW0 K (fun d => ∃ ns, d = dL ns ∧ lineB ns = true)) := by
  refine kn_ofW0 D sc_law_long (by decide) fun f cdv A outer s H E hr hu => ⟨_, (pss_cons (ps_par (i := 1) (j := 2) rfl sc_law_long.nd rfl rfl (by decide) rfl rfl (pa_cons (pe_op (kop_add (K := K) rfl) pe_int (pe_callN k_law_draw (hr.mono (by decide)) (pa_cons (pv 0) (pa_cons pe_int pa_nil)))) (pa_cons (pe_lst pa_nil) pa_nil)) rfl)
      (pss_cons (ps_for PassesOwn.never rfl (pi_range1 (by rfl) B.range (pa_cons pe_int pa_nil)) (pg_name (i := 3) sc_law_long.nd rfl (by first | exact Or.inl rfl | exact Or.inr rfl)) (pss_one (ps_if (pt_cmpR op_gt (pv 1) pe_int (nomark _)) (pss_cons (ps_set (i := 4) sc_law_long.nd rfl (by first | exact Or.inl rfl | exact Or.inr rfl) (pe_callB (call_min2 rfl) (by rfl) B.min bt_min (pa_cons (pv 1) (pa_cons (pe_op (kop_add (K := K) rfl) pe_int (pe_callN k_law_draw (hr.mono (by decide)) (pa_cons (pv 0) (pa_cons (pe_ix (kix (K := K) rfl) (pe_lst (pa_cons pe_int (pa_cons pe_int (pa_cons pe_int pa_nil)))) (pe_callN k_law_draw (hr.mono (by decide)) (pa_cons (pv 0) (pa_cons pe_int pa_nil))) (fun _ _ => rfl)) pa_nil)))) pa_nil))))
      (pss_cons (ps_set (i := 5) sc_law_long.nd rfl (by first | exact Or.inl rfl | exact Or.inr rfl) (pe_and (pe_cmpR (kop_eq (K := K) rfl hu) (pe_callN k_law_draw (hr.mono (by decide)) (pa_cons (pv 0) (pa_cons pe_int pa_nil))) pe_int (nomark _)) (pe_one (pe_or (pe_cmpR (kop_eq (K := K) rfl hu) (pv 2) (pe_lst pa_nil) (nomark _)) (pe_one (pe_cmpR op_gt (pe_ix (kix (K := K) rfl) (pv 2) (pe_un un_neg pe_int) (fun _ _ => rfl)) pe_int (nomark _)))))))
      (pss_cons (ps_expr (kpe_bm (K := K) rfl PySem.F.plainAttrs_list PySem.F.slot_list_append PySem.F.type_list_append mt_append (pv 2) (pa_cons (pe_ifExp (pt_val (pv 5)) (pe_op op_sub pe_int (pv 4)) (pv 4)) pa_nil)))
      (pss_one (ps_set (i := 1) sc_law_long.nd rfl (by first | exact Or.inl rfl | exact Or.inr rfl) (pe_op op_sub (pv 1) (pv 4))))))) pss_nil)))
      (pss_one (ps_ret (pe_callTy (kc_tup (K := K) rfl) (by rfl) B.tuple bt_tup (pa_cons (pv 2) pa_nil)))))), fun Y a hW => ?_⟩
  have plus : ∀ (m : Int), 0 < m → m < 1000000 → ∀ (es : List Ent) (tb : TE), es[0]? = some (.raw (.ref a)) → EvD Y K es tb (· = .int m) → EvD Y K es (tOp (rAddU K) (tC (.int 1)) (tCall (spW1 K (fun x => ∃ m : Int, x = .int m ∧ 0 < m ∧ m < 1000000) (fun x d => ∀ m : Int, x = .int m → ∃ r : Int, d = .int r ∧ 0 ≤ r ∧ r < m)) [] E0 (tCons (tVar 0) (tCons tb tNil)))) (fun d => ∃ n : Int, d = .int n ∧ 1 ≤ n ∧ n ≤ m) := fun m h1 h2 es tb he hb =>
    ev_op (Pa := fun d => d = .int 1) (Pb := fun _ d => ∃ r : Int, d = .int r ∧ 0 ≤ r ∧ r < m) et_int (fun _ _ => ((ev_w1 he hW hb ⟨m, rfl, h1, h2⟩).mono fun d h => h m rfl).tt) (fun _ _ e1 ⟨r, e2, g1, g2⟩ => by
      subst e1 e2
      exact os_addI.mono fun d e => ⟨_, e, by omega, by omega⟩)
  refine qs_parOwn (by decide) (plus 60 (by decide) (by decide) _ _ rfl ev_int) ?_
  rintro _ ⟨n, rfl, hn1, hn2⟩
  refine ss_seq (M := fun e => ∃ (g : List Int) (x y z q : Ent), e = [.raw (.ref a), x, .own (g.map .int), y, z, q] ∧ LineOk g ∧ g ≠ [] ∧ sumAbs g ≤ 60) ?_ ?_
  · refine ss_forR1 (ar_consd ev_int ar_nil) (by decide) (by decide) (fun k e => ∃ (l : Int) (g : List Int) (y z q : Ent), e = [.raw (.ref a), .dat (.int l), .own (g.map .int), y, z, q] ∧ LineOk g ∧ (0 < k → g ≠ []) ∧ (k = 0 → 0 < l) ∧ 0 ≤ l ∧ sumAbs g + l ≤ 60) ⟨n, [], .unk, .unk, .unk, rfl, ⟨fun _ q => (nomatch q), fun k a b q _ => by simp at q⟩, fun h => absurd h (by decide), fun _ => by omega, by omega, by show (0 : Int) + n ≤ 60; omega⟩ ?_ ?_
    case refine_2 =>
      rintro e ⟨l, g, y, z, q, rfl, h1, h2, _, h3, h4⟩
      exact ⟨g, _, _, _, _, rfl, h1, h2 (by decide), by omega⟩
    rintro k e hk ⟨l, g, y, z, q, rfl, h1, h2, h2', h3, h4⟩
    refine ss_ifd (tb_testd (ev_opd et_var et_int os_gt)) (fun e => ?_) (fun e => ?_)
    · have hl := of_decide_eq_true e
      refine qs_set (P := fun d => ∃ s : Int, d = .int s ∧ 1 ≤ s ∧ s ≤ l) (ev_cb2 (Pa := fun d => d = .int l) (Pb := fun _ d => ∃ n : Int, d = .int n ∧ 1 ≤ n ∧ n ≤ 60) et_var (fun _ _ => ?_) (fun _ _ e1 ⟨n, e2, g1, g2⟩ => ?_)) ?_
      · refine (ev_op (Pa := fun d => d = .int 1) (Pb := fun _ d => ∃ r : Int, d = .int r ∧ 0 ≤ r ∧ r < 60) et_int (fun _ _ => (EvD.mono (ev_w1x (Pa := fun d => ∃ m : Int, d = .int m ∧ 0 < m ∧ m ≤ 60) rfl hW (ev_op (Pa := fun d => d = .list [.int 3, .int 8, .int 60]) (Pb := fun _ d => ∃ r : Int, d = .int r ∧ 0 ≤ r ∧ r < 3) (ev_lstd (ar_consd ev_int (ar_consd ev_int (ar_consd ev_int ar_nil)))).tt (fun _ _ => ((ev_w1 rfl hW ev_int ⟨3, rfl, by decide, by decide⟩).mono fun d h => h 3 rfl).tt) (fun _ _ e1 ⟨r, e2, g1, g2⟩ => ?ix)) (fun x ⟨m, e, g1, g2⟩ => ⟨m, e, g1, by omega⟩)) fun d ⟨x, ⟨m, e, g1, g2⟩, h⟩ => ?res).tt) (fun _ _ e1 ⟨r, e2, g1, g2⟩ => ?add)).tt
        case ix =>
          subst e1 e2
          have h6 : r = 0 ∨ r = 1 ∨ r = 2 := by omega
          rcases h6 with rfl | rfl | rfl
          · exact (os_ixL (d := .int 3) rfl).mono fun d e => ⟨3, e, by decide, by decide⟩
          · exact (os_ixL (d := .int 8) rfl).mono fun d e => ⟨8, e, by decide, by decide⟩
          · exact (os_ixL (d := .int 60) rfl).mono fun d e => ⟨60, e, by decide, by decide⟩
        case res =>
          obtain ⟨r, e2, g3, g4⟩ := h m e
          exact ⟨r, e2, g3, by omega⟩
        case add =>
          subst e1 e2
          exact os_addI.mono fun d e => ⟨_, e, by omega, by omega⟩
      · subst e1 e2
        exact cb_min2.mono fun d e => ⟨_, e, by split <;> omega, by split <;> omega⟩
      rintro _ ⟨s, rfl, s1, s2⟩
      refine qs_set (P := fun d => ∃ b : Bool, d = .bool b ∧ (b = true → g = [] ∨ ∃ v, g.getLast? = some v ∧ 0 < v)) ?_ ?_
      · refine EvD.mono (ev_andVx (Pb := fun b => True) (Pc := fun c => c = true → g = [] ∨ ∃ v, g.getLast? = some v ∧ 0 < v) (ev_op (Pa := fun d => ∃ r : Int, d = .int r ∧ 0 ≤ r ∧ r < 3) (Pb := fun _ d => d = .int 0) (((ev_w1 rfl hW ev_int ⟨3, rfl, by decide, by decide⟩).mono fun d h => h 3 rfl).tt) (fun _ _ => et_int) (fun _ _ ⟨r, e1, _⟩ e2 => ?_)) fun _ => ?_) ?_
        · subst e1 e2
          exact os_eqI.mono fun d e => ⟨_, e, trivial⟩
        · refine EvD.mono (ev_orV (b := decide (g = [])) (c := decide (0 < g.getLast?.getD 0)) ((ev_opd et_own (ev_lstd ar_nil).tt (os_eqE g)).mono fun d e => e) fun hb => ?_) fun d e => ⟨_, e, fun hc => ?_⟩
          · have hg := of_decide_eq_false hb
            obtain ⟨p, v, rfl⟩ : ∃ p v, g = p ++ [v] := ⟨g.dropLast, g.getLast hg, (List.dropLast_concat_getLast hg).symm⟩
            rw [getLast_snoc]
            exact ev_opd (ev_opd et_own (ev_neg et_int).tt (os_ixL (last_int p v))).tt et_int os_gt
          · rcases Bool.or_eq_true_iff.mp hc with q | q
            · exact .inl (of_decide_eq_true q)
            · have q := of_decide_eq_true q
              cases hgl : g.getLast? with
              | none =>
                rw [hgl] at q
                exact absurd q (by decide)
              | some v =>
                rw [hgl] at q
                exact .inr ⟨v, rfl, q⟩
        · rintro d ⟨b, c, e, _, hc⟩
          exact ⟨b && c, e, fun hb => hc (Bool.and_eq_true_iff.mp hb).1 (Bool.and_eq_true_iff.mp hb).2⟩
      rintro _ ⟨b, rfl, hb⟩
      have hgl : g.length ≤ 60 := by have := (line_bounds h1.nz (by omega)).1; omega
      refine qs_app (P := fun d => d = .int (if b = true then -s else s)) rfl (EvD.mono (ev_ifd (tb_Bd ev_var) (fun _ => ev_opd et_int et_var os_sub) (fun _ => ev_var)) fun d e => ?_) (by rw [List.length_map]; omega) ?_
      · rw [e]
        cases b
        · rfl
        · show PyData.int (0 - s) = .int (-s)
          rw [Int.zero_sub]
      rintro _ rfl
      refine ss_setd (ev_opd et_var et_var os_sub) ?_
      have hx : absI (if b = true then -s else s) = s := by
        cases b with
        | false =>
          show (if s < 0 then -s else s) = s
          rw [if_neg (by omega)]
        | true =>
          show (if -s < 0 then -(-s) else -s) = s
          rw [if_pos (by omega)]
          omega
      refine ⟨l - s, g ++ [if b = true then -s else s], _, _, _, by rw [List.map_append]; rfl, h1.snoc (by cases b <;> simp <;> omega) (fun v hv q => ?_), fun _ => by simp, fun q => absurd q (by omega), by omega, ?_⟩
      · cases b with
        | false =>
          have := q.2
          simp at this
          omega
        | true =>
          rcases hb rfl with q2 | ⟨v2, q2, q3⟩
          · subst q2
            simp at hv
          · rw [hv] at q2
            cases q2
            omega
      · have e7 : sumAbs (g ++ [if b = true then -s else s]) = sumAbs g + s := by
          unfold sumAbs
          rw [List.map_append, List.sum_append]
          show _ + (absI _ + 0) = _
          rw [hx, Int.add_zero]
        omega
    · have hl := of_decide_eq_false e
      refine ss_next ⟨l, g, _, _, _, rfl, h1, fun _ => ?_, fun q => absurd q (by omega), h3, h4⟩
      by_cases k0 : 0 < k
      · exact h2 k0
      · have := h2' (by omega)
        omega
  · rintro _ ⟨g, x, y, z, q, rfl, h1, h2, h3⟩
    exact ss_retd (ev_cb1d et_own cb_tupL) ⟨g, rfl, lineB_of h1 h2 h3⟩

/-! _law_some -/
theorem k_law_some (D : Dn K mg "_law_some" s_law_some ["well"]) (B : Bi mg) (k_law_draw : Kn P w K mg base 1 "_law_draw" ["well", "many"] (spW1 K (fun x => ∃ m : Int, x = .int m ∧ 0 < m ∧ m < 1000000) (fun x d => ∀ m : Int, x = .int m → ∃ r : Int, d = .int r ∧ 0 ≤ r ∧ r < m)))
    (k_law_long : Kn P w K mg base 2 "_law_long" ["well"] (spW0 K (fun d => ∃ ns, d = dL ns ∧ lineB ns = true)))
    (k_law_short : Kn P w K mg base 2 "_law_short" ["well", "most"] (spW1 K (fun x => ∃ m : Nat, x = .int m ∧ 0 < m ∧ m ≤ 100) (fun x d => ∀ m : Nat, x = .int m → ∃ u, d = dS u ∧ WOk u ∧ u ≠ [] ∧ u.length ≤ m)))
    (k_law_pieces : Kn P w K mg base 1 "_law_pieces" ["word"] (sp1 K (fun d => ∃ u, d = dS u ∧ WOk u ∧ u.length ≤ 1000) (fun x d => ∀ u, x = dS u → d = dL (piecesOf u)))) :
    Kn P w K mg base 3 "_law_some" ["well"] (spW0 K (fun d => ∃ ns, d = dL ns ∧ lineB ns = true)) := by
  refine kn_ofW0 D sc_law_some (by decide) fun f cdv A outer s H E hr hu => ⟨_, (pss_one (ps_ret (pe_ifExp (pt_cmpR op_gt (pe_callN k_law_draw (hr.mono (by decide)) (pa_cons (pv 0) (pa_cons pe_int pa_nil))) pe_int (nomark _)) (pe_callN k_law_long (hr.mono (by decide)) (pa_cons (pv 0) pa_nil)) (pe_callN k_law_pieces (hr.mono (by decide)) (pa_cons (pe_callN k_law_short (hr.mono (by decide)) (pa_cons (pv 0) (pa_cons pe_int pa_nil))) pa_nil))))), fun Y a hW => ?_⟩
  refine ss_ret (P := fun d => ∃ ns, d = dL ns ∧ lineB ns = true) (ev_if (Pt := fun _ => True) (tb_test (ev_op (Pa := fun d => ∃ r : Int, d = .int r ∧ 0 ≤ r ∧ r < 3) (Pb := fun _ d => d = .int 0) (((ev_w1 rfl hW ev_int ⟨3, rfl, by decide, by decide⟩).mono fun d h => h 3 rfl).tt) (fun _ _ => et_int) (fun _ _ ⟨r, e1, _⟩ e2 => ?_))) (fun _ => ev_w0 rfl hW) (fun _ => ?_)) (fun _ h => h)
  · subst e1 e2
    exact os_gt.mono fun d e => ⟨_, e, trivial⟩
  · refine (ev_c1x (Pa := fun d => ∃ u, d = dS u ∧ WOk u ∧ u ≠ [] ∧ u.length ≤ 9) ((ev_w1 rfl hW ev_int ⟨9, rfl, by decide, by decide⟩).mono fun d h => h 9 rfl) fun x ⟨u, e, h1, h2, h3⟩ => ⟨u, e, h1, by omega⟩).mono ?_
    rintro d ⟨x, ⟨u, e, h1, h2, h3⟩, h⟩
    exact ⟨piecesOf u, h u e, (line_of_word h1 h2 (by omega)).1⟩

/-! _law_clear -/
theorem k_law_clear (D : Dn K mg "_law_clear" s_law_clear []) : Kn P w K mg base 1 "_law_clear" [] (spF K 0 (fun _ => True) (fun _ d => d = sdD sdClear)) := by
  refine kn_of (n := 0) D sc_law_clear rfl (by decide) fun f cdv A outer s H E hr => ⟨_, (pss_one (ps_ret (pe_tup (pa_cons pe_str (pa_cons pe_str (pa_cons pe_str (pa_cons pe_int (pa_cons pe_int (pa_cons pe_bl (pa_cons pe_bl pa_nil)))))))))), fun Y ds hl _ => ?_⟩
  have e := len0 hl
  subst e
  exact ss_retd (ev_tupd (ar_consd (ev_s (l := wClear)) (ar_consd (ev_s (l := [])) (ar_consd (ev_s (l := [])) (ar_consd ev_int (ar_consd ev_int (ar_consd ev_bl (ar_consd ev_bl ar_nil)))))))) rfl

/-! _law_said -/
theorem k_law_said (D : Dn K mg "_law_said" s_law_said ["well"]) (B : Bi mg) (k_law_draw : Kn P w K mg base 1 "_law_draw" ["well", "many"] (spW1 K (fun x => ∃ m : Int, x = .int m ∧ 0 < m ∧ m < 1000000) (fun x d => ∀ m : Int, x = .int m → ∃ r : Int, d = .int r ∧ 0 ≤ r ∧ r < m)))
    (k_law_clear : Kn P w K mg base 1 "_law_clear" [] (spF K 0 (fun _ => True) (fun _ d => d = sdD sdClear))) :
    Kn P w K mg base 2 "_law_said" ["well"] (spW0 K (fun d => ∃ s ∈ sdAll, d = sdD s)) := by
  refine kn_ofW0 D sc_law_said (by decide) fun f cdv A outer s H E hr hu => ⟨_, (pss_cons (ps_set (i := 1) sc_law_said.nd rfl (by first | exact Or.inl rfl | exact Or.inr rfl) (pe_callN k_law_draw (hr.mono (by decide)) (pa_cons (pv 0) (pa_cons pe_int pa_nil))))
      (pss_cons (ps_if (pt_cmpR (kop_eq (K := K) rfl hu) (pv 1) pe_int (nomark _)) (pss_one (ps_ret (pe_callN0 k_law_clear (hr.mono (by decide))))) pss_nil)
      (pss_cons (ps_set (i := 2) sc_law_said.nd rfl (by first | exact Or.inl rfl | exact Or.inr rfl) (pe_ix (kix (K := K) rfl) (pe_lst (pa_cons pe_str (pa_cons pe_str (pa_cons pe_str pa_nil)))) (pe_callN k_law_draw (hr.mono (by decide)) (pa_cons (pv 0) (pa_cons pe_int pa_nil))) (fun _ _ => rfl)))
      (pss_cons (ps_set (i := 3) sc_law_said.nd rfl (by first | exact Or.inl rfl | exact Or.inr rfl) (pe_ix (kix (K := K) rfl) (pe_lst (pa_cons pe_str (pa_cons pe_str (pa_cons pe_str (pa_cons pe_str (pa_cons pe_str (pa_cons pe_str (pa_cons pe_str pa_nil)))))))) (pe_callN k_law_draw (hr.mono (by decide)) (pa_cons (pv 0) (pa_cons pe_int pa_nil))) (fun _ _ => rfl)))
      (pss_cons (ps_par (i := 4) (j := 5) rfl sc_law_said.nd rfl rfl (by decide) rfl rfl (pa_cons (pe_callN k_law_draw (hr.mono (by decide)) (pa_cons (pv 0) (pa_cons pe_int pa_nil))) (pa_cons (pe_op (kop_add (K := K) rfl) pe_int (pe_callN k_law_draw (hr.mono (by decide)) (pa_cons (pv 0) (pa_cons pe_int pa_nil)))) pa_nil)) rfl)
      (pss_cons (ps_if (pt_cmpR (kop_in (K := K) rfl) (pv 3) (pe_lst (pa_cons pe_str (pa_cons pe_str pa_nil))) rfl) (pss_one (ps_asg (pe_tup (pa_cons pe_str (pa_cons pe_int (pa_cons pe_int pa_nil)))) (kpg_tri (K := K) (i := 2) (j := 4) (l := 5) rfl rfl sc_law_said.nd rfl rfl rfl (by first | exact Or.inl rfl | exact Or.inr rfl) (by first | exact Or.inl rfl | exact Or.inr rfl) (by first | exact Or.inl rfl | exact Or.inr rfl)))) pss_nil)
      (pss_cons (ps_if (pt_cmpR (kop_in (K := K) rfl) (pv 3) (pe_lst (pa_cons pe_str (pa_cons pe_str pa_nil))) rfl) (pss_one (ps_par (i := 4) (j := 5) rfl sc_law_said.nd rfl rfl (by decide) rfl rfl (pa_cons (pe_callB (call_max2 rfl) (by rfl) B.max bt_max (pa_cons pe_int (pa_cons (pv 4) pa_nil))) (pa_cons pe_int pa_nil)) rfl)) pss_nil)
      (pss_cons (ps_par (i := 6) (j := 7) rfl sc_law_said.nd rfl rfl (by decide) rfl rfl (pa_cons (pe_ifExp (pt_cmpR op_gt (pv 1) pe_int (nomark _)) pe_str pe_str) (pa_cons (pe_cmpR (kop_eq (K := K) rfl hu) (pe_callN k_law_draw (hr.mono (by decide)) (pa_cons (pv 0) (pa_cons pe_int pa_nil))) pe_int (nomark _)) pa_nil)) rfl)
      (pss_one (ps_ret (pe_tup (pa_cons (pv 6) (pa_cons (pv 2) (pa_cons (pv 3) (pa_cons (pv 4) (pa_cons (pv 5) (pa_cons (pe_cmpR op_lt (pv 1) pe_int (nomark _)) (pa_cons (pv 7) pa_nil)))))))))))))))))), fun Y a hW => ?_⟩
  refine qs_set (ev_draw rfl hW (by decide) (by decide)) ?_
  rintro _ ⟨c, rfl, c0, c1⟩
  refine qs_whend (tb_testd (ev_opd et_var et_int os_eqI)) (fun _ => ss_ret (ev_call ar_nil rfl trivial) fun d e => ⟨_, List.mem_cons_self, e⟩) (fun hc => ?_)
  have hc := of_decide_eq_false hc
  refine qs_set (P := fun d => ∃ w ∈ scopesL, d = dS w) (ev_pickW (ws := scopesL) (ev_lstd (ar_consd (ev_s (l := wRow)) (ar_consd (ev_s (l := wTrue)) (ar_consd (ev_s (l := wLine)) ar_nil)))).tt (ev_draw rfl hW (by decide) (by decide)) rfl) ?_
  rintro _ ⟨sc, hsc, rfl⟩
  refine qs_set (P := fun d => ∃ w ∈ waysL, d = dS w) (ev_pickW (ws := waysL) (ev_lstd (ar_consd (ev_s (l := wBack)) (ar_consd (ev_s (l := wAhead)) (ar_consd (ev_s (l := wAround)) (ar_consd (ev_s (l := wAtBack)) (ar_consd (ev_s (l := wAtAhead)) (ar_consd (ev_s (l := wFirst)) (ar_consd (ev_s (l := wLast)) ar_nil)))))))).tt (ev_draw rfl hW (by decide) (by decide)) rfl) ?_
  rintro _ ⟨wy, hwy, rfl⟩
  refine qs_parx (Pr := fun x y => ∃ n e : Nat, x = .int (n : Int) ∧ y = .int (e : Int) ∧ n < 4 ∧ 1 ≤ e ∧ e < 4) ((ar_two (ev_draw rfl hW (by decide) (by decide)) (ev_op (P := fun d => ∃ r : Int, d = .int (1 + r) ∧ 0 ≤ r ∧ r < 3) et_int (fun _ _ => (ev_draw rfl hW (m := 3) (by decide) (by decide)).tt) (fun x y e1 e2 => ?_))).mono ?_) ?_
  · obtain ⟨r, e2, h0, h1⟩ := e2
    subst e1 e2
    exact os_addI.mono fun d e => ⟨r, e, h0, h1⟩
  · rintro ds ⟨x, y, e, ⟨r, e1, h0, h1⟩, ⟨q, e2, h2, h3⟩⟩
    exact ⟨x, y, e, r.toNat, (1 + q).toNat, by rw [e1]; congr 1; omega, by rw [e2]; congr 1; omega, by omega, by omega, by omega⟩
  rintro _ _ ⟨n, e, rfl, rfl, hn, he1, he2⟩
  refine ss_seq (M := fun es => ∃ (sc' : List Nat) (n' e' : Nat), es = [.raw (.ref a), .dat (.int c), .dat (dS sc'), .dat (dS wy), .dat (.int (n' : Int)), .dat (.int (e' : Int)), .unk, .unk] ∧ sc' ∈ scopesL ∧ n' < 4 ∧ 1 ≤ e' ∧ e' < 4 ∧ (wy ∈ [wFirst, wLast] → sc' = wRow ∧ n' = 0 ∧ e' = 1)) ?_ ?_
  · refine ss_ifd (bb := decide (wy ∈ [wFirst, wLast])) (tb_testd (ev_opd et_var (EvD.tt (ev_lstd (ar_consd (ev_s (l := wFirst)) (ar_consd (ev_s (l := wLast)) ar_nil)))) (os_inWs (ws := [wFirst, wLast])))) (fun h => ?_) (fun h => ?_)
    · exact ss_unp3 (ev_tupd (ar_consd (ev_s (l := wRow)) (ar_consd ev_int (ar_consd ev_int ar_nil)))) fun d ed => ⟨_, _, _, ed, wRow, 0, 1, rfl, by decide, by decide, by decide, by decide, fun _ => ⟨rfl, rfl, rfl⟩⟩
    · exact ss_next ⟨sc, n, e, rfl, hsc, hn, he1, he2, fun z => absurd z (of_decide_eq_false h)⟩
  rintro _ ⟨sc', n', e', rfl, hsc', hn', he1', he2', hfl⟩
  refine ss_seq (M := fun es => ∃ (n2 e2 : Nat), es = [.raw (.ref a), .dat (.int c), .dat (dS sc'), .dat (dS wy), .dat (.int (n2 : Int)), .dat (.int (e2 : Int)), .unk, .unk] ∧ n2 < 4 ∧ 1 ≤ e2 ∧ e2 < 4 ∧ goB sc' wy n2 e2 = true) ?_ ?_
  · refine ss_ifd (bb := decide (wy ∈ [wAtBack, wAtAhead])) (tb_testd (ev_opd et_var (EvD.tt (ev_lstd (ar_consd (ev_s (l := wAtBack)) (ar_consd (ev_s (l := wAtAhead)) ar_nil)))) (os_inWs (ws := [wAtBack, wAtAhead])))) (fun h => ?_) (fun h => ?_)
    · have h := of_decide_eq_true h
      refine ss_par (ar_consd (ev_cb2d et_int et_var cb_max2) (ar_consd ev_int ar_nil)) fun ds ed => ⟨_, _, ed, max 1 n', 1, ?_, by omega, by decide, by decide, ?_⟩
      · show [_, _, _, _, Ent.dat (.int _), _, _, _] = _
        have e9 : (if ((n' : Nat) : Int) > 1 then ((n' : Nat) : Int) else 1) = ((max 1 n' : Nat) : Int) := by split <;> omega
        rw [e9]
        rfl
      · unfold goB
        simp only [List.mem_cons, List.not_mem_nil, or_false] at h
        rw [if_neg (by rcases h with rfl | rfl <;> decide), if_pos h]
        simp
        omega
    · have h := of_decide_eq_false h
      refine ss_next ⟨n', e', rfl, hn', he1', he2', ?_⟩
      unfold goB
      simp only [List.mem_cons, List.not_mem_nil, or_false] at h hfl
      by_cases hf : wy = wFirst ∨ wy = wLast
      · rw [if_pos hf]
        exact decide_eq_true (hfl hf)
      · rw [if_neg hf, if_neg h]
  rintro _ ⟨n2, e2, rfl, hn2, he3, he4, hg⟩
  refine qs_parx (Pr := fun x y => x = dS (if 5 < c then wAdd else wLook) ∧ ∃ b : Bool, y = .bool b) ((ar_two (ev_ifd (b := decide (5 < c)) (tb_testd (ev_opd et_var et_int os_gt)) (fun _ => ev_s (l := wAdd)) (fun _ => ev_s (l := wLook))) (ev_op (P := fun d => ∃ b : Bool, d = .bool b) (ev_draw rfl hW (m := 3) (by decide) (by decide)).tt (fun _ _ => et_int) (fun x y e1 e2 => ?_))).mono ?_) ?_
  · obtain ⟨r, e1, _⟩ := e1
    subst e1 e2
    exact os_eqI.mono fun d e => ⟨_, e⟩
  · rintro ds ⟨x, y, e, e1, e2⟩
    refine ⟨x, y, e, ?_, e2⟩
    rw [e1]
    by_cases h5 : 5 < c
    · rw [if_pos (decide_eq_true h5), if_pos h5]
    · rw [if_neg (by simpa using h5), if_neg h5]
  rintro _ _ ⟨rfl, b, rfl⟩
  refine ss_retd (ev_tupd (ar_consd ev_var (ar_consd ev_var (ar_consd ev_var (ar_consd ev_var (ar_consd ev_var (ar_consd (ev_opd et_var et_int os_lt) (ar_consd ev_var ar_nil)))))))) ⟨⟨if 5 < c then wAdd else wLook, sc', wy, n2, e2, decide (c < 3), b⟩, sdAll_mem ?_ hsc' hwy hn2 he3 he4 hg, rfl⟩
  by_cases h5 : 5 < c
  · rw [if_pos h5, decide_eq_false (show ¬ c < 3 by omega)]
    decide
  · rw [if_neg h5]
    by_cases h3 : c < 3
    · rw [decide_eq_true h3]
      decide
    · rw [decide_eq_false h3]
      decide

/-! _law_width -/
theorem k_law_width (D : Dn K mg "_law_width" s_law_width ["said"]) (B : Bi mg) : Kn P w K mg base 1 "_law_width" ["said"] (sp1 K (fun x => ∃ s ∈ sdAll, x = sdD s) (fun x d => ∀ s, x = sdD s → d = .int (wdF s : Nat))) := by
  refine kn_of1 D sc_law_width (by decide) fun f cdv A outer s H E hr hu => ⟨_, (pss_cons (ps_if (pt_cmpR (kop_eq (K := K) rfl hu) (pe_ix (kix (K := K) rfl) (pv 0) pe_int (fun _ _ => rfl)) pe_str (nomark _)) (pss_one (ps_ret pe_int)) pss_nil)
      (pss_cons (ps_if (pt_cmpR (kop_in (K := K) rfl) (pe_ix (kix (K := K) rfl) (pv 0) pe_int (fun _ _ => rfl)) (pe_lst (pa_cons pe_str (pa_cons pe_str pa_nil))) rfl) (pss_one (ps_ret pe_int)) pss_nil)
      (pss_one (ps_ret (pe_ifExp (pt_cmpR op_gt (pe_ix (kix (K := K) rfl) (pv 0) pe_int (fun _ _ => rfl)) pe_int (nomark _)) (pe_ix (kix (K := K) rfl) (pv 0) pe_int (fun _ _ => rfl)) (pe_ix (kix (K := K) rfl) (pv 0) pe_int (fun _ _ => rfl))))))), fun Y x ⟨z, _, e⟩ => ?_⟩
  subst e
  have end_ : ∀ d, d = PyData.int (wdF z : Nat) → ∀ s, sdD z = sdD s → d = .int (wdF s : Nat) := fun d e s h => by rw [← sdD_inj h]; exact e
  refine qs_whend (bb := decide (z.verb = wClear)) (tb_testd (ev_opd (ev_opd et_var et_int (os_ixT (i := 0) rfl)).tt (et_s (l := wClear)) os_eqS')) (fun e => ss_retd ev_int (end_ _ ?_)) (fun e => ?_)
  · have e := of_decide_eq_true e
    unfold wdF
    rw [if_pos e]
    rfl
  have h0 := of_decide_eq_false e
  refine qs_whend (bb := decide (z.way ∈ [wFirst, wLast])) (tb_testd (ev_opd (ev_opd et_var et_int (os_ixT (i := 2) rfl)).tt (EvD.tt (ev_lstd (ar_consd (ev_s (l := wFirst)) (ar_consd (ev_s (l := wLast)) ar_nil)))) (os_inWs (ws := [wFirst, wLast])))) (fun e => ss_retd ev_int (end_ _ ?_)) (fun e => ?_)
  · unfold wdF
    rw [if_neg h0, if_pos (of_decide_eq_true e)]
    rfl
  have h1 := of_decide_eq_false e
  refine ss_retd (d := .int (wdF z : Nat)) (EvD.to (ev_ifd (b := decide (0 < z.num)) ((tb_testd (ev_opd (ev_opd et_var et_int (os_ixT (i := 3) rfl)).tt et_int os_gt)).mono fun d e => e.trans (decide_eq_decide.mpr (by omega))) (fun _ => ev_opd et_var et_int (os_ixT (i := 3) rfl)) (fun _ => ev_opd et_var et_int (os_ixT (i := 4) rfl))) ?_) (end_ _ rfl)
  unfold wdF
  rw [if_neg h0, if_neg h1]
  by_cases hn : 0 < z.num
  · rw [if_pos (decide_eq_true hn), if_pos hn]
  · rw [if_neg (by simpa using hn), if_neg hn]

/-! _law_saids -/
theorem k_law_saids (D : Dn K mg "_law_saids" s_law_saids ["well", "most"]) (B : Bi mg) (k_law_draw : Kn P w K mg base 1 "_law_draw" ["well", "many"] (spW1 K (fun x => ∃ m : Int, x = .int m ∧ 0 < m ∧ m < 1000000) (fun x d => ∀ m : Int, x = .int m → ∃ r : Int, d = .int r ∧ 0 ≤ r ∧ r < m)))
    (k_law_clear : Kn P w K mg base 1 "_law_clear" [] (spF K 0 (fun _ => True) (fun _ d => d = sdD sdClear)))
    (k_law_said : Kn P w K mg base 2 "_law_said" ["well"] (spW0 K (fun d => ∃ s ∈ sdAll, d = sdD s)))
    (k_law_width : Kn P w K mg base 1 "_law_width" ["said"] (sp1 K (fun x => ∃ s ∈ sdAll, x = sdD s) (fun x d => ∀ s, x = sdD s → d = .int (wdF s : Nat)))) :
    Kn P w K mg base 3 "_law_saids" ["well", "most"] (spW1 K (fun x => ∃ m : Int, x = .int m ∧ 0 < m ∧ m ≤ 100) (fun x d => ∀ m : Int, x = .int m → ∃ ss : List Sd, d = .list (ss.map sdD) ∧ SaidsOk m ss)) := by
  refine kn_ofW1 D sc_law_saids (by decide) fun f cdv A outer s H E hr hu => ⟨_, (pss_cons (ps_par (i := 2) (j := 3) rfl sc_law_saids.nd rfl rfl (by decide) rfl rfl (pa_cons (pe_lst pa_nil) (pa_cons pe_int pa_nil)) rfl)
      (pss_cons (ps_for PassesOwn.never rfl (pi_range1 (by rfl) B.range (pa_cons (pe_op (kop_add (K := K) rfl) pe_int (pe_callN k_law_draw (hr.mono (by decide)) (pa_cons (pv 0) (pa_cons (pv 1) pa_nil)))) pa_nil)) (pg_name (i := 4) sc_law_saids.nd rfl (by first | exact Or.inl rfl | exact Or.inr rfl)) (pss_cons (ps_set (i := 5) sc_law_saids.nd rfl (by first | exact Or.inl rfl | exact Or.inr rfl) (pe_callN k_law_said (hr.mono (by decide)) (pa_cons (pv 0) pa_nil)))
      (pss_cons (ps_if (pt_cmpR op_gt (pe_op (kop_add (K := K) rfl) (pv 3) (pe_callN k_law_width (hr.mono (by decide)) (pa_cons (pv 5) pa_nil))) pe_int (nomark _)) (pss_one (ps_set (i := 5) sc_law_saids.nd rfl (by first | exact Or.inl rfl | exact Or.inr rfl) (pe_callN0 k_law_clear (hr.mono (by decide))))) pss_nil)
      (pss_cons (ps_expr (kpe_bm (K := K) rfl PySem.F.plainAttrs_list PySem.F.slot_list_append PySem.F.type_list_append mt_append (pv 2) (pa_cons (pv 5) pa_nil)))
      (pss_one (ps_set (i := 3) sc_law_saids.nd rfl (by first | exact Or.inl rfl | exact Or.inr rfl) (pe_op (kop_add (K := K) rfl) (pv 3) (pe_callN k_law_width (hr.mono (by decide)) (pa_cons (pv 5) pa_nil)))))))))
      (pss_one (ps_ret (pv 2))))), fun Y a x hW hp => ?_⟩
  obtain ⟨m, rfl, hm0, hm1⟩ := hp
  refine qs_parOwn1 (.int 0) ?_
  refine ss_seq (M := fun e => ∃ (ss : List Sd) (z1 z2 z3 : Ent), e = [.raw (.ref a), .dat (.int m), .own (ss.map sdD), z1, z2, z3] ∧ SaidsOk m ss) ?_ ?_
  · refine ss_forR1x (Pl := fun n => 1 ≤ n ∧ n ≤ m) ((ar_cons (ev_op (P := fun d => ∃ n : Int, d = .int n ∧ 1 ≤ n ∧ n ≤ m) et_int (fun _ _ => ((ev_w1 rfl hW ev_var ⟨m, rfl, hm0, by omega⟩).mono fun d h => h m rfl).tt) (fun x y e1 e2 => ?_)) fun _ _ => ar_nil).mono ?_) (fun n h => ⟨by omega, by omega⟩) (fun n k e => ∃ (ss : List Sd) (z1 z2 : Ent), e = [.raw (.ref a), .dat (.int m), .own (ss.map sdD), .dat (.int ((ss.map wdF).sum : Nat)), z1, z2] ∧ (∀ s ∈ ss, s ∈ sdAll) ∧ ss.length = k ∧ (ss.map wdF).sum ≤ 8) (fun n _ => ⟨[], _, _, rfl, fun s h => (nomatch h), rfl, Nat.zero_le _⟩) ?_ ?_
    · obtain ⟨r, e2, h0, h1⟩ := e2
      subst e1 e2
      exact os_addI.mono fun d e => ⟨1 + r, e, by omega, by omega⟩
    · rintro ds ⟨d, r, e1, ⟨n, e2, h1, h2⟩, e3⟩
      exact ⟨n, by rw [e1, e2, e3], h1, h2⟩
    · rintro n ⟨hn0, hn1⟩ k _ hk ⟨ss, z1, z2, rfl, h1, h2, h3⟩
      refine qs_set (ev_w0 rfl hW) ?_
      rintro _ ⟨s, hs, rfl⟩
      refine ss_seq (M := fun e => ∃ s' ∈ sdAll, e = [.raw (.ref a), .dat (.int m), .own (ss.map sdD), .dat (.int ((ss.map wdF).sum : Nat)), .dat (.int k), .dat (sdD s')] ∧ (ss.map wdF).sum + wdF s' ≤ 8) ?_ ?_
      · refine ss_ifd (bb := decide (8 < (ss.map wdF).sum + wdF s)) ((tb_testd (ev_opd (ev_opd et_var (((ev_c1 ev_var ⟨s, hs, rfl⟩).mono fun d h => h s rfl)).tt os_addI).tt et_int os_gt)).mono fun d e => e.trans (decide_eq_decide.mpr (by omega))) (fun h => ?_) (fun h => ?_)
        · exact ss_set (ev_call ar_nil rfl trivial) fun d e => ⟨sdClear, List.mem_cons_self, by rw [e]; rfl, by show _ + 0 ≤ 8; omega⟩
        · exact ss_next ⟨s, hs, rfl, by have := of_decide_eq_false h; omega⟩
      rintro _ ⟨s', hs', rfl, hw⟩
      refine qs_app rfl (ev_var (d := sdD s')) (by rw [List.length_map]; omega) ?_
      rintro _ rfl
      refine ss_setd (ev_opd et_var (((ev_c1 ev_var ⟨s', hs', rfl⟩).mono fun d h => h s' rfl)).tt os_addI) ⟨ss ++ [s'], .dat (.int k), .dat (sdD s'), ?_, fun q hq => ?_, by rw [List.length_append, h2]; rfl, by rw [List.map_append, List.sum_append]; simpa using hw⟩
      · rw [List.map_append, List.map_append, List.sum_append]
        have e9 : (((ss.map wdF).sum : Nat) : Int) + ((wdF s' : Nat) : Int) = (((ss.map wdF).sum + ([s'].map wdF).sum : Nat) : Int) := by
          simp
        rw [← e9]
        rfl
      · rcases List.mem_append.mp hq with h | h
        · exact h1 q h
        · rw [List.mem_singleton.mp h]
          exact hs'
    · rintro n e ⟨hn0, hn1⟩ ⟨ss, z1, z2, rfl, h1, h2, h3⟩
      exact ⟨ss, _, _, _, rfl, h1, fun z => by rw [z] at h2; have h2 : 0 = n.toNat := h2; omega, by omega, h3⟩
  rintro _ ⟨ss, z1, z2, z3, rfl, ok⟩
  refine ss_retOwn rfl fun m' e => ⟨ss, rfl, ?_⟩
  cases e
  exact ok

/-! _law_text -/
theorem k_law_text (D : Dn K mg "_law_text" s_law_text ["said"]) (B : Bi mg) : Kn P w K mg base 1 "_law_text" ["said"] (sp1 K (fun x => ∃ s ∈ sdAll, x = sdD s) (fun x d => ∀ s, x = sdD s → d = dS (txF s))) := by
  refine kn_of1 D sc_law_text (by decide) fun f cdv A outer s H E hr hu => ⟨_, (pss_cons (ps_if (pt_cmpR (kop_eq (K := K) rfl hu) (pe_ix (kix (K := K) rfl) (pv 0) pe_int (fun _ _ => rfl)) pe_str (nomark _)) (pss_one (ps_ret pe_str)) pss_nil)
      (pss_cons (ps_par (i := 1) (j := 2) rfl sc_law_text.nd rfl rfl (by decide) rfl rfl (pa_cons (pe_ix (kix (K := K) rfl) (pv 0) pe_int (fun _ _ => rfl)) (pa_cons (pe_ix (kix (K := K) rfl) (pe_lst (pa_cons pe_str (pa_cons pe_str (pa_cons pe_str (pa_cons pe_str pa_nil))))) (pe_ix (kix (K := K) rfl) (pv 0) pe_int (fun _ _ => rfl)) (fun _ _ => rfl)) pa_nil)) rfl)
      (pss_cons (ps_if (pt_cmpR (kop_in (K := K) rfl) (pv 1) (pe_lst (pa_cons pe_str (pa_cons pe_str pa_nil))) rfl) (pss_one (ps_set (i := 1) sc_law_text.nd rfl (by first | exact Or.inl rfl | exact Or.inr rfl) (pe_op (kop_add (K := K) rfl) (pe_op (kop_add (K := K) rfl) pe_str (pv 2)) (pe_slice (ksl (K := K) rfl) (pv 1) (po_some pe_int) po_none)))) (pss_one (ps_if (pt_cmpR (kop_notIn (K := K) rfl) (pv 1) (pe_lst (pa_cons pe_str (pa_cons pe_str pa_nil))) rfl) (pss_one (ps_set (i := 1) sc_law_text.nd rfl (by first | exact Or.inl rfl | exact Or.inr rfl) (pe_op (kop_add (K := K) rfl) (pe_op (kop_add (K := K) rfl) (pv 1) pe_str) (pv 2)))) pss_nil)))
      (pss_cons (ps_set (i := 3) sc_law_text.nd rfl (by first | exact Or.inl rfl | exact Or.inr rfl) (pe_ifExp (pt_cmpR op_gt (pe_ix (kix (K := K) rfl) (pv 0) pe_int (fun _ _ => rfl)) pe_int (nomark _)) (pe_op (kop_add (K := K) rfl) pe_str (pe_callTy call_str_int (by rfl) B.str bt_txt (pa_cons (pe_ix (kix (K := K) rfl) (pv 0) pe_int (fun _ _ => rfl)) pa_nil))) pe_str))
      (pss_cons (ps_set (i := 3) sc_law_text.nd rfl (by first | exact Or.inl rfl | exact Or.inr rfl) (pe_op (kop_add (K := K) rfl) (pe_op (kop_add (K := K) rfl) (pv 3) (pe_ifExp (pt_val (pe_ix (kix (K := K) rfl) (pv 0) pe_int (fun _ _ => rfl))) pe_str pe_str)) (pe_ifExp (pt_val (pe_ix (kix (K := K) rfl) (pv 0) pe_int (fun _ _ => rfl))) pe_str pe_str)))
      (pss_one (ps_ret (pe_op (kop_add (K := K) rfl) (pe_op (kop_add (K := K) rfl) (pe_op (kop_add (K := K) rfl) (pe_op (kop_add (K := K) rfl) (pe_op (kop_add (K := K) rfl) (pe_ix (kix (K := K) rfl) (pv 0) pe_int (fun _ _ => rfl)) pe_str) (pe_ix (kix (K := K) rfl) (pv 0) pe_int (fun _ _ => rfl))) pe_str) (pv 1)) (pv 3))))))))), fun Y x ⟨z, hz, e⟩ => ?_⟩
  subst e
  have end_ : ∀ d, d = dS (txF z) → ∀ s, sdD z = sdD s → d = dS (txF s) := fun d e s h => by rw [← sdD_inj h]; exact e
  obtain ⟨n4, e4⟩ := sdAll_num hz
  obtain ⟨l1, l2, l3⟩ := sdAll_len hz
  refine qs_whend (bb := decide (z.verb = wClear)) (tb_testd (ev_opd (ev_opd et_var et_int (os_ixT (i := 0) rfl)).tt (et_s (l := wClear)) os_eqS')) (fun e => ss_retd (ev_s (l := wClear)) (end_ _ ?_)) (fun e => ?_)
  · have e := of_decide_eq_true e
    unfold txF
    rw [if_pos e]
  have h0 := of_decide_eq_false e
  refine qs_par (a := dS z.way) (b := dS (numT z.num)) (ar_consd (ev_opd et_var et_int (os_ixT (i := 2) rfl)) (ar_consd (EvD.mono (ev_op (Pa := fun d => d = dW [wAll, digN 1, digN 2, digN 3]) (Pb := fun _ d => d = .int (z.num : Int)) (EvD.tt (ev_lstd (ar_consd (ev_s (l := wAll)) (ar_consd (ev_s (l := digN 1)) (ar_consd (ev_s (l := digN 2)) (ar_consd (ev_s (l := digN 3)) ar_nil)))))) (fun _ _ => (ev_opd et_var et_int (os_ixT (i := 3) rfl)).tt) (fun _ _ e1 e2 => by subst e1 e2; exact os_ixW (w := numT z.num) (by
    have h5 : z.num = 0 ∨ z.num = 1 ∨ z.num = 2 ∨ z.num = 3 := by omega
    rcases h5 with h | h | h | h <;> rw [h] <;> rfl))) fun d e => e) ar_nil)) ?_
  have ln : (numT z.num).length ≤ 3 := by unfold numT; split <;> exact Nat.le_of_ble_eq_true rfl
  refine ss_seq (M := fun es => es = [.dat (sdD z), .dat (dS (txWay z.way z.num)), .dat (dS (numT z.num)), .unk]) ?_ ?_
  · refine ss_ifd (bb := decide (z.way ∈ [wAtBack, wAtAhead])) (tb_testd (ev_opd et_var (EvD.tt (ev_lstd (ar_consd (ev_s (l := wAtBack)) (ar_consd (ev_s (l := wAtAhead)) ar_nil)))) (os_inWs (ws := [wAtBack, wAtAhead])))) (fun h => ?_) (fun h => ?_)
    · refine ss_setd (d := dS (txWay z.way z.num)) (EvD.to (ev_opd (ev_opd (et_s (l := [97, 116, 32])) et_var (os_addS' (by simp only [List.length_cons, List.length_nil]; omega))).tt (ev_sl et_var (pa_some ev_int) pa_none (ss_from (by decide) (by omega))).tt (os_addS' (by rw [List.length_append, List.length_drop]; simp only [List.length_cons, List.length_nil]; omega))) ?_) rfl
      unfold txWay
      rw [if_pos (of_decide_eq_true h)]
      rfl
    · refine ss_ifd (bb := !decide (z.way ∈ [wFirst, wLast])) (tb_testd (ev_opd et_var (EvD.tt (ev_lstd (ar_consd (ev_s (l := wFirst)) (ar_consd (ev_s (l := wLast)) ar_nil)))) (os_notInL' (ws := [wFirst, wLast])))) (fun h2 => ?_) (fun h2 => ss_next ?_)
      · refine ss_setd (d := dS (txWay z.way z.num)) (EvD.to (ev_opd (ev_opd et_var (et_s (l := [32])) (os_addS' (by simp only [List.length_cons, List.length_nil]; omega))).tt et_var (os_addS' (by rw [List.length_append]; simp only [List.length_cons, List.length_nil]; omega))) ?_) rfl
        unfold txWay
        rw [if_neg (of_decide_eq_false h), if_neg (by simpa using h2)]
      · have e9 : txWay z.way z.num = z.way := by
          unfold txWay
          rw [if_neg (of_decide_eq_false h), if_pos (by cases q : decide (z.way ∈ [wFirst, wLast]) with | true => exact of_decide_eq_true q | false => rw [q] at h2; cases h2)]
        rw [e9]
        rfl
  rintro _ rfl
  have lw : (txWay z.way z.num).length ≤ 40 := by
    unfold txWay
    split
    · rw [List.length_append, List.length_append, List.length_drop]
      simp only [List.length_cons, List.length_nil]
      omega
    · split
      · omega
      · rw [List.length_append, List.length_append]
        simp only [List.length_cons, List.length_nil]
        omega
  refine qs_setd (d := dS (if 1 < z.ev then [32, 101, 118, 101, 114, 121, 32] ++ digN z.ev else [])) (EvD.to (ev_ifd (b := decide (1 < z.ev)) ((tb_testd (ev_opd (ev_opd et_var et_int (os_ixT (i := 4) rfl)).tt et_int os_gt)).mono fun d e => e.trans (decide_eq_decide.mpr (by omega))) (fun _ => ev_opd (et_s (l := [32, 101, 118, 101, 114, 121, 32])) (ev_cb1d (ev_opd et_var et_int (os_ixT (i := 4) rfl)).tt ((cb_strI (i := (z.ev : Int)) (by
    have h5 : (z.ev : Int).natAbs = z.ev := rfl
    have h4 : z.ev.log2 ≤ z.ev := Nat.log2_le_self _
    rw [h5]
    omega)).mono fun d e => by rw [e, str_dig e4])).tt (os_addS' (y := digN z.ev) (Nat.le_of_ble_eq_true rfl))) (fun _ => ev_s (l := []))) ?_) ?_
  · by_cases h : 1 < z.ev
    · rw [if_pos (decide_eq_true h), if_pos h]
    · rw [if_neg (by simpa using h), if_neg h]
  have la : (if 1 < z.ev then [32, 101, 118, 101, 114, 121, 32] ++ digN z.ev else []).length ≤ 8 := by split <;> exact Nat.le_of_ble_eq_true rfl
  generalize hA : (if 1 < z.ev then [32, 101, 118, 101, 114, 121, 32] ++ digN z.ev else []) = A at la
  have lb : ∀ (b : Bool) (u : List Nat), u.length ≤ 10 → (if b = true then u else []).length ≤ 10 := fun b u h => by
    cases b
    · exact Nat.zero_le _
    · exact h
  have cond : ∀ {es : List Ent} {te ue we : TE} {b : Bool} {u : List Nat}, EvD Y K es te (· = .bool b) → EvD Y K es ue (· = dS u) → EvD Y K es we (· = dS []) → EvD Y K es (tIf (tTest te) ue we) (· = dS (if b = true then u else [])) := fun {es te ue we b u} h1 h2 h3 => EvD.to (ev_ifd (tb_testd h1) (fun _ => h2) (fun _ => h3)) (by cases b <;> rfl)
  have lo := lb z.own [32, 111, 119, 110] (by decide)
  have lf := lb z.sp [32, 102, 111, 114, 32, 116, 114, 117, 101] (by decide)
  refine qs_setd (d := dS (txEnd z)) (EvD.to (ev_opd (ev_opd et_var (cond (ev_opd et_var et_int (os_ixT (i := 5) rfl)) (ev_s (l := [32, 111, 119, 110])) (ev_s (l := []))).tt (os_addS' (by omega))).tt (cond (ev_opd et_var et_int (os_ixT (i := 6) rfl)) (ev_s (l := [32, 102, 111, 114, 32, 116, 114, 117, 101])) (ev_s (l := []))).tt (os_addS' (by rw [List.length_append]; omega))) ?_) ?_
  · unfold txEnd
    rw [hA]
  have le : (txEnd z).length ≤ 40 := by
    unfold txEnd
    rw [hA, List.length_append, List.length_append]
    omega
  refine ss_retd (d := dS (txF z)) (EvD.to (ev_opd (ev_opd (ev_opd (ev_opd (ev_opd (ev_opd et_var et_int (os_ixT (i := 0) rfl)).tt (et_s (l := [32])) (os_addS' ?_)).tt (ev_opd et_var et_int (os_ixT (i := 1) rfl)).tt (os_addS' ?_)).tt (et_s (l := [32])) (os_addS' ?_)).tt et_var (os_addS' ?_)).tt et_var (os_addS' ?_)) ?_) (end_ _ rfl)
  case refine_6 =>
    unfold txF
    rw [if_neg h0]
  all_goals
    simp only [List.length_append, List.length_cons, List.length_nil]
    omega

/-! _law_texts -/
abbrev spTexts (K : PySem.W.Frag) : Sp := sp1 K (fun x => ∃ ss : List Sd, x = .list (ss.map sdD) ∧ SaidsOk 4 ss) (fun x d => ∀ ss : List Sd, x = .list (ss.map sdD) → d = .tuple ((ss.map txF).map dS))
theorem k_law_texts (D : Dn K mg "_law_texts" s_law_texts ["saids"]) (B : Bi mg) (k_law_text : Kn P w K mg base 1 "_law_text" ["said"] (sp1 K (fun x => ∃ s ∈ sdAll, x = sdD s) (fun x d => ∀ s, x = sdD s → d = dS (txF s)))) :
    Kn P w K mg base 2 "_law_texts" ["saids"] (spTexts K) := by
  refine kn_of1 D sc_law_texts (by decide) fun f cdv A outer s H E hr hu => ⟨_, (pss_one (ps_ret (pe_callTy (kc_tup (K := K) rfl) (by rfl) B.tuple bt_tup (pa_cons (pe_lc (own := [("said", 1)]) (g := gName 1) (tt := tYes) rfl sc_law_texts.nd (kpi_seq (K := K) rfl (pv 0)) (blkOk_by (N := ["saids", "said"]) (sc := defScope s_law_texts) (by decide +kernel)) (fun _ _ _ _ _ => pg_name (i := 1) sc_law_texts.nd rfl (Or.inl rfl)) (fun _ _ _ _ _ => pts_nil) (fun _ _ _ _ _ => (pe_callN k_law_text (hr.mono (by decide)) (pa_cons (pv 1) pa_nil)))) pa_nil)))), fun Y x ⟨ss, e, ok⟩ => ?_⟩
  subst e
  refine ss_retd (d := .tuple ((ss.map txF).map dS)) (EvD.to (ev_cb1d (ev_lcLd txD ev_var (fun d hd => ?_) (by rw [List.length_map]; have := ok.le; omega)).tt cb_tupL) ?_) fun ss' h => by rw [sds_inj h]
  · obtain ⟨s, hs, rfl⟩ := List.mem_map.mp hd
    exact ((ev_c1 ev_var ⟨s, ok.sd s hs, rfl⟩).mono fun d h => (h s rfl).trans (txD_sd s).symm)
  · rw [List.map_map, List.map_map]
    congr 1

end
end FRL
set_option maxRecDepth 100000
set_option maxHeartbeats 4000000
namespace FRL
open PySem PySem.Spec PyProof.Rows L2 FR
section
variable {P : Program} {w : World} {K : PySem.W.Frag} {mg : Str → Option Value} {base : Heap}
/-! _law_joined -/
theorem k_law_joined (D : Dn K mg "_law_joined" s_law_joined ["found", "places"]) (B : Bi mg) (B3 : Bi3 mg) : Kn P w K mg base 1 "_law_joined" ["found", "places"] (spJoinT K) := by
  refine kn_of2 D sc_law_joined (by decide) fun f cdv A outer s H E hr hu => ⟨_, (pss_cons (ps_set (i := 2) sc_law_joined.nd rfl (by first | exact Or.inl rfl | exact Or.inr rfl) pe_dnewK)
      (pss_cons (ps_for PassesOwn.never rfl (kpi_seq (K := K) rfl (pv 1)) (pg_name (i := 3) sc_law_joined.nd rfl (by first | exact Or.inl rfl | exact Or.inr rfl)) (pss_one (ps_for PassesOwn.never rfl (kpi_seq (K := K) rfl (pe_ix (kix (K := K) rfl) (pv 0) (pv 3) (fun _ _ => rfl))) (pg_name (i := 4) sc_law_joined.nd rfl (by first | exact Or.inl rfl | exact Or.inr rfl)) (pss_one (ps_asg pe_bl (pg_sub (pv 2) (pv 4) (set_dict (Nat.lt_of_le_of_lt (Nat.add_le_add_left (by decide) _) hu)) (by intro _; rfl)))))))
      (pss_one (ps_ret (pe_callB (kc_sorted (K := K) rfl) (by rfl) B3.sorted bt_sorted (pa_cons (pe_callTy (call_list_dK rfl) (by rfl) B.list bt_lst (pa_cons (pv 2) pa_nil)) pa_nil)))))), fun Y x y ⟨F, ps, e1, e2, hsm, hF, hsh, hp, hps⟩ => ?_⟩
  subst e1 e2
  refine ss_dict (R := fun a ks e => ∃ z3 z4, e = [.dat (dTT F), .dat (dL (zs ps)), .raw (.ref a), z3, z4] ∧ ks.Nodup ∧ ∀ y, y ∈ ks ↔ ∃ p ∈ ps, ∃ n ∈ F.getD p [], y = ((n : Nat) : Int)) (fun a => ?_) (fun a ks e H0i H0 Hi H σ D ⟨z3, z4, e1, nd, hk⟩ s g n r => ?_)
  · refine sd_forT (ds := (zs ps).map .int) ev_var (fun k ks e => ∃ z3 z4, e = [.dat (dTT F), .dat (dL (zs ps)), .raw (.ref a), z3, z4] ∧ ks.Nodup ∧ ks.length ≤ k * 60 ∧ ∀ y, y ∈ ks ↔ ∃ p ∈ ps.take k, ∃ n ∈ F.getD p [], y = ((n : Nat) : Int)) ⟨_, _, rfl, List.nodup_nil, Nat.le_refl _, fun y => by simp⟩ ?_ ?_
    · rintro k d ks e hk ⟨z3, z4, rfl, nd, hl, hm⟩
      rw [List.map_map, List.getElem?_map] at hk
      obtain ⟨p, hp1, rfl⟩ := Option.map_eq_some_iff.mp hk
      have hlt := hp p (List.mem_of_getElem? hp1)
      have hk2 : k < ps.length := (List.getElem?_eq_some_iff.mp hp1).1
      have hF1 : F[p]? = some (F.getD p []) := by simp [List.getD, List.getElem?_eq_getElem hlt]
      have hl1 := hsh _ (List.mem_of_getElem? hF1)
      refine sd_forT (ds := (zs (F.getD p [])).map .int) (ev_opd et_var et_var (os_ixT (d := dL (zs (F.getD p []))) (atI_nat (by rw [List.getElem?_map, hF1]; rfl)))) (fun m ks e => ∃ z4, e = [.dat (dTT F), .dat (dL (zs ps)), .raw (.ref a), .dat (.int (p : Int)), z4] ∧ ks.Nodup ∧ ks.length ≤ k * 60 + m ∧ ∀ y, y ∈ ks ↔ (∃ p ∈ ps.take k, ∃ n ∈ F.getD p [], y = ((n : Nat) : Int)) ∨ ∃ n ∈ (F.getD p []).take m, y = ((n : Nat) : Int)) ⟨_, rfl, nd, hl, fun y => by rw [hm]; simp⟩ ?_ ?_
      · rintro m d ks e hd ⟨z4, rfl, nd, hl, hm⟩
        rw [List.map_map, List.getElem?_map] at hd
        obtain ⟨n, hn1, rfl⟩ := Option.map_eq_some_iff.mp hd
        have hm2 : m < (F.getD p []).length := (List.getElem?_eq_some_iff.mp hn1).1
        have hk3 : k * 60 ≤ 3600 := by omega
        refine sd_put rfl ev_var (by omega) ⟨.dat (.int (n : Int)), rfl, ins_nodup nd, Nat.le_trans (ins_len _ _) (by omega), fun y => ?_⟩
        rw [ins_mem, hm, List.take_add_one, hn1, or_assoc]
        refine or_congr Iff.rfl ?_
        constructor
        · rintro (⟨q, hq, rfl⟩ | rfl)
          · exact ⟨q, List.mem_append_left _ hq, rfl⟩
          · exact ⟨n, List.mem_append_right _ (by simp), rfl⟩
        · rintro ⟨q, hq, rfl⟩
          rcases List.mem_append.mp hq with hq | hq
          · exact .inl ⟨q, hq, rfl⟩
          · simp at hq
            exact .inr (by rw [hq])
      · rintro ks e ⟨z4, rfl, nd, hl, hm⟩
        rw [List.length_map, List.length_map] at hl
        refine ⟨_, _, rfl, nd, by omega, fun y => ?_⟩
        rw [hm, List.length_map, List.length_map, List.take_length, List.take_add_one, hp1]
        constructor
        · rintro (⟨q, hq, h⟩ | h)
          · exact ⟨q, List.mem_append_left _ hq, h⟩
          · exact ⟨p, List.mem_append_right _ (by simp), h⟩
        · rintro ⟨q, hq, h⟩
          rcases List.mem_append.mp hq with hq | hq
          · exact .inl ⟨q, hq, h⟩
          · simp at hq
            exact .inr (by rw [← hq]; exact h)
    · rintro ks e ⟨z3, z4, rfl, nd, hl, hm⟩
      refine ⟨z3, z4, rfl, nd, fun y => ?_⟩
      rw [hm, List.length_map, List.length_map, List.take_length]
  · subst e1
    refine sorted_keys s g rfl fun v ns Hi' H' f hd p1 p2 => r v (dI ns) Hi' H' (s.fr.trans f) hd fun F' ps' h1 h2 => ?_
    rw [← dTT_inj h1, ← zs_inj (dL_injI h2), join_keys hsm nd hk p1 p2]

/-! _law_pair -/
abbrev spPair (K : PySem.W.Frag) : Sp := spW0 K (fun d => ∃ A B : List Sd, d = .tuple [.list (A.map sdD), .list (B.map sdD)] ∧ SaidsOk 4 A ∧ SaidsOk 4 B ∧ ((A ++ B).map wdF).sum ≤ 8 ∧ A.length + B.length ≤ 4)
theorem k_law_pair (D : Dn K mg "_law_pair" s_law_pair ["well"]) (B : Bi mg) (k_law_draw : Kn P w K mg base 1 "_law_draw" ["well", "many"] (spW1 K (fun x => ∃ m : Int, x = .int m ∧ 0 < m ∧ m < 1000000) (fun x d => ∀ m : Int, x = .int m → ∃ r : Int, d = .int r ∧ 0 ≤ r ∧ r < m)))
    (k_law_clear : Kn P w K mg base 1 "_law_clear" [] (spF K 0 (fun _ => True) (fun _ d => d = sdD sdClear)))
    (k_law_saids : Kn P w K mg base 3 "_law_saids" ["well", "most"] (spW1 K (fun x => ∃ m : Int, x = .int m ∧ 0 < m ∧ m ≤ 100) (fun x d => ∀ m : Int, x = .int m → ∃ ss : List Sd, d = .list (ss.map sdD) ∧ SaidsOk m ss))) :
    Kn P w K mg base 4 "_law_pair" ["well"] (spPair K) := by
  refine kn_ofW0 D sc_law_pair (by decide) fun f cdv A outer s H E hr hu => ⟨_, (pss_cons (ps_set (i := 1) sc_law_pair.nd rfl (by first | exact Or.inl rfl | exact Or.inr rfl) (pe_callN k_law_saids (hr.mono (by decide)) (pa_cons (pv 0) (pa_cons pe_int pa_nil))))
      (pss_cons (ps_if (pt_cmpR (kop_eq (K := K) rfl hu) (pe_callB (kc_len (K := K) rfl) (by rfl) B.len boot_len (pa_cons (pv 1) pa_nil)) pe_int (nomark _)) (pss_one (ps_ret (pe_tup (pa_cons (pv 1) (pa_cons (pe_lst (pa_cons (pe_callN0 k_law_clear (hr.mono (by decide))) pa_nil)) pa_nil))))) pss_nil)
      (pss_cons (ps_set (i := 2) sc_law_pair.nd rfl (by first | exact Or.inl rfl | exact Or.inr rfl) (pe_op (kop_add (K := K) rfl) pe_int (pe_callN k_law_draw (hr.mono (by decide)) (pa_cons (pv 0) (pa_cons (pe_op op_sub (pe_callB (kc_len (K := K) rfl) (by rfl) B.len boot_len (pa_cons (pv 1) pa_nil)) pe_int) pa_nil)))))
      (pss_one (ps_ret (pe_tup (pa_cons (pe_slice (ksl (K := K) rfl) (pv 1) po_none (po_some (pv 2))) (pa_cons (pe_slice (ksl (K := K) rfl) (pv 1) (po_some (pv 2)) po_none) pa_nil)))))))), fun Y a hW => ?_⟩
  refine qs_set (P := fun d => ∃ ss : List Sd, d = .list (ss.map sdD) ∧ SaidsOk 4 ss) ((ev_w1 rfl hW ev_int ⟨4, rfl, by decide, by decide⟩).mono fun d h => h 4 rfl) ?_
  rintro _ ⟨ss, rfl, ok⟩
  have le := ok.le
  have hss : 0 < ss.length := List.length_pos_iff.mpr ok.ne
  have okc : SaidsOk 4 [sdClear] := ⟨fun s h => by rw [List.mem_singleton.mp h]; exact List.mem_cons_self, by simp, by simp, by decide +kernel⟩
  refine qs_whend (bb := decide ((ss.length : Int) = 1)) ((tb_testd (ev_opd (EvD.tt (EvD.to (ev_cb1d et_var (cb_lenL (ds := ss.map sdD))) (by rw [List.length_map]))) et_int os_eqI))) (fun e => ?_) fun e => ?_
  · have e := of_decide_eq_true e
    refine ss_retd (d := .tuple [.list (ss.map sdD), .list ([sdClear].map sdD)]) (ev_tupd (ar_consd ev_var (ar_consd (ev_lstd (ar_consd (ev_call ar_nil rfl trivial) ar_nil)) ar_nil))) ⟨ss, [sdClear], rfl, ok, okc, ?_, by simp; omega⟩
    rw [List.map_append, List.sum_append]
    have h1 := ok.wd
    have h2 : ([sdClear].map wdF).sum = 0 := by decide +kernel
    omega
  · have e := of_decide_eq_false e
    refine qs_set (P := fun d => ∃ i : Nat, d = .int (i : Int) ∧ 1 ≤ i ∧ i < ss.length) (ev_op (Pa := (· = .int 1)) (Pb := fun _ d => ∃ r : Int, d = .int r ∧ 0 ≤ r ∧ r < (ss.length : Int) - 1) ev_int.tt (fun _ _ => EvD.tt ((ev_w1 rfl hW (ev_opd (EvD.tt (EvD.to (ev_cb1d et_var (cb_lenL (ds := ss.map sdD))) (by rw [List.length_map]))) et_int os_sub) ⟨(ss.length : Int) - 1, rfl, by omega, by omega⟩).mono fun d h => h _ rfl)) (fun x y e1 e2 => ?_)) ?_
    · obtain ⟨r, e2, h0, h1⟩ := e2
      subst e1 e2
      exact os_addI.mono fun d e => ⟨(1 + r).toNat, by rw [e]; congr 1; omega, by omega, by omega⟩
    rintro _ ⟨i, rfl, hi1, hi2⟩
    refine ss_retd (d := .tuple [.list ((ss.take i).map sdD), .list ((ss.drop i).map sdD)]) (ev_tupd (ar_consd (EvD.to (ev_sl et_var pa_none (pa_some ev_var) ss_L) (by rw [cut_to (by rw [List.length_map]; omega), List.map_take])) (ar_consd (EvD.to (ev_sl et_var (pa_some ev_var) pa_none ss_L) (by rw [cut_from, List.map_drop])) ar_nil))) ⟨_, _, rfl, ⟨fun s h => ok.sd s (List.mem_of_mem_take h), fun z => ?_, ?_, ?_⟩, ⟨fun s h => ok.sd s (List.mem_of_mem_drop h), fun z => ?_, ?_, ?_⟩, ?_, ?_⟩
    all_goals have hw := ok.wd
    all_goals have hsum : ((ss.take i).map wdF).sum + ((ss.drop i).map wdF).sum = (ss.map wdF).sum := by rw [← List.sum_append, ← List.map_append, List.take_append_drop]
    · have := congrArg List.length z
      rw [List.length_take, List.length_nil] at this
      omega
    · rw [List.length_take]
      omega
    · omega
    · have := congrArg List.length z
      rw [List.length_drop, List.length_nil] at this
      omega
    · rw [List.length_drop]
      omega
    · omega
    · rw [List.take_append_drop]
      exact hw
    · rw [List.length_take, List.length_drop]
      omega

/-! _law_handed -/
theorem k_law_handed (D : Dn K mg "_law_handed" s_law_handed ["found", "places"]) (B : Bi mg) (k_law_joined : Kn P w K mg base 1 "_law_joined" ["found", "places"] (spJoinT K)) : KnG P w K mg base 2 "_law_handed" ["found", "places"] (spHand K) := by
  refine kng_of D sc_law_handed rfl (by decide) fun f cdv A outer s H E hG hr hu => ⟨_, (pss_one (ps_ret (pe_callB (kc_repr (K := K) rfl hu hG) (by rfl) B.repr bt_rpr (pa_cons (pe_callTy (kc_tup (K := K) rfl) (by rfl) B.tuple bt_tup (pa_cons (pe_callN k_law_joined (hr.mono (by decide)) (pa_cons (pv 0) (pa_cons (pv 1) pa_nil))) pa_nil)) pa_nil)))), fun Y ds hl ⟨x, y, e, F, ps, e1, e2, hsm, hF, hsh, hp, hps⟩ => ?_⟩
  subst e e1 e2
  have sm := join_sm (ps := ps) hF
  refine ss_retd (d := .str (dL (zs (joinN F ps))).shown) (ev_cb1d (a := dL (zs (joinN F ps))) (EvD.tt (ev_cb1d (a := dZ (joinN F ps)) (EvD.tt ((ev_c2 (x := dTT F) (y := dL (zs ps)) ev_var ev_var ⟨F, ps, rfl, rfl, hsm, hF, hsh, hp, hps⟩).mono fun d h => h F ps rfl rfl)) cb_tupL)) (rp sm (by decide) (by decide))) fun x' y' h F' ps' h1 h2 => ?_
  injection h with q1 h
  injection h with q2 _
  rw [dTT_inj (q1.trans h1), zs_inj (dL_injI (q2.trans h2))]

/-! _law_right -/
theorem k_law_right {T : List (Addr × Str)} (D : Dn K mg "_law_right" s_law_right ["well"]) (B : Bi mg) (PO : ProgO P w K mg base) (CP : Cls K (He.ga K "Program"))
    (k_law_draw : Kn P w K mg base 1 "_law_draw" ["well", "many"] (spW1 K (fun x => ∃ m : Int, x = .int m ∧ 0 < m ∧ m < 1000000) (fun x d => ∀ m : Int, x = .int m → ∃ r : Int, d = .int r ∧ 0 ≤ r ∧ r < m)))
    (k_law_pair : Kn P w K mg base 4 "_law_pair" ["well"] (spPair K))
    (k_law_some : Kn P w K mg base 3 "_law_some" ["well"] (spW0 K (fun d => ∃ ns, d = dL ns ∧ lineB ns = true)))
    (k_law_word : Kn P w K mg base 1 "_law_word" ["pieces"] (sp1 K (fun d => ∃ ns, d = dL ns ∧ lineB ns = true) (fun x d => ∀ ns, x = dL ns → d = dS (wordOf ns))))
    (k_law_pieces : Kn P w K mg base 1 "_law_pieces" ["word"] (sp1 K (fun d => ∃ u, d = dS u ∧ WOk u ∧ u.length ≤ 1000) (fun x d => ∀ u, x = dS u → d = dL (piecesOf u))))
    (k_law_texts : Kn P w K mg base 2 "_law_texts" ["saids"] (spTexts K))
    (k_held : KnB P w K mg base 8 "held" ["program", "line", "rounds"] (spHeld K) [.int 1] 2 ["rounds"])
    (MT : MthO P w K mg base "Program" "then" 9 ["self", "other"] (spThen K))
    (k_law_handed : KnG P w K mg base 2 "_law_handed" ["found", "places"] (spHand K)) :
    KnG P w K mg base 11 "_law_right" ["well"] (spLW K T (· = .bool true)) := by
  refine kng_ofLW D sc_law_right (by decide) fun f cdv A outer s H E hG hr hu => ⟨_, (pss_cons (ps_asg (pe_callN k_law_pair (hr.mono (by decide)) (pa_cons (pv 0) pa_nil)) (kpg_pair (K := K) (i := 1) (j := 2) rfl rfl sc_law_right.nd rfl rfl (by first | exact Or.inl rfl | exact Or.inr rfl) (by first | exact Or.inl rfl | exact Or.inr rfl)))
      (pss_cons (ps_par (i := 3) (j := 4) rfl sc_law_right.nd rfl rfl (by decide) rfl rfl (pa_cons (kpe_mkP (K := K) rfl PO (hr.mono (by decide)) (pa_cons (pe_callN k_law_texts (hr.mono (by decide)) (pa_cons (pv 1) pa_nil)) pa_nil)) (pa_cons (kpe_mkP (K := K) rfl PO (hr.mono (by decide)) (pa_cons (pe_callN k_law_texts (hr.mono (by decide)) (pa_cons (pv 2) pa_nil)) pa_nil)) pa_nil)) rfl)
      (pss_cons (ps_set (i := 5) sc_law_right.nd rfl (by first | exact Or.inl rfl | exact Or.inr rfl) (pe_callN k_law_pieces (hr.mono (by decide)) (pa_cons (pe_slice (ksl (K := K) rfl) (pe_callN k_law_word (hr.mono (by decide)) (pa_cons (pe_callN k_law_some (hr.mono (by decide)) (pa_cons (pv 0) pa_nil)) pa_nil)) po_none (po_some pe_int)) pa_nil)))
      (pss_cons (ps_par3 (i := 6) (j := 7) (l := 8) rfl sc_law_right.nd rfl rfl rfl (by decide) (by decide) (by decide) rfl rfl rfl (pa_cons (pe_callND k_held.d (hr.mono (by decide)) (pa_cons (pv 3) (pa_cons (pv 5) pa_nil))) (pa_cons (pe_callND k_held.d (hr.mono (by decide)) (pa_cons (pv 4) (pa_cons (pv 5) pa_nil))) (pa_cons (pe_callND k_held.d (hr.mono (by decide)) (pa_cons (kpe_methO (K := K) rfl MT CP (hr.mono (by decide)) (pv 3) (pa_cons (pv 4) pa_nil)) (pa_cons (pv 5) pa_nil))) pa_nil))) rfl)
      (pss_cons (ps_set (i := 9) sc_law_right.nd rfl (by first | exact Or.inl rfl | exact Or.inr rfl) (pe_op (kop_add (K := K) rfl) pe_int (pe_callN k_law_draw (hr.mono (by decide)) (pa_cons (pv 0) (pa_cons pe_int pa_nil)))))
      (pss_cons (ps_set (i := 10) sc_law_right.nd rfl (by first | exact Or.inl rfl | exact Or.inr rfl) (pe_op (kop_add (K := K) rfl) pe_int (pe_callN k_law_draw (hr.mono (by decide)) (pa_cons (pv 0) (pa_cons (pe_op op_sub pe_int (pv 9)) pa_nil)))))
      (pss_cons (ps_par (i := 11) (j := 12) rfl sc_law_right.nd rfl rfl (by decide) rfl rfl (pa_cons (pe_callNB k_held (hr.mono (by decide)) (pa_cons (pv 3) (pa_cons (pv 5) pa_nil)) (pk_cons (pv 9) pk_nil)) (pa_cons (pe_callNB k_held (hr.mono (by decide)) (pa_cons (pv 3) (pa_cons (pv 5) pa_nil)) (pk_cons (pv 10) pk_nil)) pa_nil)) rfl)
      (pss_cons (ps_set (i := 13) sc_law_right.nd rfl (by first | exact Or.inl rfl | exact Or.inr rfl) (pe_callNB k_held (hr.mono (by decide)) (pa_cons (pv 3) (pa_cons (pv 5) pa_nil)) (pk_cons (pe_op (kop_add (K := K) rfl) (pv 9) (pv 10)) pk_nil)))
      (pss_cons (ps_set (i := 14) sc_law_right.nd rfl (by first | exact Or.inl rfl | exact Or.inr rfl) (pe_callB (kc_len (K := K) rfl) (by rfl) B.len boot_len (pa_cons (pe_callN k_law_word (hr.mono (by decide)) (pa_cons (pv 5) pa_nil)) pa_nil)))
      (pss_cons (ps_if (pt_cmpR (kop_ne (K := K) rfl hu) (pe_lc (own := [("found", 15)]) (g := gName 15) (tt := tYes) rfl sc_law_right.nd (kpi_seq (K := K) rfl (pe_lst (pa_cons (pv 6) (pa_cons (pv 7) (pa_cons (pv 8) (pa_cons (pv 11) (pa_cons (pv 12) (pa_cons (pv 13) pa_nil)))))))) (blkOk_by (N := ["well", "ahead_here", "behind_here", "first", "second", "pieces", "one_told", "two_told", "both_told", "early", "later", "early_told", "more_told", "all_told", "many", "found", "x"]) (sc := defScope s_law_right) (by decide +kernel)) (fun _ _ _ _ _ => pg_name (i := 15) sc_law_right.nd rfl (Or.inl rfl)) (fun _ _ _ _ _ => pts_nil) (fun _ _ _ _ _ => (pe_callB (kc_len (K := K) rfl) (by rfl) B.len boot_len (pa_cons (pv 15) pa_nil)))) (pe_op op_mulU (pe_lst (pa_cons (pv 14) pa_nil)) pe_int) (nomark _)) (pss_one (ps_ret pe_bl)) pss_nil)
      (pss_cons (ps_for PassesOwn.never rfl (kpi_seq (K := K) rfl (pe_lst (pa_cons pe_int (pa_cons (pe_op op_sub (pv 14) pe_int) (pa_cons (pe_callN k_law_draw (hr.mono (by decide)) (pa_cons (pv 0) (pa_cons (pv 14) pa_nil))) pa_nil))))) (pg_name (i := 16) sc_law_right.nd rfl (by first | exact Or.inl rfl | exact Or.inr rfl)) (pss_cons (ps_if (pt_cmpR (kop_ne (K := K) rfl hu) (pe_callB (kc_repr (K := K) rfl hu hG) (by rfl) B.repr bt_rpr (pa_cons (pe_ix (kix (K := K) rfl) (pv 8) (pv 16) (fun _ _ => rfl)) pa_nil)) (pe_callNG k_law_handed hG (hr.mono (by decide)) (pa_cons (pv 6) (pa_cons (pe_ix (kix (K := K) rfl) (pv 7) (pv 16) (fun _ _ => rfl)) pa_nil))) (nomark _)) (pss_one (ps_ret pe_bl)) pss_nil)
      (pss_one (ps_if (pt_cmpR (kop_ne (K := K) rfl hu) (pe_callB (kc_repr (K := K) rfl hu hG) (by rfl) B.repr bt_rpr (pa_cons (pe_ix (kix (K := K) rfl) (pv 13) (pv 16) (fun _ _ => rfl)) pa_nil)) (pe_callNG k_law_handed hG (hr.mono (by decide)) (pa_cons (pv 11) (pa_cons (pe_ix (kix (K := K) rfl) (pv 12) (pv 16) (fun _ _ => rfl)) pa_nil))) (nomark _)) (pss_one (ps_ret pe_bl)) pss_nil))))
      (pss_one (ps_ret pe_bl))))))))))))), fun Y a hW hL => ?_⟩
  refine qs_unp2x (i := 1) (j := 2) (Pr := fun x y => ∃ A B : List Sd, x = .list (A.map sdD) ∧ y = .list (B.map sdD) ∧ SaidsOk 4 A ∧ SaidsOk 4 B ∧ ((A ++ B).map wdF).sum ≤ 8 ∧ A.length + B.length ≤ 4) ((ev_w0 rfl hW).mono fun d ⟨A, B, e, h⟩ => ⟨_, _, e, A, B, rfl, rfl, h⟩) ?_
  rintro _ _ ⟨A1, B1, rfl, rfl, okA, okB, hwd, hlen⟩
  have okC : SaidsOk 4 (A1 ++ B1) := ⟨fun s h => by
    rcases List.mem_append.mp h with h | h
    · exact okA.sd s h
    · exact okB.sd s h, fun z => okA.ne (List.append_eq_nil_iff.mp z).1, by rw [List.length_append]; omega, hwd⟩
  have gA := okA.good (by decide)
  have gB := okB.good (by decide)
  have gC := okC.good (by decide)
  refine qs_par (a := progD ((A1.map txF).map dS)) (b := progD ((B1.map txF).map dS)) (ar_consd (ev_mkProg (ar_consd ((ev_c1 ev_var ⟨A1, rfl, okA⟩).mono fun d h => h A1 rfl) ar_nil) gA.good) (ar_consd (ev_mkProg (ar_consd ((ev_c1 ev_var ⟨B1, rfl, okB⟩).mono fun d h => h B1 rfl) ar_nil) gB.good) ar_nil)) ?_
  refine qs_set (P := fun d => ∃ u, d = dL (piecesOf u) ∧ WOk u ∧ u ≠ [] ∧ u.length ≤ 30) ((ev_c1x (Pa := fun d => ∃ u, d = dS u ∧ WOk u ∧ u ≠ [] ∧ u.length ≤ 30) (ev_slx (Pa := fun d => ∃ ns, d = dS (wordOf ns) ∧ lineB ns = true) ((ev_c1x (Pa := fun d => ∃ ns, d = dL ns ∧ lineB ns = true) (ev_w0 rfl hW) (fun x h => h)).mono fun d ⟨x, ⟨ns, e, hn⟩, h⟩ => ⟨ns, h ns e, hn⟩) pa_none (pa_some ev_int) (fun x ⟨ns, e, hn⟩ => ?_)) (fun x ⟨u, e, h1, h2, h3⟩ => ⟨u, e, h1, by omega⟩)).mono fun d ⟨x, ⟨u, e, h1, h2, h3⟩, h⟩ => ⟨u, h u e, h1, h2, h3⟩) ?_
  · subst e
    obtain ⟨hok, hne, hsm⟩ := lineB_inv hn
    obtain ⟨hw, hp⟩ := line_word hn
    have lw := len_word hok.nz
    have hu0 : WOk ((wordOf ns).take 30) ∧ (wordOf ns).take 30 ≠ [] ∧ ((wordOf ns).take 30).length ≤ 30 := by
      refine ⟨hw.pre 30, fun z => ?_, by rw [List.length_take]; omega⟩
      have h0 := congrArg List.length z
      rw [List.length_take, List.length_nil] at h0
      have h1 : (wordOf ns).length = 0 := by omega
      exact hne (by rw [← hp, List.eq_nil_of_length_eq_zero h1]; rfl)
    exact fun Hi H v p ha Q q => ss_to (z := wordOf ns) (i := 30) (by decide) (by omega) Hi H v p ha Q fun u d Hi' H' f hd e => q u d Hi' H' f hd ⟨_, e, hu0⟩
  rintro _ ⟨u, rfl, hw, hne, hul⟩
  have hul6 : u.length ≤ 60 := by omega
  have hpos : 0 < u.length := List.length_pos_iff.mpr hne
  obtain ⟨g1, g2⟩ := line_of_word hw hne hul6
  have told1 : ∀ {es : List Ent} {te : TE} {S : List Sd}, SaidsOk 4 S → es[5]? = some (.dat (dL (piecesOf u))) → EvD Y K es te (· = progD ((S.map txF).map dS)) → EvD Y K es (tCall (spHeld K) [.int 1] E0 (tCons te (tCons (tVar 5) tNil))) (· = dTT (lawR S u 1)) := fun {es te S} ok h5 h1 => EvD.to (ev_held1 ok g1 h1 (ev_var h5)) (by rw [held_run ok.sd hw g1])
  have toldK : ∀ {es : List Ent} {we : TE} {r : Nat}, 1 ≤ r → r ≤ 6 → es[5]? = some (.dat (dL (piecesOf u))) → es[3]? = some (.dat (progD ((A1.map txF).map dS))) → EvD Y K es we (· = .int (r : Int)) → EvD Y K es (tCallN 2 1 (spHeld K) (fun vs zs => vs ++ zs) E0 (tCons (tVar 3) (tCons (tVar 5) tNil)) (tCons we tNil)) (· = dTT (lawR A1 u r)) := fun {es we r} r1 r6 h5 h3 h => EvD.to (ev_heldK okA g1 r1 r6 (ev_var h3) (ev_var h5) h) (by rw [held_run okA.sd hw g1])
  refine ss_seq (M := fun e => e = [.raw (.ref a), .dat (.list (A1.map sdD)), .dat (.list (B1.map sdD)), .dat (progD ((A1.map txF).map dS)), .dat (progD ((B1.map txF).map dS)), .dat (dL (piecesOf u)), .dat (dTT (lawR A1 u 1)), .dat (dTT (lawR B1 u 1)), .dat (dTT (lawR (A1 ++ B1) u 1)), .unk, .unk, .unk, .unk, .unk, .unk, .unk, .unk]) ?_ ?_
  · refine ss_par3 (Pr := (· = [dTT (lawR A1 u 1), dTT (lawR B1 u 1), dTT (lawR (A1 ++ B1) u 1)])) (ar_consd (told1 okA rfl ev_var) (ar_consd (told1 okB rfl ev_var) (ar_consd (told1 okC rfl (EvD.to (ev_then ev_var ev_var (by rw [← List.map_append]; exact gC)) (by rw [← List.map_append]))) ar_nil))) fun ds e => ⟨_, _, _, e, rfl⟩
  rintro _ rfl
  have plus : ∀ {es : List Ent} {tb : TE} {m : Int}, es[0]? = some (.raw (.ref a)) → 0 < m → m ≤ 100 → EvD Y K es tb (· = .int m) → EvD Y K es (tOp (rAddU K) (tC (.int 1)) (tCall (drawSp K) [] E0 (tCons (tVar 0) (tCons tb tNil)))) (fun d => ∃ r : Nat, d = .int (r : Int) ∧ 1 ≤ r ∧ (r : Int) ≤ m) := fun {es tb m} h0 h1 h2 hb => ev_op (Pa := (· = .int 1)) (Pb := fun _ d => ∃ r : Int, d = .int r ∧ 0 ≤ r ∧ r < m) ev_int.tt (fun _ _ => EvD.tt ((ev_w1 h0 hW hb ⟨m, rfl, h1, by omega⟩).mono fun d h => h _ rfl)) (fun x y e1 e2 => by
    obtain ⟨r, e2, h0, h1⟩ := e2
    subst e1 e2
    exact os_addI.mono fun d e => ⟨(1 + r).toNat, by rw [e]; congr 1; omega, by omega, by omega⟩)
  refine qs_set (P := fun d => ∃ r : Nat, d = .int (r : Int) ∧ 1 ≤ r ∧ (r : Int) ≤ 5) (plus rfl (by decide) (by decide) ev_int) ?_
  rintro _ ⟨r, rfl, r1, r5⟩
  refine qs_set (P := fun d => ∃ k : Nat, d = .int (k : Int) ∧ 1 ≤ k ∧ (k : Int) ≤ 6 - (r : Int)) (plus rfl (by omega) (by omega) (ev_opd et_int et_var os_sub)) ?_
  rintro _ ⟨k, rfl, k1, k6⟩
  refine qs_par (a := dTT (lawR A1 u r)) (b := dTT (lawR A1 u k)) (ar_consd (toldK r1 (by omega) rfl rfl ev_var) (ar_consd (toldK k1 (by omega) rfl rfl ev_var) ar_nil)) ?_
  refine qs_setd (d := dTT (lawR A1 u (r + k))) (toldK (r := r + k) (by omega) (by omega) rfl rfl (EvD.to (ev_opd et_var et_var os_addI) (by congr 1))) ?_
  refine qs_setd (d := .int (u.length : Int)) (ev_cb1d (EvD.tt (EvD.to ((ev_c1 (x := dL (piecesOf u)) ev_var ⟨_, rfl, g1⟩).mono fun d h => h _ rfl) (by rw [g2]))) (cb_lenS' (by omega))) ?_
  have okL : ∀ (S : List Sd) (j : Nat), (lawR S u j).length = u.length := fun S j => (lawR_ok (ss := S) hw j).len
  have sh : SeqAt.shaped (.list (List.replicate 6 (.int (u.length : Int)))) = true := by rfl
  have eq : PyData.eqv (.list (List.replicate 6 (.int (u.length : Int)))) (.list (List.replicate 6 (.int (u.length : Int)))) = true := SeqAt.eqv_refl _ (Bool.and_eq_true_iff.mp sh).1
  refine qs_whend (bb := false) ((tb_testd (ev_opd (EvD.tt (EvD.to (e := .list (List.replicate 6 (.int (u.length : Int)))) (ev_lcLg (l := [lawR A1 u 1, lawR B1 u 1, lawR (A1 ++ B1) u 1, lawR A1 u r, lawR A1 u k, lawR A1 u (r + k)]) dTT (fun F => .int (F.length : Int)) (ev_lstd (ar_consd ev_var (ar_consd ev_var (ar_consd ev_var (ar_consd ev_var (ar_consd ev_var (ar_consd ev_var ar_nil))))))) (fun F _ => (ev_cb1d et_var cb_lenT).mono fun d e b eb => by rw [e, List.length_map, dTT_inj eb]) (by simp)) (by simp only [List.map_cons, List.map_nil, okL]; rfl))) (EvD.tt (EvD.to (ev_opd (EvD.tt (ev_lstd (ar_consd ev_var ar_nil))) et_int (os_mulL (ds := [.int (u.length : Int)]) (by simp) (by decide) (by decide))) (by rfl))) (os_neD sh sh))).mono fun b e => e.trans (by rw [eq]; rfl)) (fun e => by cases e) fun _ => ?_
  refine ss_seq (M := fun _ => True) ?_ fun e _ => ss_retd ev_bl rfl
  refine ss_forLx (Pl := fun d => ∃ vs : List Nat, d = .list (vs.map fun x : Nat => .int (x : Int)) ∧ ∀ v ∈ vs, v < u.length) ((ev_lst (Pr := fun ds => ∃ v : Nat, ds = [.int 0, .int ((u.length - 1 : Nat) : Int), .int (v : Int)] ∧ v < u.length) ((ar_cons (Pa := (· = .int 0)) ev_int fun _ _ => ar_cons (Pa := (· = .int ((u.length - 1 : Nat) : Int))) (EvD.to (ev_opd et_var et_int os_sub) (by congr 1; omega)) fun _ _ => ar_cons ((ev_w1 rfl hW ev_var ⟨(u.length : Int), rfl, by omega, by omega⟩).mono fun d h => h _ rfl) fun _ _ => ar_nil).mono ?_) (fun ds ⟨v, e, _⟩ => by rw [e]; exact Nat.le_of_ble_eq_true rfl)).mono fun d ⟨ds, e, v, e2, hv⟩ => ⟨[0, u.length - 1, v], by rw [e, e2]; rfl, fun z hz => ?_⟩) (fun _ _ e => ∃ z15 z16, e = [.raw (.ref a), .dat (.list (A1.map sdD)), .dat (.list (B1.map sdD)), .dat (progD ((A1.map txF).map dS)), .dat (progD ((B1.map txF).map dS)), .dat (dL (piecesOf u)), .dat (dTT (lawR A1 u 1)), .dat (dTT (lawR B1 u 1)), .dat (dTT (lawR (A1 ++ B1) u 1)), .dat (.int (r : Int)), .dat (.int (k : Int)), .dat (dTT (lawR A1 u r)), .dat (dTT (lawR A1 u k)), .dat (dTT (lawR A1 u (r + k))), .dat (.int (u.length : Int)), z15, z16]) (fun d ⟨vs, e, _⟩ => ⟨_, e, _, _, rfl⟩) ?_ (fun _ _ _ _ => trivial)
  · rintro ds ⟨_, _, e1, rfl, _, _, e2, rfl, o, _, e3, ⟨z, rfl, z0, z1⟩, e4⟩
    exact ⟨z.toNat, by rw [e1, e2, e3, e4]; congr 4; omega, by omega⟩
  · simp only [List.mem_cons, List.not_mem_nil, or_false] at hz
    omega
  · rintro ds ⟨vs, e, hv⟩ j d _ hd ⟨z15, z16, rfl⟩
    cases e
    obtain ⟨x, hx1, rfl⟩ := List.mem_map.mp (List.mem_of_getElem? hd)
    have hx := hv x hx1
    obtain ⟨q, hq, hc, hq1, hq2⟩ := both_row (A := A1) (B := B1) hw hx
    obtain ⟨q2, hq', hc', hq1', hq2'⟩ := more_row (A := A1) hw (r := r) (k := k) hx
    have ok1 := lawR_ok (ss := A1) hw 1
    have okr := lawR_ok (ss := A1) hw r
    have sm1 := join_sm (ps := q) (F := lawR A1 u 1) (by rw [ok1.len]; exact hul6)
    have sm2 := join_sm (ps := q2) (F := lawR A1 u r) (by rw [okr.len]; exact hul6)
    refine qs_whend (bb := false) ((tb_testd (ev_opd (ev_cb1d (a := dL (zs (joinN (lawR A1 u 1) q))) (ev_opd et_var et_var (os_ixT (atI_nat (by rw [List.getElem?_map, hc]; rfl)))).tt (rp sm1 (by decide) (by decide))).tt (EvD.tt ((ev_c2 (x := dTT (lawR A1 u 1)) (y := dL (zs q)) ev_var (ev_opd et_var et_var (os_ixT (atI_nat (by rw [List.getElem?_map, hq]; rfl)))) ⟨_, q, rfl, rfl, ok1.sm, by rw [ok1.len]; exact hul6, fun l hl => by have := ok1.sh l hl; omega, by rw [ok1.len]; exact hq1, by omega⟩).mono fun d h => h _ q rfl rfl)) os_neS)).mono fun b e => e.trans (by simp)) (fun e => by cases e) fun _ => ?_
    exact ss_ifd (bb := false) ((tb_testd (ev_opd (ev_cb1d (a := dL (zs (joinN (lawR A1 u r) q2))) (ev_opd et_var et_var (os_ixT (atI_nat (by rw [List.getElem?_map, hc']; rfl)))).tt (rp sm2 (by decide) (by decide))).tt (EvD.tt ((ev_c2 (x := dTT (lawR A1 u r)) (y := dL (zs q2)) ev_var (ev_opd et_var et_var (os_ixT (atI_nat (by rw [List.getElem?_map, hq']; rfl)))) ⟨_, q2, rfl, rfl, okr.sm, by rw [okr.len]; exact hul6, fun l hl => by have := okr.sh l hl; omega, by rw [okr.len]; exact hq1', by omega⟩).mono fun d h => h _ q2 rfl rfl)) os_neS)).mono fun b e => e.trans (by simp)) (fun e => by cases e) fun _ => ss_next ⟨_, _, rfl⟩

/-! law -/
theorem k_law {T : List (Addr × Str)} {f : Addr} {fd : FuncData} (F : Fun K "law" "law" s_law f fd) (B : Bi mg)
    (k_law_wells : Kn P w K mg base 2 "_law_wells" ["script", "most"] (spS K 1 (fun ds => ∃ k : Int, ds = [.int k] ∧ k ≤ 100) (fun _ d => ∃ ds, d = .list ds ∧ ds.length ≤ 100 ∧ ∀ x ∈ ds, wellD x)))
    (k_law_right : KnG P w K mg base 11 "_law_right" ["well"] (spLW K T (· = .bool true))) : FnG P w K mg base CX0 12 f fd ["script"] (spLaw K T) := by
  refine fun_okG F sc_law (fun vs H Q E h => by obtain ⟨_, _, e, _⟩ := h; rw [e]; rfl) (fun cdv A outer s H vs Q E hG hr hcd hlk h => ?_)
  have hu : (A.deeper (envOfC "law" (defScope s_law) s.heap.objs.size f cdv)).units + 64 < cLine := by have := hr.un; omega
  refine ⟨_, PSs.nox (pss_one (ps_ret (pe_callB (kc_all (K := K) rfl rfl) (by rfl) B.all bt_all (pa_cons (pe_lc (own := [("well", 1)]) (g := gName 1) (tt := tYes) rfl sc_law.nd (kpi_seq (K := K) rfl (pe_callN k_law_wells (hr.mono (by decide)) (pa_cons (pv 0) (pa_cons pe_int pa_nil)))) (blkOk_by (N := ["script", "well"]) (sc := defScope s_law) (by decide +kernel)) (fun _ _ _ _ _ => pg_name (i := 1) sc_law.nd rfl (Or.inl rfl)) (fun _ _ _ _ _ => pts_nil) (fun _ _ _ _ _ => (pe_callNG k_law_right hG (hr.mono (by decide)) (pa_cons (pv 1) pa_nil)))) pa_nil)))), ?_⟩
  obtain ⟨a, ns, rfl, hns, hT, hS, hQ⟩ := h
  obtain ⟨Y, hL, hScr, p⟩ := law_start hT hS
  exact law_read0 (by decide) (by decide) hL p (ev_callS rfl hScr hns (ar_consd ev_int ar_nil) rfl ⟨4, rfl, by decide⟩) hQ

end
end FRL
set_option maxRecDepth 100000
set_option maxHeartbeats 0
namespace FRL
open PySem PySem.Spec PyProof.Rows L2 FR
/-! ### the head -/
abbrev s_ini_Span : Stmt := inS (topS 35) 0
theorem sc_ini_Span : FnScope ["self", "back", "ahead", "distances", "every", "ends"] ["self", "back", "ahead", "distances", "every", "ends"] (defScope s_ini_Span) := ⟨rfl, rfl, rfl, by decide +kernel, rfl, by decide +kernel, by decide +kernel⟩
theorem ini_body_Span {P : Program} {w : World} {K : PySem.W.Frag} {mg : Str → Option Value} {base : Heap} {q : Str} {fI : Addr} (cdv : Value) (A : Around) (outer : List Env) (s : Shared) (H : Hp) (E : XK) : PSs (cxOf CX0 P w K mg base ("self" :: spanFl) q (defScope s_ini_Span) fI cdv A outer s H E) (defBody s_ini_Span) (tSets K ((spanFl : List Str).zipIdx 1)) := (pss_cons (ps_fld (pv 0) (pv 1) rfl) (pss_cons (ps_fld (pv 0) (pv 2) rfl) (pss_cons (ps_fld (pv 0) (pv 3) rfl) (pss_cons (ps_fld (pv 0) (pv 4) rfl) (pss_cons (ps_fld (pv 0) (pv 5) rfl) pss_nil)))))
abbrev s_ini_Layer : Stmt := inS (topS 36) 0
theorem sc_ini_Layer : FnScope ["self", "width", "scope", "span", "own", "for_true", "clears"] ["self", "width", "scope", "span", "own", "for_true", "clears"] (defScope s_ini_Layer) := ⟨rfl, rfl, rfl, by decide +kernel, rfl, by decide +kernel, by decide +kernel⟩
theorem ini_body_Layer {P : Program} {w : World} {K : PySem.W.Frag} {mg : Str → Option Value} {base : Heap} {q : Str} {fI : Addr} (cdv : Value) (A : Around) (outer : List Env) (s : Shared) (H : Hp) (E : XK) : PSs (cxOf CX0 P w K mg base ("self" :: layFl) q (defScope s_ini_Layer) fI cdv A outer s H E) (defBody s_ini_Layer) (tSets K ((layFl : List Str).zipIdx 1)) := (pss_cons (ps_fld (pv 0) (pv 1) rfl) (pss_cons (ps_fld (pv 0) (pv 2) rfl) (pss_cons (ps_fld (pv 0) (pv 3) rfl) (pss_cons (ps_fld (pv 0) (pv 4) rfl) (pss_cons (ps_fld (pv 0) (pv 5) rfl) (pss_cons (ps_fld (pv 0) (pv 6) rfl) pss_nil))))))
abbrev ddSpan : He.DefD := ddMk "Span" "__init__" s_ini_Span [("every", .int 1), ("ends", .adr (kwAt ("Span", some "__init__") "ends"))]
abbrev ddLayer : He.DefD := ddMk "Layer" "__init__" s_ini_Layer [("own", .bl false), ("for_true", .bl false), ("clears", .bl false)]
def fnL : List He.DefD := [ddS "members" s_members, ddS "is_integer" s_is_integer, ddS "_is_piece" s_is_piece, ddS "is_line" s_is_line, ddS "check_line" s_check_line, ddS "signs" s_signs, ddS "_piece_of_each" s_piece_of_each, ddS "_cut" s_cut, ddS "_numbers" s_numbers, ddS "_cut_every" s_cut_every, ddS "_width" s_width, ddS "_wide_span" s_wide_span, ddS "_read_span" s_read_span, ddS "read_layer" s_read_layer, ddS "_first_wrong" s_first_wrong, ddS "check_program" s_check_program, ddS "layers_of" s_layers_of, ddS "taken_lists" s_taken_lists, ddS "_together" s_together, ddF "held_sets" s_held_sets [.int 1] [], ddS "is_rounds" s_is_rounds, ddS "check_rounds" s_check_rounds, ddS "_held" s_held_, ddF "held" s_held [] [("rounds", .int 1)], ddS "_law_cell" s_law_cell, ddS "_law_well" s_law_well, ddS "_law_draw" s_law_draw, ddS "_law_wells" s_law_wells, ddS "_law_word" s_law_word, ddS "_law_pieces" s_law_pieces, ddS "_law_short" s_law_short, ddS "_law_long" s_law_long, ddS "_law_some" s_law_some, ddS "_law_clear" s_law_clear, ddS "_law_said" s_law_said, ddS "_law_width" s_law_width, ddS "_law_saids" s_law_saids, ddS "_law_text" s_law_text, ddS "_law_texts" s_law_texts, ddS "_law_joined" s_law_joined, ddS "_law_pair" s_law_pair, ddS "_law_handed" s_law_handed, ddS "_law_right" s_law_right, ddS "law" s_law, ddSpan, ddLayer, ddM "Program" "__init__" s_Program___init__, ddM "Program" "__len__" s_Program___len__, ddM "Program" "__str__" s_Program___str__, ddM "Program" "__eq__" s_Program___eq__, ddM "Span" "reaches" s_Span_reaches, ddM "Span" "leads" s_Span_leads, ddM "Layer" "keeps" s_Layer_keeps, ddM "Layer" "asks" s_Layer_asks, ddM "Layer" "sees" s_Layer_sees, ddM "Program" "then" s_Program_then]
def tfL : List He.Defn := []
def preL : List He.Fa := [.glo "members", .glo "is_integer", .glo "_is_piece", .glo "is_line", .glo "check_line", .glo "signs", .glo "_piece_of_each", .glo "_cut", .glo "_numbers", .glo "_cut_every", .glo "_width", .glo "_wide_span", .glo "_read_span", .glo "read_layer", .glo "_first_wrong", .glo "check_program", .glo "layers_of", .glo "taken_lists", .glo "_together", .glo "held_sets"] ++ [.glo "is_rounds", .glo "check_rounds", .glo "_held", .glo "held", .glo "_law_cell", .glo "_law_well", .glo "_law_draw", .glo "_law_wells", .glo "_law_word", .glo "_law_pieces", .glo "_law_short", .glo "_law_long", .glo "_law_some", .glo "_law_clear", .glo "_law_said", .glo "_law_width", .glo "_law_saids", .glo "_law_text", .glo "_law_texts", .glo "_law_joined"] ++ [.glo "_law_pair", .glo "_law_handed", .glo "_law_right", .glo "law", .glo "Span", .glo "Layer", .glo "Program", .free "len", .free "abs", .free "int", .free "min", .free "max", .free "all", .free "any", .free "sum", .free "tuple", .free "list", .free "repr", .free "isinstance", .free "range"] ++ [.free "bool", .free "str", .free "enumerate", .free "sorted", .int "MOST_LAYERS" 4, .int "MOST_NEAR" 3, .int "MOST_EVERY" 3, .int "MOST_PLACES" 60, .int "MOST_ROUNDS" 6, .int "MOST_WIDTH" 8, .int "OPENS" 0, .int "GOES_ON" 1, .int "FILLS" 2, .int "SINGLE" 3, .int "CLOSES" 4, .str "ROW" "row", .str "TRUE" "true", .str "LINE" "line", .str "BACK" "back", .str "AHEAD" "ahead"] ++ [.str "AROUND" "around", .mkr "Span", .mkr "Layer", .mkr "Program", .meth "Program" "__len__", .meth "Program" "__str__", .meth "Program" "__eq__", .noat "Program" "_layers", .meth "Span" "reaches", .meth "Span" "leads", .meth "Layer" "keeps", .meth "Layer" "asks", .meth "Layer" "sees", .meth "Program" "then"]
def faL : List He.Fa := preL ++ (spanFl.map (He.Fa.noat "Span") ++ layFl.map (He.Fa.noat "Layer"))
def prL : List DefP := [ddP "Program" "layers" s_Program_layers]
abbrev RL : PySem.W.OpenRow := PySem.W.OpenLaw.row PySem.Challenge.rw_filledrows_k24_whole_programs_in_turn
def exL (K : PySem.W.Frag) : Bool := obB K (He.ga K "Span") && (obB K (He.ga K "Layer") && (progB K && FR.tupB K (kwAt ("Span", some "__init__") "ends" K) []))
abbrev hkL : PySem.W.Hook := hookQ ["Span", "Layer", "Program"] faL fnL tfL exL prL
def obL (s : PySem.W.SharedT) : AlQ := obsQ ["Span", "Layer", "Program"] faL fnL tfL exL prL (HandSHeadRun.getT s)
theorem obL_eq (s : PySem.W.SharedT) : obL s = hkL.obs s.abs := obsQ_eq (HandSHeadRun.getT_eq s)
theorem runL (w : World) : HandSHeadRun.RunEq RL (PySem.W.view RL.prog [78]) hkL obL 9000 ((["_wall", "members", "WrongValue", "InvalidLine", "InvalidNumber", "InvalidText", "NotAProgram", "InvalidLayers", "WrongRow", "MOST_LAYERS", "MOST_NEAR", "MOST_EVERY", "MOST_PLACES", "MOST_ROUNDS", "MOST_WIDTH", "OPENS", "GOES_ON", "FILLS", "SINGLE", "CLOSES"] : List PySem.Str) ++ (["signs", "check_line", "is_line", "is_integer", "_is_piece", "ROW", "TRUE", "LINE", "BACK", "AHEAD", "AROUND", "Span", "Layer", "read_layer", "_cut", "_cut_every", "_numbers", "_read_span", "_wide_span", "_width"] : List PySem.Str) ++ (["Program", "check_program", "layers_of", "_first_wrong", "held", "held_sets", "check_rounds", "is_rounds", "taken_lists", "_piece_of_each", "_held", "_together", "_law_cell", "_law_well", "_law_draw", "_law_wells", "_law_word", "_law_pieces", "_law_short", "_law_long"] : List PySem.Str) ++ (["_law_some", "_law_clear", "_law_said", "_law_width", "_law_saids", "_law_text", "_law_texts", "_law_joined", "_law_pair", "_law_handed", "_law_right"] : List PySem.Str)) w := by
  intro os
  kernel_rfl
end FRL
set_option maxRecDepth 100000
set_option maxHeartbeats 0
namespace FRL
open PySem PySem.Spec PyProof.Rows L2 FR
theorem factsL {w : World} {K : PySem.W.Frag} {h : Heap} {mg : Str → Option Value} {f : Addr} (X : K.In h) (G : h.Ns mainGlobals mg) (hfa : mg ("law" : Str) = some (.ref f)) (c : He.SaysX faL fnL [] tfL exL w h K) (cp : SaysP prL K) : AtG PySem.Challenge.rw_filledrows_k24_whole_programs_in_turn.prog w K 12 "script" mg f h := by
  have B : Bi mg := ⟨He.free_ok X G (c.t.d.facts (f := .free "len") (List.mem_append_left _ (List.mem_of_getElem? (l := preL) (i := 47) rfl))), He.free_ok X G (c.t.d.facts (f := .free "abs") (List.mem_append_left _ (List.mem_of_getElem? (l := preL) (i := 48) rfl))), He.free_ok X G (c.t.d.facts (f := .free "int") (List.mem_append_left _ (List.mem_of_getElem? (l := preL) (i := 49) rfl))), He.free_ok X G (c.t.d.facts (f := .free "min") (List.mem_append_left _ (List.mem_of_getElem? (l := preL) (i := 50) rfl))), He.free_ok X G (c.t.d.facts (f := .free "max") (List.mem_append_left _ (List.mem_of_getElem? (l := preL) (i := 51) rfl))), He.free_ok X G (c.t.d.facts (f := .free "all") (List.mem_append_left _ (List.mem_of_getElem? (l := preL) (i := 52) rfl))), He.free_ok X G (c.t.d.facts (f := .free "any") (List.mem_append_left _ (List.mem_of_getElem? (l := preL) (i := 53) rfl))), He.free_ok X G (c.t.d.facts (f := .free "sum") (List.mem_append_left _ (List.mem_of_getElem? (l := preL) (i := 54) rfl))), He.free_ok X G (c.t.d.facts (f := .free "tuple") (List.mem_append_left _ (List.mem_of_getElem? (l := preL) (i := 55) rfl))), He.free_ok X G (c.t.d.facts (f := .free "list") (List.mem_append_left _ (List.mem_of_getElem? (l := preL) (i := 56) rfl))), He.free_ok X G (c.t.d.facts (f := .free "repr") (List.mem_append_left _ (List.mem_of_getElem? (l := preL) (i := 57) rfl))), He.free_ok X G (c.t.d.facts (f := .free "isinstance") (List.mem_append_left _ (List.mem_of_getElem? (l := preL) (i := 58) rfl))), He.free_ok X G (c.t.d.facts (f := .free "range") (List.mem_append_left _ (List.mem_of_getElem? (l := preL) (i := 59) rfl))), He.free_ok X G (c.t.d.facts (f := .free "bool") (List.mem_append_left _ (List.mem_of_getElem? (l := preL) (i := 60) rfl))), He.free_ok X G (c.t.d.facts (f := .free "str") (List.mem_append_left _ (List.mem_of_getElem? (l := preL) (i := 61) rfl)))⟩
  have B2 : Bi2 mg := ⟨He.free_ok X G (c.t.d.facts (f := .free "enumerate") (List.mem_append_left _ (List.mem_of_getElem? (l := preL) (i := 62) rfl)))⟩
  have B3 : Bi3 mg := ⟨He.free_ok X G (c.t.d.facts (f := .free "sorted") (List.mem_append_left _ (List.mem_of_getElem? (l := preL) (i := 63) rfl)))⟩
  have C : Cs mg := ⟨He.int_ok X G (c.t.d.facts (f := .int "MOST_LAYERS" 4) (List.mem_append_left _ (List.mem_of_getElem? (l := preL) (i := 64) rfl))), He.int_ok X G (c.t.d.facts (f := .int "MOST_NEAR" 3) (List.mem_append_left _ (List.mem_of_getElem? (l := preL) (i := 65) rfl))), He.int_ok X G (c.t.d.facts (f := .int "MOST_EVERY" 3) (List.mem_append_left _ (List.mem_of_getElem? (l := preL) (i := 66) rfl))), He.int_ok X G (c.t.d.facts (f := .int "MOST_PLACES" 60) (List.mem_append_left _ (List.mem_of_getElem? (l := preL) (i := 67) rfl))), He.int_ok X G (c.t.d.facts (f := .int "MOST_ROUNDS" 6) (List.mem_append_left _ (List.mem_of_getElem? (l := preL) (i := 68) rfl))), He.int_ok X G (c.t.d.facts (f := .int "MOST_WIDTH" 8) (List.mem_append_left _ (List.mem_of_getElem? (l := preL) (i := 69) rfl))), He.int_ok X G (c.t.d.facts (f := .int "OPENS" 0) (List.mem_append_left _ (List.mem_of_getElem? (l := preL) (i := 70) rfl))), He.int_ok X G (c.t.d.facts (f := .int "GOES_ON" 1) (List.mem_append_left _ (List.mem_of_getElem? (l := preL) (i := 71) rfl))), He.int_ok X G (c.t.d.facts (f := .int "FILLS" 2) (List.mem_append_left _ (List.mem_of_getElem? (l := preL) (i := 72) rfl))), He.int_ok X G (c.t.d.facts (f := .int "SINGLE" 3) (List.mem_append_left _ (List.mem_of_getElem? (l := preL) (i := 73) rfl))), He.int_ok X G (c.t.d.facts (f := .int "CLOSES" 4) (List.mem_append_left _ (List.mem_of_getElem? (l := preL) (i := 74) rfl))), He.str_ok X G (c.t.d.facts (f := .str "ROW" "row") (List.mem_append_left _ (List.mem_of_getElem? (l := preL) (i := 75) rfl))), He.str_ok X G (c.t.d.facts (f := .str "TRUE" "true") (List.mem_append_left _ (List.mem_of_getElem? (l := preL) (i := 76) rfl))), He.str_ok X G (c.t.d.facts (f := .str "LINE" "line") (List.mem_append_left _ (List.mem_of_getElem? (l := preL) (i := 77) rfl))), He.str_ok X G (c.t.d.facts (f := .str "BACK" "back") (List.mem_append_left _ (List.mem_of_getElem? (l := preL) (i := 78) rfl))), He.str_ok X G (c.t.d.facts (f := .str "AHEAD" "ahead") (List.mem_append_left _ (List.mem_of_getElem? (l := preL) (i := 79) rfl))), He.str_ok X G (c.t.d.facts (f := .str "AROUND" "around") (List.mem_append_left _ (List.mem_of_getElem? (l := preL) (i := 80) rfl)))⟩
  have D_members : Dn K mg "members" s_members ["bits"] := dn_at X G c.t.d (List.mem_of_getElem? (i := 0) rfl) (List.mem_append_left _ (List.mem_of_getElem? (l := preL) (i := 0) rfl)) (fun _ _ _ _ _ _ us hl => match us, hl with | [_], _ => rfl)
  have D_is_integer : Dn K mg "is_integer" s_is_integer ["value"] := dn_at X G c.t.d (List.mem_of_getElem? (i := 1) rfl) (List.mem_append_left _ (List.mem_of_getElem? (l := preL) (i := 1) rfl)) (fun _ _ _ _ _ _ us hl => match us, hl with | [_], _ => rfl)
  have D_is_piece : Dn K mg "_is_piece" s_is_piece ["value"] := dn_at X G c.t.d (List.mem_of_getElem? (i := 2) rfl) (List.mem_append_left _ (List.mem_of_getElem? (l := preL) (i := 2) rfl)) (fun _ _ _ _ _ _ us hl => match us, hl with | [_], _ => rfl)
  have D_is_line : Dn K mg "is_line" s_is_line ["value"] := dn_at X G c.t.d (List.mem_of_getElem? (i := 3) rfl) (List.mem_append_left _ (List.mem_of_getElem? (l := preL) (i := 3) rfl)) (fun _ _ _ _ _ _ us hl => match us, hl with | [_], _ => rfl)
  have D_check_line : Dn K mg "check_line" s_check_line ["line"] := dn_at X G c.t.d (List.mem_of_getElem? (i := 4) rfl) (List.mem_append_left _ (List.mem_of_getElem? (l := preL) (i := 4) rfl)) (fun _ _ _ _ _ _ us hl => match us, hl with | [_], _ => rfl)
  have D_signs : Dn K mg "signs" s_signs ["line"] := dn_at X G c.t.d (List.mem_of_getElem? (i := 5) rfl) (List.mem_append_left _ (List.mem_of_getElem? (l := preL) (i := 5) rfl)) (fun _ _ _ _ _ _ us hl => match us, hl with | [_], _ => rfl)
  have D_piece_of_each : Dn K mg "_piece_of_each" s_piece_of_each ["line"] := dn_at X G c.t.d (List.mem_of_getElem? (i := 6) rfl) (List.mem_append_left _ (List.mem_of_getElem? (l := preL) (i := 6) rfl)) (fun _ _ _ _ _ _ us hl => match us, hl with | [_], _ => rfl)
  have D_cut : Dn K mg "_cut" s_cut ["words", "last"] := dn_at X G c.t.d (List.mem_of_getElem? (i := 7) rfl) (List.mem_append_left _ (List.mem_of_getElem? (l := preL) (i := 7) rfl)) (fun _ _ _ _ _ _ us hl => match us, hl with | [_, _], _ => rfl)
  have D_numbers : Dn K mg "_numbers" s_numbers ["least", "most"] := dn_at X G c.t.d (List.mem_of_getElem? (i := 8) rfl) (List.mem_append_left _ (List.mem_of_getElem? (l := preL) (i := 8) rfl)) (fun _ _ _ _ _ _ us hl => match us, hl with | [_, _], _ => rfl)
  have D_cut_every : Dn K mg "_cut_every" s_cut_every ["words"] := dn_at X G c.t.d (List.mem_of_getElem? (i := 9) rfl) (List.mem_append_left _ (List.mem_of_getElem? (l := preL) (i := 9) rfl)) (fun _ _ _ _ _ _ us hl => match us, hl with | [_], _ => rfl)
  have D_width : Dn K mg "_width" s_width ["words", "every"] := dn_at X G c.t.d (List.mem_of_getElem? (i := 10) rfl) (List.mem_append_left _ (List.mem_of_getElem? (l := preL) (i := 10) rfl)) (fun _ _ _ _ _ _ us hl => match us, hl with | [_, _], _ => rfl)
  have D_wide_span : Dn K mg "_wide_span" s_wide_span ["way", "near", "every"] := dn_at X G c.t.d (List.mem_of_getElem? (i := 11) rfl) (List.mem_append_left _ (List.mem_of_getElem? (l := preL) (i := 11) rfl)) (fun _ _ _ _ _ _ us hl => match us, hl with | [_, _, _], _ => rfl)
  have D_read_span : Dn K mg "_read_span" s_read_span ["words", "every", "scope"] := dn_at X G c.t.d (List.mem_of_getElem? (i := 12) rfl) (List.mem_append_left _ (List.mem_of_getElem? (l := preL) (i := 12) rfl)) (fun _ _ _ _ _ _ us hl => match us, hl with | [_, _, _], _ => rfl)
  have D_read_layer : Dn K mg "read_layer" s_read_layer ["value"] := dn_at X G c.t.d (List.mem_of_getElem? (i := 13) rfl) (List.mem_append_left _ (List.mem_of_getElem? (l := preL) (i := 13) rfl)) (fun _ _ _ _ _ _ us hl => match us, hl with | [_], _ => rfl)
  have D_first_wrong : Dn K mg "_first_wrong" s_first_wrong ["written"] := dn_at X G c.t.d (List.mem_of_getElem? (i := 14) rfl) (List.mem_append_left _ (List.mem_of_getElem? (l := preL) (i := 14) rfl)) (fun _ _ _ _ _ _ us hl => match us, hl with | [_], _ => rfl)
  have D_check_program : Dn K mg "check_program" s_check_program ["value"] := dn_at X G c.t.d (List.mem_of_getElem? (i := 15) rfl) (List.mem_append_left _ (List.mem_of_getElem? (l := preL) (i := 15) rfl)) (fun _ _ _ _ _ _ us hl => match us, hl with | [_], _ => rfl)
  have D_layers_of : Dn K mg "layers_of" s_layers_of ["program"] := dn_at X G c.t.d (List.mem_of_getElem? (i := 16) rfl) (List.mem_append_left _ (List.mem_of_getElem? (l := preL) (i := 16) rfl)) (fun _ _ _ _ _ _ us hl => match us, hl with | [_], _ => rfl)
  have D_taken_lists : Dn K mg "taken_lists" s_taken_lists ["layer", "line"] := dn_at X G c.t.d (List.mem_of_getElem? (i := 17) rfl) (List.mem_append_left _ (List.mem_of_getElem? (l := preL) (i := 17) rfl)) (fun _ _ _ _ _ _ us hl => match us, hl with | [_, _], _ => rfl)
  have D_together : Dn K mg "_together" s_together ["holds", "places"] := dn_at X G c.t.d (List.mem_of_getElem? (i := 18) rfl) (List.mem_append_left _ (List.mem_of_getElem? (l := preL) (i := 18) rfl)) (fun _ _ _ _ _ _ us hl => match us, hl with | [_, _], _ => rfl)
  obtain ⟨fd_held_sets, F0_held_sets⟩ := c.t.d.defs (d := ddF "held_sets" s_held_sets [.int 1] []) (List.mem_of_getElem? (i := 19) rfl)
  have F_held_sets : FunD K "held_sets" "held_sets" (defArgs s_held_sets) (defBody s_held_sets) (defScope s_held_sets) [V.int 1] [] (He.fAd K ("held_sets", none)) fd_held_sets := F0_held_sets
  obtain ⟨ds_held_sets, v_held_sets, b_held_sets⟩ := FunD.binds1 (ps := ["layers", "line", "rounds"]) F_held_sets 3 1 (by simp) rfl (fun T kV doc pm an cdv ct us its h1 h2 => by match us, h1, its, h2 with | [_, _, _], _, [_], _ => exact ⟨_, rfl, rfl⟩)
  have D_held_sets : DnP K mg "held_sets" s_held_sets ["layers", "line", "rounds"] := by
    cases v_held_sets
    exact ⟨_, fd_held_sets, _, _, F_held_sets, He.glo_ok X G (c.t.d.facts (f := .glo "held_sets") (List.mem_append_left _ (List.mem_of_getElem? (l := preL) (i := 19) rfl))), b_held_sets⟩
  have D_is_rounds : Dn K mg "is_rounds" s_is_rounds ["value"] := dn_at X G c.t.d (List.mem_of_getElem? (i := 20) rfl) (List.mem_append_left _ (List.mem_of_getElem? (l := preL) (i := 20) rfl)) (fun _ _ _ _ _ _ us hl => match us, hl with | [_], _ => rfl)
  have D_check_rounds : Dn K mg "check_rounds" s_check_rounds ["rounds"] := dn_at X G c.t.d (List.mem_of_getElem? (i := 21) rfl) (List.mem_append_left _ (List.mem_of_getElem? (l := preL) (i := 21) rfl)) (fun _ _ _ _ _ _ us hl => match us, hl with | [_], _ => rfl)
  have D_held_ : Dn K mg "_held" s_held_ ["program", "line", "rounds"] := dn_at X G c.t.d (List.mem_of_getElem? (i := 22) rfl) (List.mem_append_left _ (List.mem_of_getElem? (l := preL) (i := 22) rfl)) (fun _ _ _ _ _ _ us hl => match us, hl with | [_, _, _], _ => rfl)
  obtain ⟨fd_held, F0_held⟩ := c.t.d.defs (d := ddF "held" s_held [] [("rounds", .int 1)]) (List.mem_of_getElem? (i := 23) rfl)
  have F_held : FunD K "held" "held" (defArgs s_held) (defBody s_held) (defScope s_held) [] [("rounds", V.int 1)] (He.fAd K ("held", none)) fd_held := F0_held
  obtain ⟨ds_held, v_held, b_held⟩ := FunD.binds0 (ps := ["program", "line", "rounds"]) F_held 2 (by simp) rfl (fun D doc pm an cdv ct us ks h1 h2 => by match us, h1, ks, h2 with | [_, _], _, [_], _ => exact ⟨_, _, _, _, _, _, rfl, rfl, rfl⟩)
  have D_held : DnB K mg "held" s_held ["program", "line", "rounds"] [V.int 1] 2 ["rounds"] := ⟨_, fd_held, _, _, ds_held, F_held, He.glo_ok X G (c.t.d.facts (f := .glo "held") (List.mem_append_left _ (List.mem_of_getElem? (l := preL) (i := 23) rfl))), b_held, v_held, kbn_all (n := 2) (ks := ["rounds"]) (ps := ["program", "line", "rounds"]) F_held (fun _ _ _ _ _ _ us ws h1 h2 => match us, h1, ws, h2 with | [_, _], _, [_], _ => rfl)⟩
  have D_law_cell : Dn K mg "_law_cell" s_law_cell ["script", "k"] := dn_at X G c.t.d (List.mem_of_getElem? (i := 24) rfl) (List.mem_append_left _ (List.mem_of_getElem? (l := preL) (i := 24) rfl)) (fun _ _ _ _ _ _ us hl => match us, hl with | [_, _], _ => rfl)
  have D_law_well : Dn K mg "_law_well" s_law_well ["cell"] := dn_at X G c.t.d (List.mem_of_getElem? (i := 25) rfl) (List.mem_append_left _ (List.mem_of_getElem? (l := preL) (i := 25) rfl)) (fun _ _ _ _ _ _ us hl => match us, hl with | [_], _ => rfl)
  have D_law_draw : Dn K mg "_law_draw" s_law_draw ["well", "many"] := dn_at X G c.t.d (List.mem_of_getElem? (i := 26) rfl) (List.mem_append_left _ (List.mem_of_getElem? (l := preL) (i := 26) rfl)) (fun _ _ _ _ _ _ us hl => match us, hl with | [_, _], _ => rfl)
  have D_law_wells : Dn K mg "_law_wells" s_law_wells ["script", "most"] := dn_at X G c.t.d (List.mem_of_getElem? (i := 27) rfl) (List.mem_append_left _ (List.mem_of_getElem? (l := preL) (i := 27) rfl)) (fun _ _ _ _ _ _ us hl => match us, hl with | [_, _], _ => rfl)
  have D_law_word : Dn K mg "_law_word" s_law_word ["pieces"] := dn_at X G c.t.d (List.mem_of_getElem? (i := 28) rfl) (List.mem_append_left _ (List.mem_of_getElem? (l := preL) (i := 28) rfl)) (fun _ _ _ _ _ _ us hl => match us, hl with | [_], _ => rfl)
  have D_law_pieces : Dn K mg "_law_pieces" s_law_pieces ["word"] := dn_at X G c.t.d (List.mem_of_getElem? (i := 29) rfl) (List.mem_append_left _ (List.mem_of_getElem? (l := preL) (i := 29) rfl)) (fun _ _ _ _ _ _ us hl => match us, hl with | [_], _ => rfl)
  have D_law_short : Dn K mg "_law_short" s_law_short ["well", "most"] := dn_at X G c.t.d (List.mem_of_getElem? (i := 30) rfl) (List.mem_append_left _ (List.mem_of_getElem? (l := preL) (i := 30) rfl)) (fun _ _ _ _ _ _ us hl => match us, hl with | [_, _], _ => rfl)
  have D_law_long : Dn K mg "_law_long" s_law_long ["well"] := dn_at X G c.t.d (List.mem_of_getElem? (i := 31) rfl) (List.mem_append_left _ (List.mem_of_getElem? (l := preL) (i := 31) rfl)) (fun _ _ _ _ _ _ us hl => match us, hl with | [_], _ => rfl)
  have D_law_some : Dn K mg "_law_some" s_law_some ["well"] := dn_at X G c.t.d (List.mem_of_getElem? (i := 32) rfl) (List.mem_append_left _ (List.mem_of_getElem? (l := preL) (i := 32) rfl)) (fun _ _ _ _ _ _ us hl => match us, hl with | [_], _ => rfl)
  have D_law_clear : Dn K mg "_law_clear" s_law_clear [] := dn_at X G c.t.d (List.mem_of_getElem? (i := 33) rfl) (List.mem_append_left _ (List.mem_of_getElem? (l := preL) (i := 33) rfl)) (fun _ _ _ _ _ _ us hl => match us, hl with | [], _ => rfl)
  have D_law_said : Dn K mg "_law_said" s_law_said ["well"] := dn_at X G c.t.d (List.mem_of_getElem? (i := 34) rfl) (List.mem_append_left _ (List.mem_of_getElem? (l := preL) (i := 34) rfl)) (fun _ _ _ _ _ _ us hl => match us, hl with | [_], _ => rfl)
  have D_law_width : Dn K mg "_law_width" s_law_width ["said"] := dn_at X G c.t.d (List.mem_of_getElem? (i := 35) rfl) (List.mem_append_left _ (List.mem_of_getElem? (l := preL) (i := 35) rfl)) (fun _ _ _ _ _ _ us hl => match us, hl with | [_], _ => rfl)
  have D_law_saids : Dn K mg "_law_saids" s_law_saids ["well", "most"] := dn_at X G c.t.d (List.mem_of_getElem? (i := 36) rfl) (List.mem_append_left _ (List.mem_of_getElem? (l := preL) (i := 36) rfl)) (fun _ _ _ _ _ _ us hl => match us, hl with | [_, _], _ => rfl)
  have D_law_text : Dn K mg "_law_text" s_law_text ["said"] := dn_at X G c.t.d (List.mem_of_getElem? (i := 37) rfl) (List.mem_append_left _ (List.mem_of_getElem? (l := preL) (i := 37) rfl)) (fun _ _ _ _ _ _ us hl => match us, hl with | [_], _ => rfl)
  have D_law_texts : Dn K mg "_law_texts" s_law_texts ["saids"] := dn_at X G c.t.d (List.mem_of_getElem? (i := 38) rfl) (List.mem_append_left _ (List.mem_of_getElem? (l := preL) (i := 38) rfl)) (fun _ _ _ _ _ _ us hl => match us, hl with | [_], _ => rfl)
  have D_law_joined : Dn K mg "_law_joined" s_law_joined ["found", "places"] := dn_at X G c.t.d (List.mem_of_getElem? (i := 39) rfl) (List.mem_append_left _ (List.mem_of_getElem? (l := preL) (i := 39) rfl)) (fun _ _ _ _ _ _ us hl => match us, hl with | [_, _], _ => rfl)
  have D_law_pair : Dn K mg "_law_pair" s_law_pair ["well"] := dn_at X G c.t.d (List.mem_of_getElem? (i := 40) rfl) (List.mem_append_left _ (List.mem_of_getElem? (l := preL) (i := 40) rfl)) (fun _ _ _ _ _ _ us hl => match us, hl with | [_], _ => rfl)
  have D_law_handed : Dn K mg "_law_handed" s_law_handed ["found", "places"] := dn_at X G c.t.d (List.mem_of_getElem? (i := 41) rfl) (List.mem_append_left _ (List.mem_of_getElem? (l := preL) (i := 41) rfl)) (fun _ _ _ _ _ _ us hl => match us, hl with | [_, _], _ => rfl)
  have D_law_right : Dn K mg "_law_right" s_law_right ["well"] := dn_at X G c.t.d (List.mem_of_getElem? (i := 42) rfl) (List.mem_append_left _ (List.mem_of_getElem? (l := preL) (i := 42) rfl)) (fun _ _ _ _ _ _ us hl => match us, hl with | [_], _ => rfl)
  obtain ⟨fd, F⟩ := c.t.d.defs (d := ddS "law" s_law) (List.mem_of_getElem? (i := 43) rfl)
  have g := He.glo_ok X G (c.t.d.facts (f := .glo "law") (List.mem_append_left _ (List.mem_of_getElem? (l := preL) (i := 43) rfl)))
  have e := hfa.symm.trans g
  cases e
  have hx : exL K = true := c.more
  unfold exL at hx
  simp only [Bool.and_eq_true, decide_eq_true_eq] at hx
  obtain ⟨os, ol, op, ot⟩ := hx
  have OS := obB_ok os
  have OL := obB_ok ol
  obtain ⟨OP, k1, k0, nf, nfo, pne, pbl, play⟩ := progB_ok op
  have hT : ∀ H, L2.SqT K H (kwAt ("Span", some "__init__") "ends" K) [] := fun H => tupB_ok ot H
  have GSpan := He.glo_ok X G (c.t.d.facts (f := .glo "Span") (List.mem_append_left _ (List.mem_of_getElem? (l := preL) (i := 44) rfl)))
  have MSpan := He.mkr_ok (c.t.d.facts (f := .mkr "Span") (List.mem_append_left _ (List.mem_of_getElem? (l := preL) (i := 81) rfl)))
  have GLayer := He.glo_ok X G (c.t.d.facts (f := .glo "Layer") (List.mem_append_left _ (List.mem_of_getElem? (l := preL) (i := 45) rfl)))
  have MLayer := He.mkr_ok (c.t.d.facts (f := .mkr "Layer") (List.mem_append_left _ (List.mem_of_getElem? (l := preL) (i := 82) rfl)))
  have GProgram := He.glo_ok X G (c.t.d.facts (f := .glo "Program") (List.mem_append_left _ (List.mem_of_getElem? (l := preL) (i := 46) rfl)))
  have MProgram := He.mkr_ok (c.t.d.facts (f := .mkr "Program") (List.mem_append_left _ (List.mem_of_getElem? (l := preL) (i := 83) rfl)))
  have NL : NoAttr K (He.ga K "Program") "_layers" := He.noat_ok (c.t.d.facts (f := .noat "Program" "_layers") (List.mem_append_left _ (List.mem_of_getElem? (l := preL) (i := 87) rfl)))
  have nS : ∀ k ∈ spanFl, NoAttr K (He.ga K "Span") k := fun k hk => He.noat_ok (c.t.d.facts (f := .noat "Span" k) (List.mem_append_right _ (List.mem_append_left _ (List.mem_map_of_mem hk))))
  have nLy : ∀ k ∈ layFl, NoAttr K (He.ga K "Layer") k := fun k hk => He.noat_ok (c.t.d.facts (f := .noat "Layer" k) (List.mem_append_right _ (List.mem_append_right _ (List.mem_map_of_mem hk))))
  have NW : NoAttr K (He.ga K "Layer") "width" := nLy "width" (by decide)
  have CL := OL.cl
  have CP := OP.cl
  obtain ⟨fdS, FS0⟩ := c.t.d.defs (d := ddSpan) (List.mem_of_getElem? (i := 44) rfl)
  have FS : FunD K "__init__" ("Span" ++ "." ++ "__init__") (defArgs s_ini_Span) (defBody s_ini_Span) (defScope s_ini_Span) [] [("every", V.int 1), ("ends", V.ref (kwAt ("Span", some "__init__") "ends" K))] (He.fAd K ("Span", some "__init__")) fdS := FS0
  obtain ⟨fdL, FL0⟩ := c.t.d.defs (d := ddLayer) (List.mem_of_getElem? (i := 45) rfl)
  have FL : FunD K "__init__" ("Layer" ++ "." ++ "__init__") (defArgs s_ini_Layer) (defBody s_ini_Layer) (defScope s_ini_Layer) [] [("own", V.bl false), ("for_true", V.bl false), ("clears", V.bl false)] (He.fAd K ("Layer", some "__init__")) fdL := FL0
  obtain ⟨fdP0, FP0⟩ := c.t.d.defs (d := ddM "Program" "__init__" s_Program___init__) (List.mem_of_getElem? (i := 46) rfl)
  obtain ⟨fdP1, FP1⟩ := c.t.d.defs (d := ddM "Program" "__len__" s_Program___len__) (List.mem_of_getElem? (i := 47) rfl)
  obtain ⟨fdP2, FP2⟩ := c.t.d.defs (d := ddM "Program" "__str__" s_Program___str__) (List.mem_of_getElem? (i := 48) rfl)
  obtain ⟨fdP3, FP3⟩ := c.t.d.defs (d := ddM "Program" "__eq__" s_Program___eq__) (List.mem_of_getElem? (i := 49) rfl)
  obtain ⟨fdM0, FM0⟩ := c.t.d.defs (d := ddM "Span" "reaches" s_Span_reaches) (List.mem_of_getElem? (i := 50) rfl)
  obtain ⟨fdM1, FM1⟩ := c.t.d.defs (d := ddM "Span" "leads" s_Span_leads) (List.mem_of_getElem? (i := 51) rfl)
  obtain ⟨fdM2, FM2⟩ := c.t.d.defs (d := ddM "Layer" "keeps" s_Layer_keeps) (List.mem_of_getElem? (i := 52) rfl)
  obtain ⟨fdM3, FM3⟩ := c.t.d.defs (d := ddM "Layer" "asks" s_Layer_asks) (List.mem_of_getElem? (i := 53) rfl)
  obtain ⟨fdM4, FM4⟩ := c.t.d.defs (d := ddM "Layer" "sees" s_Layer_sees) (List.mem_of_getElem? (i := 54) rfl)
  obtain ⟨fdM5, FM5⟩ := c.t.d.defs (d := ddM "Program" "then" s_Program_then) (List.mem_of_getElem? (i := 55) rfl)
  obtain ⟨fdG, FG⟩ := cp.at_ 0 (d := ddP "Program" "layers" s_Program_layers)
  obtain ⟨_, bS0⟩ := FS.kbinds0 (ps := "self" :: spanFl) 4 [] [("every", V.int 1), ("ends", V.ref (kwAt ("Span", some "__init__") "ends" K))] (fun us mv ws => us ++ mv ++ ws) (by simp) (by simp) (fun h1 h2 h3 => vals_app (vals_app h1 h2) h3) (fun D doc pm an cdv ct us mv ws e1 e2 e3 => by match us, e1, mv, e2, ws, e3 with | [a, b, c, d], _, [m, t], _, [], _ => exact ⟨_, _, _, _, _, _, rfl, rfl, _, _, _, _, _, _, rfl, rfl, rfl⟩)
  obtain ⟨_, bS1⟩ := FS.kbinds0 (ps := "self" :: spanFl) 4 ["every"] [("ends", V.ref (kwAt ("Span", some "__init__") "ends" K))] (fun us mv ws => us ++ ws ++ mv) (by simp) (by simp) (fun h1 h2 h3 => vals_app (vals_app h1 h3) h2) (fun D doc pm an cdv ct us mv ws e1 e2 e3 => by match us, e1, mv, e2, ws, e3 with | [a, b, c, d], _, [m], _, [z], _ => exact ⟨_, _, _, _, _, _, rfl, rfl, rfl⟩)
  obtain ⟨_, bS2⟩ := FS.kbinds0 (ps := "self" :: spanFl) 4 ["ends"] [("every", V.int 1)] (fun us mv ws => us ++ mv ++ ws) (by simp) (by simp) (fun h1 h2 h3 => vals_app (vals_app h1 h2) h3) (fun D doc pm an cdv ct us mv ws e1 e2 e3 => by match us, e1, mv, e2, ws, e3 with | [a, b, c, d], _, [m], _, [z], _ => exact ⟨_, _, _, _, _, _, rfl, rfl, rfl⟩)
  obtain ⟨_, bL1⟩ := FL.kbinds0 (ps := "self" :: layFl) 4 ["clears"] [("own", V.bl false), ("for_true", V.bl false)] (fun us mv ws => us ++ mv ++ ws) (by simp) (by simp) (fun h1 h2 h3 => vals_app (vals_app h1 h2) h3) (fun D doc pm an cdv ct us mv ws e1 e2 e3 => by match us, e1, mv, e2, ws, e3 with | [a, b, c, d], _, [m, t], _, [z], _ => exact ⟨_, _, _, _, _, _, rfl, rfl, _, _, _, _, _, _, rfl, rfl, rfl⟩)
  obtain ⟨_, bL2⟩ := FL.kbinds0 (ps := "self" :: layFl) 4 ["own", "for_true"] [("clears", V.bl false)] (fun us mv ws => us ++ ws ++ mv) (by simp) (by simp) (fun h1 h2 h3 => vals_app (vals_app h1 h3) h2) (fun D doc pm an cdv ct us mv ws e1 e2 e3 => by match us, e1, mv, e2, ws, e3 with | [a, b, c, d], _, [m], _, [y, z], _ => exact ⟨_, _, _, _, _, _, rfl, rfl, rfl⟩)
  refine atG_of X c (T := ([] : List (Addr × Str))) (fun p hp => ?_) (fun s v => FunD.bindsA (ps := ["script"]) F (fun _ _ _ _ _ _ us hl => match us, hl with | [_], _ => rfl) s [v] rfl) fun base X2 G2 tb => ?_
  · cases hp
  have iS := iniO_of (P := PySem.Challenge.rw_filledrows_k24_whole_programs_in_turn.prog) (w := w) (mg := mg) (base := base) (ks := spanFl) FS sc_ini_Span OS.cl (by decide) nS (by decide) ini_body_Span
  have iL := iniO_of (P := PySem.Challenge.rw_filledrows_k24_whole_programs_in_turn.prog) (w := w) (mg := mg) (base := base) (ks := layFl) FL sc_ini_Layer OL.cl (by decide) nLy (by decide) ini_body_Layer
  have MS : MkO PySem.Challenge.rw_filledrows_k24_whole_programs_in_turn.prog w K mg base "Span" spanFl 3 ["every"] (fun vs zs => vs ++ zs ++ [V.ref (kwAt ("Span", some "__init__") "ends" K)]) := mkO_of GSpan MSpan iS bS1
  have MS0 : MkO PySem.Challenge.rw_filledrows_k24_whole_programs_in_turn.prog w K mg base "Span" spanFl 3 [] (fun vs zs => vs ++ [V.int 1, V.ref (kwAt ("Span", some "__init__") "ends" K)] ++ zs) := mkO_of GSpan MSpan iS bS0
  have MSe : MkO PySem.Challenge.rw_filledrows_k24_whole_programs_in_turn.prog w K mg base "Span" spanFl 3 ["ends"] (fun vs zs => vs ++ [V.int 1] ++ zs) := mkO_of GSpan MSpan iS bS2
  have MLc : MkO PySem.Challenge.rw_filledrows_k24_whole_programs_in_turn.prog w K mg base "Layer" layFl 3 ["clears"] (fun vs zs => vs ++ [V.bl false, V.bl false] ++ zs) := mkO_of GLayer MLayer iL bL1
  have MLo : MkO PySem.Challenge.rw_filledrows_k24_whole_programs_in_turn.prog w K mg base "Layer" layFl 3 ["own", "for_true"] (fun vs zs => vs ++ zs ++ [V.bl false]) := mkO_of GLayer MLayer iL bL2
  have LC : LyC K := ⟨OS.cl, OL.cl, nS, nLy⟩
  have k_members := FRL.k_members (P := PySem.Challenge.rw_filledrows_k24_whole_programs_in_turn.prog) (w := w) (base := base) D_members B
  have k_is_integer := FRL.k_is_integer (P := PySem.Challenge.rw_filledrows_k24_whole_programs_in_turn.prog) (w := w) (base := base) D_is_integer B
  have k_is_piece := FRL.k_is_piece (P := PySem.Challenge.rw_filledrows_k24_whole_programs_in_turn.prog) (w := w) (base := base) D_is_piece B k_is_integer
  have k_is_line := FRL.k_is_line (P := PySem.Challenge.rw_filledrows_k24_whole_programs_in_turn.prog) (w := w) (base := base) D_is_line B C k_is_piece
  have k_check_line := FRL.k_check_line (P := PySem.Challenge.rw_filledrows_k24_whole_programs_in_turn.prog) (w := w) (base := base) D_check_line B k_is_line
  have k_signs := FRL.k_signs (P := PySem.Challenge.rw_filledrows_k24_whole_programs_in_turn.prog) (w := w) (base := base) D_signs B C
  have k_piece_of_each := FRL.k_piece_of_each (P := PySem.Challenge.rw_filledrows_k24_whole_programs_in_turn.prog) (w := w) (base := base) D_piece_of_each B B2
  have MR : MthO PySem.Challenge.rw_filledrows_k24_whole_programs_in_turn.prog w K mg base "Span" "reaches" 1 ["self", "distance"] (spReach K) := ⟨_, _, He.meth_ok (c.t.d.facts (f := .meth "Span" "reaches") (List.mem_append_left _ (List.mem_of_getElem? (l := preL) (i := 88) rfl))), FRL.f_Span_reaches (P := PySem.Challenge.rw_filledrows_k24_whole_programs_in_turn.prog) (w := w) (base := base) (fun_ofM FM0) LC, FM0.bindsN (ps := ["self", "distance"]) (fun _ _ _ _ _ _ us hl => match us, hl with | [_, _], _ => rfl)⟩
  have ML : MthO PySem.Challenge.rw_filledrows_k24_whole_programs_in_turn.prog w K mg base "Span" "leads" 2 ["self", "step"] (spLeads K) := ⟨_, _, He.meth_ok (c.t.d.facts (f := .meth "Span" "leads") (List.mem_append_left _ (List.mem_of_getElem? (l := preL) (i := 89) rfl))), FRL.f_Span_leads (P := PySem.Challenge.rw_filledrows_k24_whole_programs_in_turn.prog) (w := w) (base := base) (fun_ofM FM1) B LC MR, FM1.bindsN (ps := ["self", "step"]) (fun _ _ _ _ _ _ us hl => match us, hl with | [_, _], _ => rfl)⟩
  have MK : MthO PySem.Challenge.rw_filledrows_k24_whole_programs_in_turn.prog w K mg base "Layer" "keeps" 1 ["self", "sign"] (spSign K keepsB) := ⟨_, _, He.meth_ok (c.t.d.facts (f := .meth "Layer" "keeps") (List.mem_append_left _ (List.mem_of_getElem? (l := preL) (i := 90) rfl))), FRL.f_Layer_keeps (P := PySem.Challenge.rw_filledrows_k24_whole_programs_in_turn.prog) (w := w) (base := base) (fun_ofM FM2) C LC, FM2.bindsN (ps := ["self", "sign"]) (fun _ _ _ _ _ _ us hl => match us, hl with | [_, _], _ => rfl)⟩
  have MA : MthO PySem.Challenge.rw_filledrows_k24_whole_programs_in_turn.prog w K mg base "Layer" "asks" 1 ["self", "sign"] (spSign K asksB) := ⟨_, _, He.meth_ok (c.t.d.facts (f := .meth "Layer" "asks") (List.mem_append_left _ (List.mem_of_getElem? (l := preL) (i := 91) rfl))), FRL.f_Layer_asks (P := PySem.Challenge.rw_filledrows_k24_whole_programs_in_turn.prog) (w := w) (base := base) (fun_ofM FM3) C LC, FM3.bindsN (ps := ["self", "sign"]) (fun _ _ _ _ _ _ us hl => match us, hl with | [_, _], _ => rfl)⟩
  have MS_ : MthO PySem.Challenge.rw_filledrows_k24_whole_programs_in_turn.prog w K mg base "Layer" "sees" 1 ["self", "sign"] (spSign K seesB) := ⟨_, _, He.meth_ok (c.t.d.facts (f := .meth "Layer" "sees") (List.mem_append_left _ (List.mem_of_getElem? (l := preL) (i := 92) rfl))), FRL.f_Layer_sees (P := PySem.Challenge.rw_filledrows_k24_whole_programs_in_turn.prog) (w := w) (base := base) (fun_ofM FM4) C LC, FM4.bindsN (ps := ["self", "sign"]) (fun _ _ _ _ _ _ us hl => match us, hl with | [_, _], _ => rfl)⟩
  have k_cut := FRL.k_cut (P := PySem.Challenge.rw_filledrows_k24_whole_programs_in_turn.prog) (w := w) (base := base) D_cut B
  have k_numbers := FRL.k_numbers (P := PySem.Challenge.rw_filledrows_k24_whole_programs_in_turn.prog) (w := w) (base := base) D_numbers B
  have k_cut_every := FRL.k_cut_every (P := PySem.Challenge.rw_filledrows_k24_whole_programs_in_turn.prog) (w := w) (base := base) D_cut_every B C k_numbers
  have k_width := FRL.k_width (P := PySem.Challenge.rw_filledrows_k24_whole_programs_in_turn.prog) (w := w) (base := base) D_width B
  have k_wide_span := FRL.k_wide_span (P := PySem.Challenge.rw_filledrows_k24_whole_programs_in_turn.prog) (w := w) (base := base) D_wide_span B C MS hT
  have k_read_span := FRL.k_read_span (P := PySem.Challenge.rw_filledrows_k24_whole_programs_in_turn.prog) (w := w) (base := base) D_read_span B C MS0 MSe hT k_numbers k_wide_span
  have k_read_layer := FRL.k_read_layer (P := PySem.Challenge.rw_filledrows_k24_whole_programs_in_turn.prog) (w := w) (base := base) D_read_layer B C MS0 MLc MLo hT k_cut k_cut_every k_width k_read_span
  have k_first_wrong := FRL.k_first_wrong (P := PySem.Challenge.rw_filledrows_k24_whole_programs_in_turn.prog) (w := w) (base := base) D_first_wrong B B2 C CL NW k_read_layer
  have iP := FRL.f_Program_init (P := PySem.Challenge.rw_filledrows_k24_whole_programs_in_turn.prog) (w := w) (base := base) (fun_ofM FP0) B CP NL k_first_wrong
  obtain ⟨mlen1, mlen2, mlen3⟩ := He.meth_ok (c.t.d.facts (f := .meth "Program" "__len__") (List.mem_append_left _ (List.mem_of_getElem? (l := preL) (i := 84) rfl)))
  obtain ⟨mstr1, mstr2, mstr3⟩ := He.meth_ok (c.t.d.facts (f := .meth "Program" "__str__") (List.mem_append_left _ (List.mem_of_getElem? (l := preL) (i := 85) rfl)))
  obtain ⟨meq1, meq2, meq3⟩ := He.meth_ok (c.t.d.facts (f := .meth "Program" "__eq__") (List.mem_append_left _ (List.mem_of_getElem? (l := preL) (i := 86) rfl)))
  have PO : ProgO PySem.Challenge.rw_filledrows_k24_whole_programs_in_turn.prog w K mg base := ⟨GProgram, OP, NL, k1, k0, nf, nfo, pne, pbl, ⟨_, _, _, MProgram, iP, FP0.bindsN (ps := ["self", "layers"]) (fun _ _ _ _ _ _ us hl => match us, hl with | [_, _], _ => rfl), kbn_all (n := 1) (ks := ["layers"]) (ps := ["self", "layers"]) FP0 (fun _ _ _ _ _ _ us ws h1 h2 => match us, h1, ws, h2 with | [_], _, [_], _ => rfl)⟩, ⟨_, _, FRL.f_Program_len (P := PySem.Challenge.rw_filledrows_k24_whole_programs_in_turn.prog) (w := w) (base := base) (fun_ofM FP1) B CP NL, FP1.bindsN (ps := ["self"]) (fun _ _ _ _ _ _ us hl => match us, hl with | [_], _ => rfl), mlen1, mlen2⟩, ⟨_, _, FRL.f_Program_str (P := PySem.Challenge.rw_filledrows_k24_whole_programs_in_turn.prog) (w := w) (base := base) (fun_ofM FP2) CP NL, FP2.bindsN (ps := ["self"]) (fun _ _ _ _ _ _ us hl => match us, hl with | [_], _ => rfl), mstr1, mstr2⟩, ⟨_, _, FRL.f_Program_eq (P := PySem.Challenge.rw_filledrows_k24_whole_programs_in_turn.prog) (w := w) (base := base) (fun_ofM FP3) B GProgram OP NL k1 k0, FP3.bindsN (ps := ["self", "other"]) (fun _ _ _ _ _ _ us hl => match us, hl with | [_, _], _ => rfl), meq1, meq2⟩, ⟨_, _, _, play, FRL.f_Program_layers (P := PySem.Challenge.rw_filledrows_k24_whole_programs_in_turn.prog) (w := w) (base := base) (fun_ofM FG) CP NL, FG.bindsN (ps := ["self"]) (fun _ _ _ _ _ _ us hl => match us, hl with | [_], _ => rfl)⟩⟩
  have k_check_program := FRL.k_check_program (P := PySem.Challenge.rw_filledrows_k24_whole_programs_in_turn.prog) (w := w) (base := base) D_check_program B PO
  have MT : MthO PySem.Challenge.rw_filledrows_k24_whole_programs_in_turn.prog w K mg base "Program" "then" 9 ["self", "other"] (spThen K) := ⟨_, _, He.meth_ok (c.t.d.facts (f := .meth "Program" "then") (List.mem_append_left _ (List.mem_of_getElem? (l := preL) (i := 93) rfl))), FRL.f_Program_then (P := PySem.Challenge.rw_filledrows_k24_whole_programs_in_turn.prog) (w := w) (base := base) (fun_ofM FM5) B CP NL PO k_check_program, FM5.bindsN (ps := ["self", "other"]) (fun _ _ _ _ _ _ us hl => match us, hl with | [_, _], _ => rfl)⟩
  have k_layers_of := FRL.k_layers_of (P := PySem.Challenge.rw_filledrows_k24_whole_programs_in_turn.prog) (w := w) (base := base) D_layers_of PO k_read_layer
  have k_taken_lists := FRL.k_taken_lists (P := PySem.Challenge.rw_filledrows_k24_whole_programs_in_turn.prog) (w := w) (base := base) D_taken_lists B B2 C LC ML MK MA MS_ k_signs k_piece_of_each
  have k_together := FRL.k_together (P := PySem.Challenge.rw_filledrows_k24_whole_programs_in_turn.prog) (w := w) (base := base) D_together B
  have k_held_sets := FRL.k_held_sets (P := PySem.Challenge.rw_filledrows_k24_whole_programs_in_turn.prog) (w := w) (base := base) D_held_sets B k_signs k_taken_lists k_together
  have k_is_rounds := FRL.k_is_rounds (P := PySem.Challenge.rw_filledrows_k24_whole_programs_in_turn.prog) (w := w) (base := base) D_is_rounds B C k_is_integer
  have k_check_rounds := FRL.k_check_rounds (P := PySem.Challenge.rw_filledrows_k24_whole_programs_in_turn.prog) (w := w) (base := base) D_check_rounds k_is_rounds
  have k_held_ := FRL.k_held_ (P := PySem.Challenge.rw_filledrows_k24_whole_programs_in_turn.prog) (w := w) (base := base) D_held_ B k_layers_of k_held_sets k_members
  have k_held := FRL.k_held (P := PySem.Challenge.rw_filledrows_k24_whole_programs_in_turn.prog) (w := w) (base := base) D_held B k_check_program k_check_line k_check_rounds k_held_
  have k_law_cell := FRL.k_law_cell (P := PySem.Challenge.rw_filledrows_k24_whole_programs_in_turn.prog) (w := w) (base := base) D_law_cell B
  have k_law_well := FRL.k_law_well (P := PySem.Challenge.rw_filledrows_k24_whole_programs_in_turn.prog) (w := w) (base := base) D_law_well B
  have k_law_draw := FRL.k_law_draw (P := PySem.Challenge.rw_filledrows_k24_whole_programs_in_turn.prog) (w := w) (base := base) D_law_draw B
  have k_law_wells := FRL.k_law_wells (P := PySem.Challenge.rw_filledrows_k24_whole_programs_in_turn.prog) (w := w) (base := base) D_law_wells B k_law_cell k_law_well
  have k_law_word := FRL.k_law_word (P := PySem.Challenge.rw_filledrows_k24_whole_programs_in_turn.prog) (w := w) (base := base) D_law_word B
  have k_law_pieces := FRL.k_law_pieces (P := PySem.Challenge.rw_filledrows_k24_whole_programs_in_turn.prog) (w := w) (base := base) D_law_pieces B
  have k_law_short := FRL.k_law_short (P := PySem.Challenge.rw_filledrows_k24_whole_programs_in_turn.prog) (w := w) (base := base) D_law_short B k_law_draw
  have k_law_long := FRL.k_law_long (P := PySem.Challenge.rw_filledrows_k24_whole_programs_in_turn.prog) (w := w) (base := base) D_law_long B k_law_draw
  have k_law_some := FRL.k_law_some (P := PySem.Challenge.rw_filledrows_k24_whole_programs_in_turn.prog) (w := w) (base := base) D_law_some B k_law_draw k_law_long k_law_short k_law_pieces
  have k_law_clear := FRL.k_law_clear (P := PySem.Challenge.rw_filledrows_k24_whole_programs_in_turn.prog) (w := w) (base := base) D_law_clear
  have k_law_said := FRL.k_law_said (P := PySem.Challenge.rw_filledrows_k24_whole_programs_in_turn.prog) (w := w) (base := base) D_law_said B k_law_draw k_law_clear
  have k_law_width := FRL.k_law_width (P := PySem.Challenge.rw_filledrows_k24_whole_programs_in_turn.prog) (w := w) (base := base) D_law_width B
  have k_law_saids := FRL.k_law_saids (P := PySem.Challenge.rw_filledrows_k24_whole_programs_in_turn.prog) (w := w) (base := base) D_law_saids B k_law_draw k_law_clear k_law_said k_law_width
  have k_law_text := FRL.k_law_text (P := PySem.Challenge.rw_filledrows_k24_whole_programs_in_turn.prog) (w := w) (base := base) D_law_text B
  have k_law_texts := FRL.k_law_texts (P := PySem.Challenge.rw_filledrows_k24_whole_programs_in_turn.prog) (w := w) (base := base) D_law_texts B k_law_text
  have k_law_joined := FRL.k_law_joined (P := PySem.Challenge.rw_filledrows_k24_whole_programs_in_turn.prog) (w := w) (base := base) D_law_joined B B3
  have k_law_pair := FRL.k_law_pair (P := PySem.Challenge.rw_filledrows_k24_whole_programs_in_turn.prog) (w := w) (base := base) D_law_pair B k_law_draw k_law_clear k_law_saids
  have k_law_handed := FRL.k_law_handed (P := PySem.Challenge.rw_filledrows_k24_whole_programs_in_turn.prog) (w := w) (base := base) D_law_handed B k_law_joined
  have k_law_right := FRL.k_law_right (T := ([] : List (Addr × Str))) (P := PySem.Challenge.rw_filledrows_k24_whole_programs_in_turn.prog) (w := w) (base := base) D_law_right B PO CP k_law_draw k_law_pair k_law_some k_law_word k_law_pieces k_law_texts k_held MT k_law_handed
  exact FRL.k_law (P := PySem.Challenge.rw_filledrows_k24_whole_programs_in_turn.prog) (w := w) (base := base) (fun_of F) B k_law_wells k_law_right
end FRL
open PySem PySem.W PySem.Calls PyProof.Rows
set_option maxRecDepth 100000 in
set_option maxHeartbeats 0 in
theorem PySem.Challenge.cw_filledrows_k24_whole_programs_in_turn_holds : PySem.Challenge.rw_filledrows_k24_whole_programs_in_turn.Holds := by
  w_on; o_law
  refine HandSHeadRun.head_any (r := OpenLaw.row PySem.Challenge.rw_filledrows_k24_whole_programs_in_turn) (q := view (OpenLaw.row PySem.Challenge.rw_filledrows_k24_whole_programs_in_turn).prog [78]) (H := FRL.hkL) (ob := FRL.obL) (M := 9000) (loose := ((["_wall", "members", "WrongValue", "InvalidLine", "InvalidNumber", "InvalidText", "NotAProgram", "InvalidLayers", "WrongRow", "MOST_LAYERS", "MOST_NEAR", "MOST_EVERY", "MOST_PLACES", "MOST_ROUNDS", "MOST_WIDTH", "OPENS", "GOES_ON", "FILLS", "SINGLE", "CLOSES"] : List PySem.Str) ++ (["signs", "check_line", "is_line", "is_integer", "_is_piece", "ROW", "TRUE", "LINE", "BACK", "AHEAD", "AROUND", "Span", "Layer", "read_layer", "_cut", "_cut_every", "_numbers", "_read_span", "_wide_span", "_width"] : List PySem.Str) ++ (["Program", "check_program", "layers_of", "_first_wrong", "held", "held_sets", "check_rounds", "is_rounds", "taken_lists", "_piece_of_each", "_held", "_together", "_law_cell", "_law_well", "_law_draw", "_law_wells", "_law_word", "_law_pieces", "_law_short", "_law_long"] : List PySem.Str) ++ (["_law_some", "_law_clear", "_law_said", "_law_width", "_law_saids", "_law_text", "_law_texts", "_law_joined", "_law_pair", "_law_handed", "_law_right"] : List PySem.Str))) (d := HandSHeadRun.topDef (OpenLaw.row PySem.Challenge.rw_filledrows_k24_whole_programs_in_turn).prog 78) (kwd := []) FRL.obL_eq
    (by kernel_rfl) (fun s => by kernel_rfl) FRL.runL (by kernel_rfl) (by kernel_rfl) (by kernel_rfl) (by rfl) (by first | assumption | decide +kernel) (by decide +kernel) ⟨rfl, rfl, rfl, rfl, rfl, by decide +kernel⟩ ?hw ?hc
  case hw => w_witness2
  case hc =>
    refine FR.walkG (l := PySem.Challenge.rw_filledrows_k24_whole_programs_in_turn) (n := 63) (k := 12) (x := "script") rfl (by decide) (by kernel_rfl) ⟨rfl, by decide, by decide⟩ ?F
    intro w mg fa h Y G hmg0
    obtain ⟨K, KX, c, cp⟩ := Y
    have hmg : mg ("law" : PySem.Str) = some (.ref fa) := by
      have e : (HandSHeadRun.topDef (OpenLaw.row PySem.Challenge.rw_filledrows_k24_whole_programs_in_turn).prog 78).name = ("law" : PySem.Str) := by kernel_rfl
      rw [← e]
      exact hmg0
    exact ⟨K, KX, FRL.factsL KX G hmg c cp⟩
