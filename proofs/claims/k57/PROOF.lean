import PyProof.Rows.All
import Wide.All
import OpenK.AllK
import Wide.FinOn
import HandS.ForMost
import HandS.ForExc
import HandS.TupAny
import KE.KIndexOf
import HandS.IsInst
import HandS.Conv
import HandS.Zip
import HandS.Wide
import HandS.Deep
import HandS.Style
import KE.GoesMore
import HandS.SortOrd
import HandS.SortRule
import HandS.SortInts
import HandS.Set
import HandS.SetFor
import HandS.Strs
import KE.GoesZip
import KE.KDictZip
import HandS.TupSets
import HandS.Star
import HandS.DictComp
import HandS.WordsDict
import KE.KRevSl
import PyProof.NeKinds
import HandS.TupMul
import HandS.More
import HandS.Exc
import HandS.ExcOwn
import HandS.ExcIs
import HandS.ExcField
import HandS.ExcInit
import KE.KExcIs
import HandS.Text
import HandS.StrMore
import HandS.RaiseMore
import HandS.ExcValue
import KE.KExcPX
import KE.KExcInit
import HandS.Codes
import HandS.Ends
import HandS.HeadHook3
import PySem.Challenge.RW_pilepass_k57_errors_and_bounds
set_option Elab.async false
set_option linter.all false
set_option maxRecDepth 100000
set_option maxHeartbeats 4000000
namespace PP
open PySem PySem.Spec PyProof.Rows L2
/-! ### tuples that are known to have no dict: frozen as they are made -/
def tObj (its : List Value) (n : Nat) : Obj := { cls := .type "tuple", data := .seq its.toArray n }
def FrT (H : Hp) (a : Addr) (xs : List V) : Prop := ∃ o : Obj, H a = some (.frz o (.tup xs)) ∧ o.cls = .type "tuple" ∧ o.dict = none
theorem FrT.sq {K : PySem.W.Frag} {H : Hp} {a : Addr} {xs : List V} (h : FrT H a xs) : SqT K H a xs := by
  obtain ⟨o, h, _⟩ := h
  exact .inl (.inr ⟨o, h⟩)
theorem FrT.new {H : Hp} {p : Addr} {o : Obj} {xs : List V} (hc : o.cls = Value.type "tuple") (hd : o.dict = none) : FrT (upd H p (.frz o (.tup xs))) p xs := ⟨o, upd_same, hc, hd⟩
/-- what a new tuple says -/
def NewT (H : Hp) (xs : List V) (Q : VK) : Prop := ∀ p o, H p = none → o.cls = Value.type "tuple" → o.dict = none → Q (.ref p) (upd H p (.frz o (.tup xs)))
section
variable {X : Cx} {es : List Expr} {pos : Pos} {t : TA}
theorem new_tup {pins : List (Addr × Obj)} {σ : L2.St} {H : Hp} {s : Shared} {o : Obj} {its : List Value} {xs : List V} {Q : VK} (I : Inv X pins σ H s) (hc : o.cls = Value.type "tuple") (hd : o.dict = none) (hfr : o.isFreed = false) (hs : ∃ n, o.data = .seq its.toArray n) (hz : xs.length ≤ sizeLine) (r : Vals xs its) (q : NewT H xs Q) :
    EP X pins σ Q (.ref s.heap.objs.size) { s with heap := s.heap.push o } := by
  refine ⟨.ref s.heap.objs.size, _, I.laid (t' := s.toks) (o := .frz o (.tup xs)) (fun b u e => Heap.get?_push_of_some _ e) (Nat.le_refl _) ?_, rfl, q _ _ (I.hok.fresh (Nat.le_refl _)) hc hd⟩
  obtain ⟨n, hs⟩ := hs
  exact ⟨Heap.get?_push_size _ hfr, hz, its, r, ⟨o, Heap.get?_push_size _ hfr, hc, n, hs⟩⟩
def tTupP (t : TA) : TE := fun σ H Q => t σ H fun xs H1 => xs.length ≤ sizeLine ∧ NewT H1 xs Q
theorem pe_tupP {x1} (h : PA X es t) : PE X (.Tuple es x1 pos) (tTupP t) := by
  refine ⟨fun pins s σ H Q I hq => ?_⟩
  refine wpAny_Tuple_spliced (thn (h.run pos pins s σ H _ I hq) fun us s1 ⟨xs, H1, I1, r, z, q⟩ => ⟨by rw [← r.length]; exact z, ?_⟩)
  exact new_tup I1 rfl rfl rfl ⟨_, rfl⟩ z r q
/-- t + u -/
def rCatP (K : PySem.W.Frag) : R2 := fun x y H Q => ∃ a b xs ys, x = .ref a ∧ y = .ref b ∧ SqT K H a xs ∧ SqT K H b ys ∧ xs.length + ys.length ≤ sizeLine ∧
  (xs = [] → Q (.ref b) H) ∧ (xs ≠ [] → ys = [] → Q (.ref a) H) ∧ (xs ≠ [] → ys ≠ [] → NewT H (xs ++ ys) Q)
theorem op_catP : OpR X (binaryOp .Add) (rCatP X.K) := by
  intro pins s σ H x y v u Q I rx ry h
  obtain ⟨a, b, xs, ys, rfl, rfl, ha, hb, hz, q0, q1, q2⟩ := h
  cases rx
  cases ry
  obtain ⟨its, r1, p1, _⟩ := I.tuple ha
  obtain ⟨its2, r2, p2, _⟩ := I.tuple hb
  by_cases hx : xs = []
  · subst hx
    cases r1
    exact cat_tup0 p1 p2 ⟨.ref b, H, I, rfl, q0 rfl⟩
  · refine HT.cat_tup p1 p2 (fun z => hx (r1.nil_iff.mp z)) (fun z => ⟨.ref a, H, I, rfl, q1 hx (r2.nil_iff.mp z)⟩) (fun z => ?_) (by rw [← r1.length, ← r2.length]; exact hz)
    exact new_tup I rfl rfl rfl ⟨_, rfl⟩ (by rw [List.length_append]; exact hz) (r1.append r2) (q2 hx (fun w => z (r2.nil_iff.mpr w)))
/-- t[lo:hi] -/
def rSlP (K : PySem.W.Frag) : V → Option Int → Option Int → Hp → VK → Prop := fun x lo hi H Q => ∃ a xs, x = .ref a ∧ SqT K H a xs ∧
  (HT.sIx xs.length 0 lo = 0 ∧ HT.sIx xs.length xs.length hi = xs.length → Q (.ref a) H) ∧ (¬ (HT.sIx xs.length 0 lo = 0 ∧ HT.sIx xs.length xs.length hi = xs.length) → NewT H (cutV xs lo hi) Q)
theorem sl_tupP : SlR X (rSlP X.K) := by
  intro pins s σ H x v vl vu lo hi sl Q I rx hs pl pu h
  obtain ⟨a, xs, rfl, hx, q1, q2⟩ := h
  cases rx
  obtain ⟨its, r, ht, hz⟩ := I.tuple hx
  have hlen : its.toArray.size = xs.length := by rw [List.size_toArray]; exact r.length.symm
  refine ⟨"tuple", _, PyProof.Rows.slot_tuple_getitem.lookup, ht.typeIs, ?_⟩
  by_cases hw : HT.sIx xs.length 0 lo = 0 ∧ HT.sIx xs.length xs.length hi = xs.length
  · exact getItem_tuple_whole ht hs pl pu (by rw [hlen]; exact hw) ⟨.ref a, H, I, rfl, q1 hw⟩
  · refine HT.getItem_tuple_cut ht hs pl pu (by rw [hlen]; exact hw) ?_ (by rw [hlen]; exact hz)
    rw [hlen]
    exact new_tup I rfl rfl rfl ⟨_, rfl⟩ (Nat.le_trans (cutV_length xs lo hi) hz) ((r.drop (HT.sIx xs.length 0 lo)).take (HT.sIx xs.length xs.length hi - HT.sIx xs.length 0 lo)) (q2 hw)
/-- tuple(x) -/
def rTupP (K : PySem.W.Frag) : List V → Hp → VK → Prop := fun xs H Q => ∃ p ys, xs = [.ref p] ∧ ((SqL K H p ys ∧ NewT H ys Q) ∨ (SqT K H p ys ∧ Q (.ref p) H))
theorem cr_tupP : CallR X (.type "tuple") (rTupP X.K) := by
  intro pins s σ H xs us Q I r h
  obtain ⟨p, ys, rfl, h⟩ := h
  obtain ⟨u, rfl, rx⟩ := vals1 r
  cases rx
  rcases h with ⟨hq, q⟩ | ⟨hq, q⟩
  · obtain ⟨its, r', pl, hz⟩ := I.list hq
    have hlen := r'.length
    refine call_tuple_list pl.isList (fun h' kp => ?_) (by simp only [List.size_toArray] <;> omega)
    have I1 : Inv X pins σ H { s with heap := h' } := I.kept (t' := s.toks) kp
    exact new_tup I1 rfl rfl rfl ⟨_, rfl⟩ hz r' q
  · obtain ⟨its, _, p1, _⟩ := I.tuple hq
    exact call_tuple_same (items := its.toArray) p1 ⟨.ref p, H, I, rfl, q⟩
end
end PP

set_option Elab.async false
set_option linter.all false
set_option maxRecDepth 100000
set_option maxHeartbeats 4000000
namespace PP
open PySem PySem.Spec PyProof.Rows L2

abbrev D := PyData
/-- the key as data -/
def keyD : Key → D
  | .inl i => .int i
  | .inr x => .str x

mutual
def Rp (K : PySem.W.Frag) (H : Hp) : D → V → Prop
  | .none, v => v = .non
  | .bool b, v => v = .bl b
  | .int i, v => v = .int i
  | .str x, v => v = .str x
  | .list ds, v => ∃ (a : Addr) (xs : List V), v = .ref a ∧ H a = some (.lst xs) ∧ RpL K H ds xs
  | .tuple ds, v => ∃ (a : Addr) (xs : List V), v = .ref a ∧ FrT H a xs ∧ RpL K H ds xs
  | .dict kvs, v => ∃ (a : Addr) (ps : List (Key × V)), v = .ref a ∧ H a = some (.dK ps) ∧ RpK K H kvs ps
def RpL (K : PySem.W.Frag) (H : Hp) : List D → List V → Prop
  | [], vs => vs = []
  | d :: ds, vs => ∃ x xs, vs = x :: xs ∧ Rp K H d x ∧ RpL K H ds xs
def RpK (K : PySem.W.Frag) (H : Hp) : List (D × D) → List (Key × V) → Prop
  | [], ps => ps = []
  | (k, d) :: ds, ps => ∃ c x r, ps = (c, x) :: r ∧ k = keyD c ∧ Rp K H d x ∧ RpK K H ds r
end

def Le (F H : Hp) : Prop := ∀ a o, F a = some o → H a = some o
theorem Le.refl (F : Hp) : Le F F := fun _ _ h => h
theorem Le.trans {F G H : Hp} (a : Le F G) (b : Le G H) : Le F H := fun x o h => b x o (a x o h)
theorem Le.rd {F H : Hp} (l : Le F H) {a : Addr} {u : HO} (h : Rd F a u) : Rd H a u := by
  rcases h with h | ⟨o, h⟩
  · exact .inl (l _ _ h)
  · exact .inr ⟨o, l _ _ h⟩
theorem Le.frT {F H : Hp} (l : Le F H) {a : Addr} {xs : List V} (h : FrT F a xs) : FrT H a xs := by
  obtain ⟨o, h, r⟩ := h
  exact ⟨o, l _ _ h, r⟩
theorem Le.sqT {K : PySem.W.Frag} {F H : Hp} (l : Le F H) {a : Addr} {xs : List V} (h : FrT F a xs) : SqT K H a xs := (l.frT h).sq
theorem Le.sqL {K : PySem.W.Frag} {F H : Hp} (l : Le F H) {a : Addr} {xs : List V} (h : SqL K F a xs) : SqL K H a xs := by
  rcases h with h | h
  · exact .inl (l.rd h)
  · exact .inr h
theorem Le.upd {F H : Hp} (l : Le F H) {p : Addr} {o : HO} : Le (upd F p o) (upd H p o) := fun a u h => by
  by_cases e : a = p
  · subst e; rw [upd_same] at h ⊢; exact h
  · rw [upd_ne e] at h ⊢; exact l a u h
theorem Le.new {F : Hp} {p : Addr} {o : HO} (h : F p = none) : Le F (L2.upd F p o) := fun a u e => by
  rw [upd_ne (ne_of_none e h)]; exact e
theorem Le.at {F H : Hp} (l : Le F H) {p : Addr} {o : HO} (h : F p = none) : Le F (L2.upd H p o) := fun a u e => by
  rw [upd_ne (ne_of_none e h)]; exact l a u e
theorem Le.none {F H : Hp} (l : Le F H) {p : Addr} (h : H p = Option.none) : F p = Option.none := by
  cases e : F p with
  | none => rfl
  | some o => rw [l p o e] at h; cases h

mutual
theorem Rp.mono {K : PySem.W.Frag} {F H : Hp} (l : Le F H) : ∀ {d : D} {v : V}, Rp K F d v → Rp K H d v
  | .none, _, h => h
  | .bool _, _, h => h
  | .int _, _, h => h
  | .str _, _, h => h
  | .list _, _, ⟨a, xs, e, h, r⟩ => ⟨a, xs, e, l a _ h, RpL.mono l r⟩
  | .tuple _, _, ⟨a, xs, e, h, r⟩ => ⟨a, xs, e, l.frT h, RpL.mono l r⟩
  | .dict _, _, ⟨a, ps, e, h, r⟩ => ⟨a, ps, e, l a _ h, RpK.mono l r⟩
theorem RpL.mono {K : PySem.W.Frag} {F H : Hp} (l : Le F H) : ∀ {ds : List D} {vs : List V}, RpL K F ds vs → RpL K H ds vs
  | [], _, h => h
  | _ :: _, _, ⟨x, xs, e, h, r⟩ => ⟨x, xs, e, Rp.mono l h, RpL.mono l r⟩
theorem RpK.mono {K : PySem.W.Frag} {F H : Hp} (l : Le F H) : ∀ {ds : List (D × D)} {ps : List (Key × V)}, RpK K F ds ps → RpK K H ds ps
  | [], _, h => h
  | (_, _) :: _, _, ⟨c, x, r, e, k, h, t⟩ => ⟨c, x, r, e, k, Rp.mono l h, RpK.mono l t⟩
end

section
variable {K : PySem.W.Frag} {H : Hp}
theorem RpL.nil : RpL K H [] [] := rfl
theorem RpL.cons {d : D} {ds : List D} {v : V} {vs : List V} (h : Rp K H d v) (r : RpL K H ds vs) : RpL K H (d :: ds) (v :: vs) := ⟨v, vs, rfl, h, r⟩
theorem RpL.length : ∀ {ds : List D} {vs : List V}, RpL K H ds vs → vs.length = ds.length
  | [], _, h => by have h : _ = [] := h; subst h; rfl
  | _ :: ds, _, ⟨x, xs, e, _, r⟩ => by subst e; simp [RpL.length r]
theorem RpL.get : ∀ {ds : List D} {vs : List V} {i : Nat} {d : D}, RpL K H ds vs → ds[i]? = some d → ∃ v, vs[i]? = some v ∧ Rp K H d v
  | [], _, _, _, _, e => by simp at e
  | d :: ds, _, 0, _, ⟨x, xs, e, h, r⟩, q => by subst e; simp at q; subst q; exact ⟨x, rfl, h⟩
  | d :: ds, _, i + 1, _, ⟨x, xs, e, h, r⟩, q => by
    subst e
    obtain ⟨v, h1, h2⟩ := RpL.get (i := i) r (by simpa using q)
    exact ⟨v, by simpa using h1, h2⟩
theorem RpL.append : ∀ {ds es : List D} {vs ws : List V}, RpL K H ds vs → RpL K H es ws → RpL K H (ds ++ es) (vs ++ ws)
  | [], _, _, _, h, r => by have h : _ = [] := h; subst h; exact r
  | _ :: _, _, _, _, ⟨x, xs, e, h, t⟩, r => by subst e; exact ⟨x, xs ++ _, rfl, h, RpL.append t r⟩
theorem RpL.take : ∀ {ds : List D} {vs : List V} (n : Nat), RpL K H ds vs → RpL K H (ds.take n) (vs.take n)
  | _, _, 0, _ => rfl
  | [], _, n + 1, h => by have h : _ = [] := h; subst h; rfl
  | _ :: _, _, n + 1, ⟨x, xs, e, h, t⟩ => by subst e; exact ⟨x, xs.take n, rfl, h, RpL.take n t⟩
theorem RpL.drop : ∀ {ds : List D} {vs : List V} (n : Nat), RpL K H ds vs → RpL K H (ds.drop n) (vs.drop n)
  | _, _, 0, h => h
  | [], _, n + 1, h => by have h : _ = [] := h; subst h; rfl
  | _ :: _, _, n + 1, ⟨x, xs, e, h, t⟩ => by subst e; exact RpL.drop n t
theorem RpL.set : ∀ {ds : List D} {vs : List V} {d : D} {v : V} (i : Nat), RpL K H ds vs → Rp K H d v → RpL K H (ds.set i d) (vs.set i v)
  | [], _, _, _, _, h, _ => by have h : _ = [] := h; subst h; rfl
  | _ :: _, _, _, _, 0, ⟨x, xs, e, _, t⟩, q => by subst e; exact ⟨_, xs, rfl, q, t⟩
  | _ :: _, _, _, _, i + 1, ⟨x, xs, e, h, t⟩, q => by subst e; exact ⟨x, _, rfl, h, RpL.set i t q⟩
theorem RpL.eraseIdx : ∀ {ds : List D} {vs : List V} (i : Nat), RpL K H ds vs → RpL K H (ds.eraseIdx i) (vs.eraseIdx i)
  | [], _, _, h => by have h : _ = [] := h; subst h; rfl
  | _ :: _, _, 0, ⟨x, xs, e, _, t⟩ => by subst e; exact t
  | _ :: _, _, i + 1, ⟨x, xs, e, h, t⟩ => by subst e; exact ⟨x, _, rfl, h, RpL.eraseIdx i t⟩
theorem RpL.dropLast {ds : List D} {vs : List V} (h : RpL K H ds vs) : RpL K H ds.dropLast vs.dropLast := by
  rw [List.dropLast_eq_take, List.dropLast_eq_take, h.length]; exact h.take _
theorem RpL.reverse {ds : List D} {vs : List V} (h : RpL K H ds vs) : RpL K H ds.reverse vs.reverse := by
  induction ds generalizing vs with
  | nil => have h : _ = [] := h; subst h; rfl
  | cons d ds ih =>
    obtain ⟨x, xs, e, h, t⟩ := h
    subst e
    rw [List.reverse_cons, List.reverse_cons]
    exact (ih t).append (.cons h .nil)
theorem RpL.of_get : ∀ {ds : List D} {vs : List V}, vs.length = ds.length → (∀ (i : Nat) (d : D) (v : V), ds[i]? = some d → vs[i]? = some v → Rp K H d v) → RpL K H ds vs
  | [], [], _, _ => rfl
  | [], _ :: _, h, _ => by simp at h
  | _ :: _, [], h, _ => by simp at h
  | d :: ds, v :: vs, h, g => ⟨v, vs, rfl, g 0 d v rfl rfl, RpL.of_get (by simpa using h) fun i d' v' h1 h2 => g (i + 1) d' v' (by simpa using h1) (by simpa using h2)⟩
theorem RpL.ints (ns : List Int) : RpL K H (ns.map PyData.int) (ns.map V.int) := by
  induction ns with
  | nil => rfl
  | cons n ns ih => exact ⟨_, _, rfl, rfl, ih⟩
theorem RpL.ints_inv : ∀ {ns : List Int} {vs : List V}, RpL K H (ns.map PyData.int) vs → vs = ns.map V.int
  | [], _, h => h
  | n :: ns, _, ⟨x, xs, e, h, t⟩ => by
    have h : x = .int n := h
    subst e h
    rw [RpL.ints_inv t]; rfl
theorem RpL.bools (ns : List Bool) : RpL K H (ns.map PyData.bool) (ns.map V.bl) := by
  induction ns with
  | nil => rfl
  | cons n ns ih => exact ⟨_, _, rfl, rfl, ih⟩
theorem RpL.bools_inv : ∀ {ns : List Bool} {vs : List V}, RpL K H (ns.map PyData.bool) vs → vs = ns.map V.bl
  | [], _, h => h
  | n :: ns, _, ⟨x, xs, e, h, t⟩ => by
    have h : x = .bl n := h
    subst e h
    rw [RpL.bools_inv t]; rfl
end

/-! ### the region that may change through a call (a deck) -/
structure Rg where
  root : V
  mem : Addr → Prop
  ok : Hp → Prop
  loc : ∀ H H' : Hp, (∀ a, mem a → H' a = H a) → ok H → ok H'
  dom : ∀ H : Hp, ok H → ∀ a, mem a → H a ≠ none
/-- the laws' deck: the cells, how many numbers were drawn -/
def DeckIn (a b : Addr) (n : Nat) (H : Hp) : Prop := a ≠ b ∧ ∃ cs : List Int,
  H a = some (.lst [.ref b, .int (n : Int)]) ∧ H b = some (.lst (cs.map V.int)) ∧ cs.length ≤ 100 ∧ ∀ c ∈ cs, 0 ≤ c
def deckRg (a b : Addr) (n : Nat) : Rg where
  root := .ref a
  mem := fun x => x = a ∨ x = b
  ok := DeckIn a b n
  loc := fun H H' h ⟨d, cs, h1, h2, r⟩ => ⟨d, cs, by rw [h a (.inl rfl)]; exact h1, by rw [h b (.inr rfl)]; exact h2, r⟩
  dom := fun H ⟨d, cs, h1, h2, r⟩ x hx => by
    rcases hx with e | e
    · subst e; rw [h1]; exact fun z => nomatch z
    · subst e; rw [h2]; exact fun z => nomatch z
def IsDeck (g : Rg) : Prop := ∃ a b n, g = deckRg a b n
def Rg.no : Rg := ⟨.non, fun _ => False, fun _ => True, fun _ _ _ _ => trivial, fun _ _ _ h => h.elim⟩

structure Bs (g : Rg) (F H : Hp) : Prop where
  sub : Le F H
  ok : g.ok H
  out : ∀ a, g.mem a → F a = none
structure Stp (g : Rg) (F H F' H' : Hp) : Prop where
  mono : Le F F'
  sub : Le F' H'
  new : ∀ a o, F' a = some o → F a = some o ∨ H a = none
  keep : ∀ a o, H a = some o → ¬ g.mem a → H' a = some o
  ok : g.ok H'
section
variable {g : Rg} {F H F1 H1 F2 H2 : Hp}
theorem Bs.refl (b : Bs g F H) : Stp g F H F H := ⟨.refl _, b.sub, fun _ _ h => .inl h, fun _ _ h _ => h, b.ok⟩
theorem Stp.bs (s : Stp g F H F1 H1) (b : Bs g F H) : Bs g F1 H1 := ⟨s.sub, s.ok, fun a m => by
  cases e : F1 a with
  | none => rfl
  | some o =>
    rcases s.new a o e with q | q
    · rw [b.out a m] at q; cases q
    · exact absurd q (g.dom H b.ok a m)⟩
theorem Stp.old (s : Stp g F H F1 H1) {a : Addr} (h : H1 a = none) : H a = none := by
  cases e : H a with
  | none => rfl
  | some o =>
    by_cases m : g.mem a
    · exact absurd h (g.dom _ s.ok a m)
    · rw [s.keep a o e m] at h; cases h
theorem Stp.trans (s : Stp g F H F1 H1) (t : Stp g F1 H1 F2 H2) : Stp g F H F2 H2 where
  mono := s.mono.trans t.mono
  sub := t.sub
  new := fun a o h => by
    rcases t.new a o h with q | q
    · exact s.new a o q
    · exact .inr (s.old q)
  keep := fun a o h m => t.keep a o (s.keep a o h m) m
  ok := t.ok
/-- a new object, frozen -/
theorem Bs.alloc (b : Bs g F H) {p : Addr} (h : H p = none) (o : HO) : Stp g F H (upd F p o) (upd H p o) where
  mono := .new (b.sub.none h)
  sub := b.sub.upd
  new := fun a u e => by
    by_cases q : a = p
    · subst q; exact .inr h
    · rw [upd_ne q] at e; exact .inl e
  keep := fun a u e _ => by rw [upd_ne (ne_of_none e h)]; exact e
  ok := g.loc _ _ (fun a m => upd_ne (fun e => by subst e; exact g.dom _ b.ok _ m h)) b.ok
/-- a new object, not frozen -/
theorem Bs.hide (b : Bs g F H) {p : Addr} (h : H p = none) (o : HO) : Stp g F H F (upd H p o) where
  mono := .refl _
  sub := b.sub.at (b.sub.none h)
  new := fun a u e => .inl e
  keep := fun a u e _ => by rw [upd_ne (ne_of_none e h)]; exact e
  ok := g.loc _ _ (fun a m => upd_ne (fun e => by subst e; exact g.dom _ b.ok _ m h)) b.ok
/-- an object that is not known to F and not of the start changes -/
theorem Stp.poke (s : Stp g F H F1 H1) {p : Addr} (h : H p = none) (f : F1 p = none) (m : ¬ g.mem p) (o : HO) : Stp g F H F1 (upd H1 p o) where
  mono := s.mono
  sub := s.sub.at f
  new := s.new
  keep := fun a u e n => by rw [upd_ne (ne_of_none e h)]; exact s.keep a u e n
  ok := g.loc _ _ (fun a n => upd_ne (fun e => by subst e; exact m n)) s.ok
/-- an object of ours is frozen -/
theorem Stp.freeze (s : Stp g F H F1 H1) {p : Addr} {o : HO} (h : H p = none) (f : F1 p = none) (e : H1 p = some o) : Stp g F H (upd F1 p o) H1 where
  mono := s.mono.trans (.new f)
  sub := fun a u q => by
    by_cases r : a = p
    · subst r; rw [upd_same] at q; cases q; exact e
    · rw [upd_ne r] at q; exact s.sub a u q
  new := fun a u q => by
    by_cases r : a = p
    · subst r; exact .inr h
    · rw [upd_ne r] at q; exact s.new a u q
  keep := s.keep
  ok := s.ok
end
end PP

set_option Elab.async false
set_option linter.all false
set_option maxRecDepth 100000
set_option maxHeartbeats 4000000
namespace PP
open PySem PySem.Spec PyProof.Rows L2

/-- what a field of an object of ours holds: a value, a list of ours, a dict of ours -/
inductive Fk where
  | val | own | od
  deriving DecidableEq
inductive Md where
  | val | own | bor | dk | od | oo
  /-- an error, or a list of errors, that stays as it is -/
  | ex
  /-- an object of ours: its class, its fields in their order -/
  | ob (c : Str) (fs : List (Str × Fk))
  deriving DecidableEq
def Md.mine : Md → Bool
  | .own => true | .od => true | _ => false
def Md.mutb : Md → Bool
  | .own => true | .od => true | .oo => true | .ob _ _ => true | _ => false
/-- the only thing of ours, not to be read as it is -/
def Md.opq : Md → Bool
  | .oo => true | .ob _ _ => true | .ex => true | _ => false
/-- the one class of objects of ours -/
def OneC (K : PySem.W.Frag) (c : Str) (C : Addr) : Prop := PySem.W.nsIn K mainGlobals c = some (some (.ref C))
theorem Md.mine_mut {m : Md} (h : m.mine = true) : m.mutb = true := by cases m <;> first | rfl | cases h
/-- lists of ours, of unlike addresses -/
def InnerOk (F H : Hp) (g : Rg) (eH : Hp) (R : List D → List V → Prop) : List Addr → List (List D) → Prop
  | [], dss => dss = []
  | a :: as, dss => ∃ ds dr vs, dss = ds :: dr ∧ H a = some (.lst vs) ∧ R ds vs ∧ F a = none ∧ eH a = none ∧ ¬ g.mem a ∧ InnerOk F H g eH R as dr
abbrev En := List (Option D)
def gt : En → Nat → Option D
  | [], _ => none
  | x :: _, 0 => x
  | _ :: r, i + 1 => gt r i
def sv : En → Nat → Option D → En
  | [], _, _ => []
  | _ :: r, 0, d => d :: r
  | x :: r, i + 1, d => x :: sv r i d
theorem sv_len : ∀ (ρ : En) (i : Nat) (d : Option D), (sv ρ i d).length = ρ.length
  | [], _, _ => rfl
  | _ :: _, 0, _ => rfl
  | _ :: r, i + 1, d => by simp [sv, sv_len r i d]
theorem gt_sv : ∀ (ρ : En) (i j : Nat) (d : Option D), gt (sv ρ i d) j = if j = i then (if i < ρ.length then d else none) else gt ρ j
  | [], i, j, d => by simp [sv, gt]
  | x :: r, 0, 0, d => by simp [sv, gt]
  | x :: r, 0, j + 1, d => by simp [sv, gt]
  | x :: r, i + 1, 0, d => by simp [sv, gt]
  | x :: r, i + 1, j + 1, d => by simp [sv, gt, gt_sv r i j d]
def md (M : List Md) (i : Nat) : Md := M.getD i .val
/-- a list of lists of ours is the only thing of ours -/
def soloM (_ : List Md) : Bool := true

structure Ent where
  g : Rg
  F : Hp
  H : Hp
  Fb : Hp
abbrev Ent.low (e : Ent) (L : Hp) : Ent := { e with Fb := L }

def FldOk (K : PySem.W.Frag) (F H : Hp) (g : Rg) (eH : Hp) : Fk → D → V → Prop
  | .val, d, v => Rp K F d v
  | .own, d, v => ∃ p vs ds, v = .ref p ∧ d = .list ds ∧ H p = some (.lst vs) ∧ RpL K F ds vs ∧ F p = none ∧ eH p = none ∧ ¬ g.mem p
  | .od, d, v => ∃ p ps ks, v = .ref p ∧ d = .dict ks ∧ H p = some (.dK ps) ∧ RpK K F ks ps ∧ F p = none ∧ eH p = none ∧ ¬ g.mem p
def FldsOk (K : PySem.W.Frag) (F H : Hp) (g : Rg) (eH : Hp) : List (Str × Fk) → List (Str × V) → List (D × D) → Prop
  | [], fs, ks => fs = [] ∧ ks = []
  | (f, k) :: r, fs, ks => ∃ x d fr kr, fs = (f, x) :: fr ∧ ks = (.str f, d) :: kr ∧ FldOk K F H g eH k d x ∧ FldsOk K F H g eH r fr kr
def ownA : List (Str × Fk) → List (Str × V) → List Addr
  | (_, k) :: r, (_, x) :: fr => (match k, x with | .own, .ref p => [p] | .od, .ref p => [p] | _, _ => []) ++ ownA r fr
  | _, _ => []
/-- an error object of the class cls at a, o its dict -/
def ExV (cls : Value) (o : Option Addr) (a : Addr) : HO := .ext fun h => ∃ (oe : Obj) (vs : Array Value), h.get? a = some oe ∧ (oe.cls = cls ∧ oe.dict = o) ∧ oe.data = .fields vs
def ExF (K : PySem.W.Frag) (F : Hp) : List (Str × D) → List (Str × V) → Prop
  | [], vs => vs = []
  | (f, d) :: r, vs => ∃ x t, vs = (f, x) :: t ∧ Rp K F d x ∧ ExF K F r t
def exD (C : Addr) (ks : List (Str × D)) : D := .tuple [.int ((C : Nat) : Int), .dict (ks.map fun p => (.str p.1, p.2))]
def Ex1 (K : PySem.W.Frag) (F : Hp) (d : D) (v : V) : Prop := ∃ (a C : Addr) (o : Option Addr) (ks : List (Str × D)), v = .ref a ∧ d = exD C ks ∧ F a = some (ExV (.ref C) o a) ∧ (o = none → ks = []) ∧ ∀ dx, o = some dx → ∃ vs, F dx = some (.xd vs) ∧ ExF K F ks vs
def ExL (K : PySem.W.Frag) (F : Hp) : List D → List V → Prop
  | [], vs => vs = []
  | d :: r, vs => ∃ x t, vs = x :: t ∧ Ex1 K F d x ∧ ExL K F r t
def ExM (K : PySem.W.Frag) (F : Hp) (d : D) (v : V) : Prop := Ex1 K F d v ∨ ∃ p vs ds, v = .ref p ∧ d = .list ds ∧ F p = some (.lst vs) ∧ ExL K F ds vs
theorem ExF.mono {K : PySem.W.Frag} {F F' : Hp} (l : Le F F') : ∀ {ks : List (Str × D)} {vs : List (Str × V)}, ExF K F ks vs → ExF K F' ks vs
  | [], _, h => h
  | _ :: _, _, ⟨x, t, e, h, r⟩ => ⟨x, t, e, h.mono l, ExF.mono l r⟩
theorem Ex1.mono {K : PySem.W.Frag} {F F' : Hp} (l : Le F F') {d : D} {v : V} : Ex1 K F d v → Ex1 K F' d v
  | ⟨a, C, o, ks, h1, h2, h3, h4, h5⟩ => ⟨a, C, o, ks, h1, h2, l _ _ h3, h4, fun dx e => let ⟨vs, q, r⟩ := h5 dx e; ⟨vs, l _ _ q, r.mono l⟩⟩
theorem ExL.mono {K : PySem.W.Frag} {F F' : Hp} (l : Le F F') : ∀ {ds : List D} {vs : List V}, ExL K F ds vs → ExL K F' ds vs
  | [], _, h => h
  | _ :: _, _, ⟨x, t, e, h, r⟩ => ⟨x, t, e, h.mono l, ExL.mono l r⟩
theorem ExM.mono {K : PySem.W.Frag} {F F' : Hp} (l : Le F F') {d : D} {v : V} : ExM K F d v → ExM K F' d v
  | .inl h => .inl (h.mono l)
  | .inr ⟨p, vs, ds, h1, h2, h3, h4⟩ => .inr ⟨p, vs, ds, h1, h2, l _ _ h3, h4.mono l⟩
def SlotOk (K : PySem.W.Frag) (e : Ent) (g : Rg) (F H : Hp) : Md → D → V → Prop
  | .val, d, v => Rp K F d v
  | .ex, d, v => ExM K F d v
  | .own, d, v => ∃ p vs ds, v = .ref p ∧ d = .list ds ∧ H p = some (.lst vs) ∧ RpL K F ds vs ∧ F p = none ∧ e.H p = none ∧ ¬ g.mem p
  | .od, d, v => ∃ p ps ks, v = .ref p ∧ d = .dict ks ∧ H p = some (.dK ps) ∧ RpK K F ks ps ∧ F p = none ∧ e.H p = none ∧ ¬ g.mem p
  | .bor, d, v => ∃ p vs ds, v = .ref p ∧ d = .list ds ∧ e.H p = some (.lst vs) ∧ RpL K F ds vs ∧ ¬ e.g.mem p
  | .dk, _, v => v = g.root ∧ IsDeck g
  | .oo, d, v => ∃ p as dss, v = .ref p ∧ d = .list (dss.map PyData.list) ∧ H p = some (.lst (as.map V.ref)) ∧ InnerOk F H g e.H (RpL K F) as dss ∧ F p = none ∧ e.H p = none ∧ ¬ g.mem p ∧ (p :: as).Nodup
  | .ob c fks, d, v => ∃ a dx C fs ks, v = .ref a ∧ d = .dict ((.none, .int ((a : Nat) : Int)) :: ks) ∧ H a = some (.ins C dx fs) ∧ H dx = some (.own a) ∧ FldsOk K F H g e.H fks fs ks ∧ (F a = none ∧ F dx = none) ∧ (e.H a = none ∧ e.H dx = none) ∧ (¬ g.mem a ∧ ¬ g.mem dx) ∧ (ownA fks fs).Nodup ∧ OneC K c C

def own1 (k : Fk) (x : V) : List Addr := match k, x with
  | .own, .ref p => [p]
  | .od, .ref p => [p]
  | _, _ => []
theorem ownA_cons (y z : Str) (k : Fk) (x : V) (r : List (Str × Fk)) (fr : List (Str × V)) : ownA ((y, k) :: r) ((z, x) :: fr) = own1 k x ++ ownA r fr := by
  cases k <;> cases x <;> rfl
/-- what is ours of a slot -/
def foot (H : Hp) : Md → V → Addr → Prop
  | .own, v, p => v = .ref p
  | .od, v, p => v = .ref p
  | .oo, v, p => ∃ a, v = .ref a ∧ (p = a ∨ ∃ vs, H a = some (.lst vs) ∧ V.ref p ∈ vs)
  | .ob _ fks, v, p => ∃ a, v = .ref a ∧ (p = a ∨ ∃ C dx fs, H a = some (.ins C dx fs) ∧ (p = dx ∨ p ∈ ownA fks fs))
  | _, _, _ => False
section
variable {K : PySem.W.Frag} {e : Ent} {g : Rg} {F H H2 : Hp} {eH : Hp}
theorem InnerOk.at {R : List D → List V → Prop} : ∀ {as : List Addr} {dss : List (List D)}, InnerOk F H g eH R as dss → ∀ p ∈ as, (∃ o, H p = some o) ∧ F p = none ∧ eH p = none ∧ ¬ g.mem p
  | [], _, _, p, hp => by cases hp
  | a :: as, _, ⟨ds, dr, vs, h1, h2, h3, h4, h5, h6, h7⟩, p, hp => by
    rcases List.mem_cons.mp hp with rfl | hp
    · exact ⟨⟨_, h2⟩, h4, h5, h6⟩
    · exact InnerOk.at h7 p hp
theorem InnerOk.off {R : List D → List V → Prop} : ∀ {as : List Addr} {dss : List (List D)}, (∀ p ∈ as, ∀ o, H p = some o → H2 p = some o) → InnerOk F H g eH R as dss → InnerOk F H2 g eH R as dss
  | [], _, _, h => h
  | a :: as, _, k, ⟨ds, dr, vs, h1, h2, h3, h4, h5, h6, h7⟩ => ⟨ds, dr, vs, h1, k a List.mem_cons_self _ h2, h3, h4, h5, h6, InnerOk.off (fun p hp => k p (List.mem_cons_of_mem _ hp)) h7⟩
theorem FldOk.mem : ∀ {k : Fk} {d : D} {x : V}, FldOk K F H g eH k d x → ∀ p ∈ own1 k x, (∃ o, H p = some o) ∧ F p = none ∧ eH p = none ∧ ¬ g.mem p
  | .val, _, x, _, p, hp => by cases x <;> cases hp
  | .own, _, _, ⟨q, vs, ds, h1, h2, h3, h4, h5, h6, h7⟩, p, hp => by
    subst h1
    rw [List.mem_singleton.mp hp]
    exact ⟨⟨_, h3⟩, h5, h6, h7⟩
  | .od, _, _, ⟨q, vs, ds, h1, h2, h3, h4, h5, h6, h7⟩, p, hp => by
    subst h1
    rw [List.mem_singleton.mp hp]
    exact ⟨⟨_, h3⟩, h5, h6, h7⟩
theorem FldsOk.mem : ∀ {fks : List (Str × Fk)} {fs : List (Str × V)} {ks : List (D × D)}, FldsOk K F H g eH fks fs ks → ∀ p ∈ ownA fks fs, (∃ o, H p = some o) ∧ F p = none ∧ eH p = none ∧ ¬ g.mem p
  | [], fs, _, h, p, hp => by
    obtain ⟨rfl, _⟩ := h
    cases hp
  | (y, k) :: r, fs, ks, ⟨x, d, fr, kr, e1, e2, h3, h4⟩, p, hp => by
    subst e1
    rw [ownA_cons] at hp
    rcases List.mem_append.mp hp with hp | hp
    · exact h3.mem p hp
    · exact FldsOk.mem h4 p hp
theorem FldOk.off : ∀ {k : Fk} {d : D} {x : V}, (∀ p ∈ own1 k x, ∀ o, H p = some o → H2 p = some o) → FldOk K F H g eH k d x → FldOk K F H2 g eH k d x
  | .val, _, _, _, h => h
  | .own, _, _, k, ⟨q, vs, ds, h1, h2, h3, h4, h5, h6, h7⟩ => by
    subst h1
    exact ⟨q, vs, ds, rfl, h2, k q (List.mem_singleton.mpr rfl) _ h3, h4, h5, h6, h7⟩
  | .od, _, _, k, ⟨q, vs, ds, h1, h2, h3, h4, h5, h6, h7⟩ => by
    subst h1
    exact ⟨q, vs, ds, rfl, h2, k q (List.mem_singleton.mpr rfl) _ h3, h4, h5, h6, h7⟩
theorem FldsOk.off : ∀ {fks : List (Str × Fk)} {fs : List (Str × V)} {ks : List (D × D)}, (∀ p ∈ ownA fks fs, ∀ o, H p = some o → H2 p = some o) → FldsOk K F H g eH fks fs ks → FldsOk K F H2 g eH fks fs ks
  | [], _, _, _, h => h
  | (y, k) :: r, fs, ks, q, ⟨x, d, fr, kr, e1, e2, h3, h4⟩ => by
    subst e1
    rw [ownA_cons] at q
    exact ⟨x, d, fr, kr, rfl, e2, h3.off (fun p hp => q p (List.mem_append_left _ hp)), FldsOk.off (fun p hp => q p (List.mem_append_right _ hp)) h4⟩
theorem InnerOk.up {F2 : Hp} (l : Le F F2) : ∀ {as : List Addr} {dss : List (List D)}, InnerOk F H g eH (RpL K F) as dss → (∀ p ∈ as, F2 p = none) → InnerOk F2 H g eH (RpL K F2) as dss
  | [], _, h, _ => h
  | a :: as, _, ⟨ds, dr, vs, h1, h2, h3, h4, h5, h6, h7⟩, k => ⟨ds, dr, vs, h1, h2, h3.mono l, k a List.mem_cons_self, h5, h6, InnerOk.up l h7 fun p hp => k p (List.mem_cons_of_mem _ hp)⟩
theorem FldOk.up {F2 : Hp} (l : Le F F2) : ∀ {k : Fk} {d : D} {x : V}, FldOk K F H g eH k d x → (∀ p ∈ own1 k x, F2 p = none) → FldOk K F2 H g eH k d x
  | .val, _, _, h, _ => Rp.mono l h
  | .own, _, _, ⟨q, vs, ds, h1, h2, h3, h4, h5, h6, h7⟩, k => by
    subst h1
    exact ⟨q, vs, ds, rfl, h2, h3, h4.mono l, k q (List.mem_singleton.mpr rfl), h6, h7⟩
  | .od, _, _, ⟨q, vs, ds, h1, h2, h3, h4, h5, h6, h7⟩, k => by
    subst h1
    exact ⟨q, vs, ds, rfl, h2, h3, h4.mono l, k q (List.mem_singleton.mpr rfl), h6, h7⟩
theorem FldsOk.up {F2 : Hp} (l : Le F F2) : ∀ {fks : List (Str × Fk)} {fs : List (Str × V)} {ks : List (D × D)}, FldsOk K F H g eH fks fs ks → (∀ p ∈ ownA fks fs, F2 p = none) → FldsOk K F2 H g eH fks fs ks
  | [], _, _, h, _ => h
  | (y, k) :: r, fs, ks, ⟨x, d, fr, kr, e1, e2, h3, h4⟩, q => by
    subst e1
    rw [ownA_cons] at q
    exact ⟨x, d, fr, kr, rfl, e2, h3.up l (fun p hp => q p (List.mem_append_left _ hp)), FldsOk.up l h4 (fun p hp => q p (List.mem_append_right _ hp))⟩
theorem SlotOk.footBack : ∀ {m : Md} {d : D} {v : V}, SlotOk K e g F H m d v → (∀ a o, v = .ref a → H a = some o → F a = none → ¬ g.mem a → e.H a = none → foot H m v a → H2 a = some o) → ∀ {p : Addr}, foot H2 m v p → foot H m v p
  | .val, _, _, _, _, _, f => f
  | .dk, _, _, _, _, _, f => f
  | .bor, _, _, _, _, _, f => f
  | .own, _, _, _, _, _, f => f
  | .od, _, _, _, _, _, f => f
  | .oo, _, _, ⟨p0, as, dss, e1, e2, h3, h4, h5, h6, h7, h8⟩, k, p, ⟨a, ea, q⟩ => by
    subst e1
    cases ea
    have h3' := k p0 _ rfl h3 h5 h7 h6 ⟨p0, rfl, .inl rfl⟩
    refine ⟨p0, rfl, ?_⟩
    rcases q with q | ⟨vs, hv, hm⟩
    · exact .inl q
    · rw [h3'] at hv
      cases hv
      exact .inr ⟨_, h3, hm⟩
  | .ob c fks, _, _, ⟨a0, dx, C, fs, ks, e1, e2, h3, h4, h5, h6, h7, h8, h9, h10⟩, k, p, ⟨a, ea, q⟩ => by
    subst e1
    cases ea
    have h3' := k a0 _ rfl h3 h6.1 h8.1 h7.1 ⟨a0, rfl, .inl rfl⟩
    refine ⟨a0, rfl, ?_⟩
    rcases q with q | ⟨C', dx', fs', hv, hm⟩
    · exact .inl q
    · rw [h3'] at hv
      cases hv
      exact .inr ⟨_, _, _, h3, hm⟩
theorem SlotOk.footAt : ∀ {m : Md} {d : D} {v : V}, SlotOk K e g F H m d v → ∀ {p : Addr}, foot H m v p → (∃ o, H p = some o) ∧ F p = none ∧ e.H p = none ∧ ¬ g.mem p
  | .val, _, _, _, _, f => f.elim
  | .dk, _, _, _, _, f => f.elim
  | .bor, _, _, _, _, f => f.elim
  | .own, _, _, ⟨p0, vs, ds, h1, h2, h3, h4, h5, h6, h7⟩, p, f => by
    subst h1
    cases f
    exact ⟨⟨_, h3⟩, h5, h6, h7⟩
  | .od, _, _, ⟨p0, vs, ds, h1, h2, h3, h4, h5, h6, h7⟩, p, f => by
    subst h1
    cases f
    exact ⟨⟨_, h3⟩, h5, h6, h7⟩
  | .oo, _, _, ⟨p0, as, dss, e1, e2, h3, h4, h5, h6, h7, h8⟩, p, ⟨a, ea, q⟩ => by
    subst e1
    cases ea
    rcases q with rfl | ⟨vs, hv, hm⟩
    · exact ⟨⟨_, h3⟩, h5, h6, h7⟩
    · rw [h3] at hv
      cases hv
      obtain ⟨b, hb, eb⟩ := List.mem_map.mp hm
      cases eb
      exact h4.at p hb
  | .ob c fks, _, _, ⟨a0, dx, C, fs, ks, e1, e2, h3, h4, h5, h6, h7, h8, h9, h10⟩, p, ⟨a, ea, q⟩ => by
    subst e1
    cases ea
    rcases q with rfl | ⟨C', dx', fs', hv, hm⟩
    · exact ⟨⟨_, h3⟩, h6.1, h7.1, h8.1⟩
    · rw [h3] at hv
      cases hv
      rcases hm with rfl | hm
      · exact ⟨⟨_, h4⟩, h6.2, h7.2, h8.2⟩
      · exact h5.mem p hm
/-- a slot stays as it is where nothing of it changes -/
theorem SlotOk.off : ∀ {m : Md} {d : D} {v : V}, SlotOk K e g F H m d v → (∀ p o, foot H m v p → H p = some o → H2 p = some o) → SlotOk K e g F H2 m d v
  | .val, _, _, h, _ => h
  | .ex, _, _, h, _ => h
  | .dk, _, _, h, _ => h
  | .bor, _, _, h, _ => h
  | .own, _, _, ⟨p0, vs, ds, h1, h2, h3, h4, h5, h6, h7⟩, k => ⟨p0, vs, ds, h1, h2, k p0 _ h1 h3, h4, h5, h6, h7⟩
  | .od, _, _, ⟨p0, vs, ds, h1, h2, h3, h4, h5, h6, h7⟩, k => ⟨p0, vs, ds, h1, h2, k p0 _ h1 h3, h4, h5, h6, h7⟩
  | .oo, _, _, ⟨p0, as, dss, e1, e2, h3, h4, h5, h6, h7, h8⟩, k => ⟨p0, as, dss, e1, e2, k p0 _ ⟨p0, e1, .inl rfl⟩ h3, h4.off (fun p hp o ho => k p o ⟨p0, e1, .inr ⟨_, h3, List.mem_map.mpr ⟨p, hp, rfl⟩⟩⟩ ho), h5, h6, h7, h8⟩
  | .ob c fks, _, _, ⟨a0, dx, C, fs, ks, e1, e2, h3, h4, h5, h6, h7, h8, h9, h10⟩, k => ⟨a0, dx, C, fs, ks, e1, e2, k a0 _ ⟨a0, e1, .inl rfl⟩ h3, k dx _ ⟨a0, e1, .inr ⟨_, _, _, h3, .inl rfl⟩⟩ h4, h5.off (fun p hp o ho => k p o ⟨a0, e1, .inr ⟨_, _, _, h3, .inr hp⟩⟩ ho), h6, h7, h8, h9, h10⟩
theorem SlotOk.upF {F2 : Hp} (l : Le F F2) : ∀ {m : Md} {d : D} {v : V}, SlotOk K e g F H m d v → (∀ p, foot H m v p → F2 p = none) → SlotOk K e g F2 H m d v
  | .val, _, _, h, _ => Rp.mono l h
  | .ex, _, _, h, _ => ExM.mono l h
  | .dk, _, _, h, _ => h
  | .bor, _, _, ⟨p, vs, ds, k1, k2, k3, k4, k5⟩, _ => ⟨p, vs, ds, k1, k2, k3, k4.mono l, k5⟩
  | .own, _, _, ⟨p0, vs, ds, h1, h2, h3, h4, h5, h6, h7⟩, k => ⟨p0, vs, ds, h1, h2, h3, h4.mono l, k p0 h1, h6, h7⟩
  | .od, _, _, ⟨p0, vs, ds, h1, h2, h3, h4, h5, h6, h7⟩, k => ⟨p0, vs, ds, h1, h2, h3, h4.mono l, k p0 h1, h6, h7⟩
  | .oo, _, _, ⟨p0, as, dss, e1, e2, h3, h4, h5, h6, h7, h8⟩, k => ⟨p0, as, dss, e1, e2, h3, h4.up l (fun q hq => k q ⟨p0, e1, .inr ⟨_, h3, List.mem_map.mpr ⟨q, hq, rfl⟩⟩⟩), k p0 ⟨p0, e1, .inl rfl⟩, h6, h7, h8⟩
  | .ob c fks, _, _, ⟨a0, dx, C, fs, ks, e1, e2, h3, h4, h5, h6, h7, h8, h9, h10⟩, k => ⟨a0, dx, C, fs, ks, e1, e2, h3, h4, h5.up l (fun q hq => k q ⟨a0, e1, .inr ⟨_, _, _, h3, .inr hq⟩⟩), ⟨k a0 ⟨a0, e1, .inl rfl⟩, k dx ⟨a0, e1, .inr ⟨_, _, _, h3, .inl rfl⟩⟩⟩, h7, h8, h9, h10⟩
theorem foot_mine {m : Md} {v : V} {p : Addr} (h : m.mine = true) : foot H m v p ↔ v = .ref p := by
  cases m <;> first | exact Iff.rfl | cases h
end
structure SR (K : PySem.W.Frag) (e : Ent) (M : List Md) (g : Rg) (F H : Hp) (σ : L2.St) (ρ : En) : Prop where
  bs : Bs g F H
  stp : Stp e.g e.F e.H F H
  grel : g = e.g ∨ (e.g = Rg.no ∧ ∀ a, g.mem a → e.H a = none)
  len : σ.length = ρ.length
  slot : ∀ i d, gt ρ i = some d → ∃ v, σ[i]? = some (some v) ∧ SlotOk K e g F H (md M i) d v
  dis : ∀ i j v w p, i ≠ j → gt ρ i ≠ none → gt ρ j ≠ none → σ[i]? = some (some v) → σ[j]? = some (some w) → foot H (md M i) v p → foot H (md M j) w p → False
  low : Le e.Fb F
  solo : True

section
variable {K : PySem.W.Frag} {e : Ent} {M : List Md} {g : Rg} {F H F' H' : Hp} {σ : L2.St} {ρ : En}
theorem SR.keepB (s : SR K e M g F H σ ρ) {a : Addr} {o : HO} (h : e.H a = some o) (n : ¬ e.g.mem a) : ¬ g.mem a := by
  rcases s.grel with q | ⟨_, q⟩
  · rw [q]; exact n
  · intro m; rw [q a m] at h; cases h
theorem SR.stp' (s : SR K e M g F H σ ρ) (t : Stp g F H F' H') : Stp e.g e.F e.H F' H' := by
  rcases s.grel with q | ⟨q1, q2⟩
  · have t' := t
    rw [q] at t'
    exact s.stp.trans t'
  · refine ⟨s.stp.mono.trans t.mono, t.sub, fun a o h => ?_, fun a o h m => ?_, by rw [q1]; trivial⟩
    · rcases t.new a o h with z | z
      · exact s.stp.new a o z
      · exact .inr (s.stp.old z)
    · exact t.keep a o (s.stp.keep a o h m) fun z => by rw [q2 a z] at h; cases h
theorem Stp.no (t : Stp g F H F' H') {p : Addr} {o : HO} (h : H p = some o) (f : F p = none) : F' p = none := by
  cases q : F' p with
  | none => rfl
  | some u =>
    rcases t.new p u q with z | z
    · rw [f] at z; cases z
    · rw [h] at z; cases z
theorem InnerOk.step (t : Stp g F H F' H') {eH : Hp} : ∀ {as : List Addr} {dss : List (List D)}, InnerOk F H g eH (RpL K F) as dss → InnerOk F' H' g eH (RpL K F') as dss
  | [], _, h => h
  | _ :: _, _, ⟨ds, dr, vs, h1, h2, h3, h4, h5, h6, h7⟩ => ⟨ds, dr, vs, h1, t.keep _ _ h2 h6, h3.mono t.mono, t.no h2 h4, h5, h6, InnerOk.step t h7⟩
theorem FldOk.step (t : Stp g F H F' H') {eH : Hp} : ∀ {k : Fk} {d : D} {v : V}, FldOk K F H g eH k d v → FldOk K F' H' g eH k d v
  | .val, _, _, h => Rp.mono t.mono h
  | .own, _, _, ⟨p, vs, ds, h1, h2, h3, h4, h5, h6, h7⟩ => ⟨p, vs, ds, h1, h2, t.keep _ _ h3 h7, h4.mono t.mono, t.no h3 h5, h6, h7⟩
  | .od, _, _, ⟨p, vs, ds, h1, h2, h3, h4, h5, h6, h7⟩ => ⟨p, vs, ds, h1, h2, t.keep _ _ h3 h7, h4.mono t.mono, t.no h3 h5, h6, h7⟩
theorem FldsOk.step (t : Stp g F H F' H') {eH : Hp} : ∀ {fks : List (Str × Fk)} {fs : List (Str × V)} {ks : List (D × D)}, FldsOk K F H g eH fks fs ks → FldsOk K F' H' g eH fks fs ks
  | [], _, _, h => h
  | _ :: _, _, _, ⟨x, d, fr, kr, h1, h2, h3, h4⟩ => ⟨x, d, fr, kr, h1, h2, h3.step t, FldsOk.step t h4⟩
theorem SlotOk.step (t : Stp g F H F' H') : ∀ {m : Md} {d : D} {v : V}, SlotOk K e g F H m d v → SlotOk K e g F' H' m d v
  | .val, _, _, h => Rp.mono t.mono h
  | .ex, _, _, h => ExM.mono t.mono h
  | .own, _, _, ⟨p, vs, ds, h1, h2, h3, h4, h5, h6, h7⟩ => ⟨p, vs, ds, h1, h2, t.keep _ _ h3 h7, h4.mono t.mono, t.no h3 h5, h6, h7⟩
  | .od, _, _, ⟨p, vs, ds, h1, h2, h3, h4, h5, h6, h7⟩ => ⟨p, vs, ds, h1, h2, t.keep _ _ h3 h7, h4.mono t.mono, t.no h3 h5, h6, h7⟩
  | .bor, _, _, ⟨p, vs, ds, h1, h2, h3, h4, h5⟩ => ⟨p, vs, ds, h1, h2, h3, h4.mono t.mono, h5⟩
  | .dk, _, _, h => h
  | .oo, _, _, ⟨p, as, dss, h1, h2, h3, h4, h5, h6, h7, h8⟩ => ⟨p, as, dss, h1, h2, t.keep _ _ h3 h7, h4.step t, t.no h3 h5, h6, h7, h8⟩
  | .ob _ _, _, _, ⟨a, dx, C, fs, ks, h1, h2, h3, h4, h5, ⟨f1, f2⟩, h7, ⟨m1, m2⟩, h9, h10⟩ => ⟨a, dx, C, fs, ks, h1, h2, t.keep _ _ h3 m1, t.keep _ _ h4 m2, h5.step t, ⟨t.no h3 f1, t.no h4 f2⟩, h7, ⟨m1, m2⟩, h9, h10⟩
theorem SR.slotAt (s : SR K e M g F H σ ρ) {i : Nat} {v : V} (h : gt ρ i ≠ none) (hσ : σ[i]? = some (some v)) : ∃ d, gt ρ i = some d ∧ SlotOk K e g F H (md M i) d v := by
  cases q : gt ρ i with
  | none => exact absurd q h
  | some d =>
    obtain ⟨u, h1, h2⟩ := s.slot i d q
    rw [hσ] at h1
    cases h1
    exact ⟨d, rfl, h2⟩
/-- lists, dicts of ours are apart -/
theorem SR.apart (s : SR K e M g F H σ ρ) (i j : Nat) (p : Addr) (hij : i ≠ j) (hi : (md M i).mine = true) (hj : (md M j).mine = true) (h1 : gt ρ i ≠ none) (h2 : gt ρ j ≠ none) (h3 : σ[i]? = some (some (.ref p))) : σ[j]? ≠ some (some (.ref p)) :=
  fun h4 => s.dis i j _ _ p hij h1 h2 h3 h4 ((foot_mine hi).mpr rfl) ((foot_mine hj).mpr rfl)
theorem SR.stepDis (s : SR K e M g F H σ ρ) (t : ∀ p o, H p = some o → ¬ g.mem p → H' p = some o) : ∀ i j v w p, i ≠ j → gt ρ i ≠ none → gt ρ j ≠ none → σ[i]? = some (some v) → σ[j]? = some (some w) → foot H' (md M i) v p → foot H' (md M j) w p → False :=
  fun i j v w p hij h1 h2 h3 h4 h5 h6 => by
    obtain ⟨d1, _, k1⟩ := s.slotAt h1 h3
    obtain ⟨d2, _, k2⟩ := s.slotAt h2 h4
    exact s.dis i j v w p hij h1 h2 h3 h4 (k1.footBack (fun a o _ ha _ hm _ _ => t a o ha hm) h5) (k2.footBack (fun a o _ ha _ hm _ _ => t a o ha hm) h6)
theorem SR.step (s : SR K e M g F H σ ρ) (t : Stp g F H F' H') : SR K e M g F' H' σ ρ :=
  ⟨t.bs s.bs, s.stp' t, s.grel, s.len, fun i d h => let ⟨v, h1, h2⟩ := s.slot i d h; ⟨v, h1, h2.step t⟩, fun i j v w p hij h1 h2 h3 h4 h5 h6 => by
    obtain ⟨d1, _, k1⟩ := s.slotAt h1 h3
    obtain ⟨d2, _, k2⟩ := s.slotAt h2 h4
    exact s.dis i j v w p hij h1 h2 h3 h4 (k1.footBack (fun a o _ ha _ hm _ _ => t.keep a o ha hm) h5) (k2.footBack (fun a o _ ha _ hm _ _ => t.keep a o ha hm) h6), s.low.trans t.mono, s.solo⟩

/-! ### what can be read: frozen data, or a list, a dict that stands now -/
def RdR (K : PySem.W.Frag) (g : Rg) (F H : Hp) (d : D) (v : V) : Prop :=
  Rp K F d v ∨ (∃ p vs ds, v = .ref p ∧ d = .list ds ∧ H p = some (.lst vs) ∧ ¬ g.mem p ∧ RpL K F ds vs) ∨ (∃ p ps ks, v = .ref p ∧ d = .dict ks ∧ H p = some (.dK ps) ∧ ¬ g.mem p ∧ RpK K F ks ps)
theorem Bs.nmem (b : Bs g F H) {p : Addr} {o : HO} (h : F p = some o) : ¬ g.mem p := fun m => by rw [b.out p m] at h; cases h
theorem RdR.lst (b : Bs g F H) {ds : List D} {v : V} (h : RdR K g F H (.list ds) v) : ∃ p vs, v = .ref p ∧ H p = some (.lst vs) ∧ ¬ g.mem p ∧ RpL K F ds vs := by
  rcases h with ⟨a, xs, e, h, r⟩ | ⟨p, vs, ds', e, e2, h, m, r⟩ | ⟨_, _, _, _, e2, _⟩
  · exact ⟨a, xs, e, b.sub _ _ h, b.nmem h, r⟩
  · cases e2; exact ⟨p, vs, e, h, m, r⟩
  · cases e2
theorem RdR.dct (b : Bs g F H) {ds : List (D × D)} {v : V} (h : RdR K g F H (.dict ds) v) : ∃ p vs, v = .ref p ∧ H p = some (.dK vs) ∧ ¬ g.mem p ∧ RpK K F ds vs := by
  rcases h with ⟨a, xs, e, h, r⟩ | ⟨_, _, _, _, e2, _⟩ | ⟨p, vs, ds', e, e2, h, m, r⟩
  · exact ⟨a, xs, e, b.sub _ _ h, b.nmem h, r⟩
  · cases e2
  · cases e2; exact ⟨p, vs, e, h, m, r⟩
def D.plainK : D → Bool
  | .list _ => false | .dict _ => false | _ => true
theorem RdR.rp {d : D} {v : V} (h : RdR K g F H d v) (p : D.plainK d = true) : Rp K F d v := by
  rcases h with h | ⟨_, _, _, _, e, _⟩ | ⟨_, _, _, _, e, _⟩
  · exact h
  · subst e; cases p
  · subst e; cases p
theorem RdR.tup {ds : List D} {v : V} (h : RdR K g F H (.tuple ds) v) : ∃ p vs, v = .ref p ∧ FrT F p vs ∧ RpL K F ds vs := h.rp rfl
theorem RdR.step (t : Stp g F H F' H') {d : D} {v : V} (h : RdR K g F H d v) : RdR K g F' H' d v := by
  rcases h with h | ⟨p, vs, ds, h1, h2, h3, h4, h5⟩ | ⟨p, vs, ds, h1, h2, h3, h4, h5⟩
  · exact .inl (h.mono t.mono)
  · exact .inr (.inl ⟨p, vs, ds, h1, h2, t.keep _ _ h3 h4, h4, h5.mono t.mono⟩)
  · exact .inr (.inr ⟨p, vs, ds, h1, h2, t.keep _ _ h3 h4, h4, h5.mono t.mono⟩)
/-- at this heap alone -/
theorem RdR.now (b : Bs g F H) {d : D} {v : V} (h : RdR K g F H d v) : Rp K H d v := by
  rcases h with h | ⟨p, vs, ds, h1, h2, h3, h4, h5⟩ | ⟨p, vs, ds, h1, h2, h3, h4, h5⟩
  · exact h.mono b.sub
  · subst h2; exact ⟨p, vs, h1, h3, h5.mono b.sub⟩
  · subst h2; exact ⟨p, vs, h1, h3, h5.mono b.sub⟩
end

/-! ### the judgements -/
abbrev DT := En → (D → Prop) → Prop
abbrev DB := En → (Bool → Prop) → Prop
abbrev DA := En → (List D → Prop) → Prop
def Mono {α : Type} (t : En → (α → Prop) → Prop) : Prop := ∀ ρ (Q Q' : α → Prop), (∀ d, Q d → Q' d) → t ρ Q → t ρ Q'

section
variable (K : PySem.W.Frag) (e : Ent) (M : List Md)
def rdE (t : DT) : TE := fun σ H Q => ∃ g F ρ, SR K e M g F H σ ρ ∧ t ρ fun d => ∀ F' H' v, Stp g F H F' H' → Rp K F' d v → Q v H'
def rdR (t : DT) : TE := fun σ H Q => ∃ g F ρ, SR K e M g F H σ ρ ∧ t ρ fun d => ∀ F' H' v, Stp g F H F' H' → RdR K g F' H' d v → Q v H'
/-- a new list -/
def rdF (t : DA) : TE := fun σ H Q => ∃ g F ρ, SR K e M g F H σ ρ ∧ t ρ fun ds => ∀ F' H' p vs, Stp g F H F' H' → H p = none → F' p = none → H' p = some (.lst vs) → RpL K F' ds vs → Q (.ref p) H'
def rdB (t : DB) : TT := fun σ H Q => ∃ g F ρ, SR K e M g F H σ ρ ∧ t ρ fun b => ∀ F' H', Stp g F H F' H' → Q b H'
def rdA (t : DA) : TA := fun σ H Q => ∃ g F ρ, SR K e M g F H σ ρ ∧ t ρ fun ds => ∀ F' H' vs, Stp g F H F' H' → RpL K F' ds vs → Q vs H'
end
structure DE (X : Cx) (e : Ent) (M : List Md) (x : Expr) (t : DT) : Prop where
  pe : PE X x (rdE X.K e M t)
  mono : Mono t
structure RE (X : Cx) (e : Ent) (M : List Md) (x : Expr) (t : DT) : Prop where
  pe : PE X x (rdR X.K e M t)
  mono : Mono t
structure FE (X : Cx) (e : Ent) (M : List Md) (x : Expr) (t : DA) : Prop where
  pe : PE X x (rdF X.K e M t)
  mono : Mono t
structure DC (X : Cx) (e : Ent) (M : List Md) (x : Expr) (t : DB) : Prop where
  pt : PT X x (rdB X.K e M t)
  mono : Mono t
structure DW (X : Cx) (e : Ent) (M : List Md) (x : Expr) (t : DB) : Prop where
  pw : PW X x (rdB X.K e M t)
  mono : Mono t
structure AE (X : Cx) (e : Ent) (M : List Md) (xs : List Expr) (t : DA) : Prop where
  pa : PA X xs (rdA X.K e M t)
  mono : Mono t

theorem pe_imp {X : Cx} {x : Expr} {t t' : TE} (h : PE X x t) (f : ∀ σ H Q, t' σ H Q → t σ H Q) : PE X x t' := ⟨fun pins s σ H Q I hw => h.run pins s σ H Q I (f σ H Q hw)⟩
theorem pt_imp {X : Cx} {x : Expr} {t t' : TT} (h : PT X x t) (f : ∀ σ H Q, t' σ H Q → t σ H Q) : PT X x t' := ⟨fun pins s σ H Q I hw => h.run pins s σ H Q I (f σ H Q hw)⟩
theorem pw_imp {X : Cx} {x : Expr} {t t' : TT} (h : PW X x t) (f : ∀ σ H Q, t' σ H Q → t σ H Q) : PW X x t' := ⟨fun wh pins s σ H Q I hw => h.run wh pins s σ H Q I (f σ H Q hw)⟩
theorem pa_imp {X : Cx} {x : List Expr} {t t' : TA} (h : PA X x t) (f : ∀ σ H Q, t' σ H Q → t σ H Q) : PA X x t' := ⟨fun pos pins s σ H Q I hw => h.run pos pins s σ H Q I (f σ H Q hw)⟩
theorem ps_imp {X : Cx} {x : Stmt} {t t' : TS} (h : PS X x t) (f : ∀ D σ H, t' D σ H → t D σ H) : PS X x t' := ⟨fun pins s σ H D I hw => h.run pins s σ H D I (f D σ H hw)⟩
theorem pss_imp {X : Cx} {x : List Stmt} {t t' : TS} (h : PSs X x t) (f : ∀ D σ H, t' D σ H → t D σ H) : PSs X x t' := ⟨fun pins s σ H D I hw => h.run pins s σ H D I (f D σ H hw)⟩

section
variable {X : Cx} {e : Ent} {M : List Md} {x a b c : Expr} {t ta tb tc : DT} {pos : Pos}
theorem DE.re (h : DE X e M x t) : RE X e M x t :=
  ⟨pe_imp h.pe fun σ H Q ⟨g, F, ρ, sr, q⟩ => ⟨g, F, ρ, sr, h.mono ρ _ _ (fun d k F' H' v s r => k F' H' v s (.inl r)) q⟩, h.mono⟩
/-- a new list, frozen -/
def tFz (t : DA) : DT := fun ρ Q => t ρ fun ds => Q (.list ds)
theorem FE.de {t : DA} (h : FE X e M x t) : DE X e M x (tFz t) :=
  ⟨pe_imp h.pe fun σ H Q ⟨g, F, ρ, sr, q⟩ => ⟨g, F, ρ, sr, h.mono ρ _ _ (fun ds k F' H' p vs s n f hp r => k (upd F' p (.lst vs)) H' (.ref p) (s.freeze n f hp) ⟨p, vs, rfl, upd_same, r.mono (.new f)⟩) q⟩,
    fun ρ Q Q' f q => h.mono ρ _ _ (fun ds k => f _ k) q⟩

/-! ### names, constants -/
def tV (i : Nat) : DT := fun ρ Q => match gt ρ i with | some d => Q d | none => False
theorem tV_mono (i : Nat) : Mono (tV i) := fun ρ Q Q' f h => by
  unfold tV at h ⊢
  split at h
  · exact f _ h
  · exact h.elim
theorem de_var {i : Nat} {y : Str} (hN : X.N[i]? = some y) (hv : Vis X.env.scope y) (hm : md M i = .val := by rfl) (hd : (y == ("__debug__" : Str)) = false := by decide) (hcd : (y == ("__classdict__" : Str)) = false := by decide) :
    DE X e M (.Name y pos) (tV i) :=
  ⟨pe_imp (pe_var hN hv hd hcd) fun σ H Q ⟨g, F, ρ, sr, q⟩ => by
    unfold tV at q
    split at q
    · rename_i d hd
      obtain ⟨v, h1, h2⟩ := sr.slot i d hd
      rw [hm] at h2
      exact ⟨v, h1, q F H v sr.bs.refl h2⟩
    · exact q.elim, tV_mono i⟩
theorem SR.rd {K : PySem.W.Frag} {g : Rg} {F H : Hp} {σ : L2.St} {ρ : En} (s : SR K e M g F H σ ρ) {i : Nat} {d : D} {v : V} (h : SlotOk K e g F H (md M i) d v) (hm : md M i ≠ .dk) (hm2 : (md M i).opq = false) : RdR K g F H d v := by
  cases q : md M i with
  | val => rw [q] at h; exact .inl h
  | own =>
    rw [q] at h
    obtain ⟨p, vs, ds, h1, h2, h3, h4, h5, h6, h7⟩ := h
    exact .inr (.inl ⟨p, vs, ds, h1, h2, h3, h7, h4⟩)
  | od =>
    rw [q] at h
    obtain ⟨p, vs, ds, h1, h2, h3, h4, h5, h6, h7⟩ := h
    exact .inr (.inr ⟨p, vs, ds, h1, h2, h3, h7, h4⟩)
  | bor =>
    rw [q] at h
    obtain ⟨p, vs, ds, h1, h2, h3, h4, h5⟩ := h
    exact .inr (.inl ⟨p, vs, ds, h1, h2, s.stp.keep _ _ h3 h5, s.keepB h3 h5, h4⟩)
  | dk => exact absurd q hm
  | ex => rw [q] at hm2; cases hm2
  | oo => rw [q] at hm2; cases hm2
  | ob _ _ => rw [q] at hm2; cases hm2
theorem re_var {i : Nat} {y : Str} (hN : X.N[i]? = some y) (hv : Vis X.env.scope y) (hm : md M i ≠ .dk := by decide) (hm2 : (md M i).opq = false := by decide) (hd : (y == ("__debug__" : Str)) = false := by decide) (hcd : (y == ("__classdict__" : Str)) = false := by decide) :
    RE X e M (.Name y pos) (tV i) :=
  ⟨pe_imp (pe_var hN hv hd hcd) fun σ H Q ⟨g, F, ρ, sr, q⟩ => by
    unfold tV at q
    split at q
    · rename_i d hd
      obtain ⟨v, h1, h2⟩ := sr.slot i d hd
      exact ⟨v, h1, q F H v sr.bs.refl (sr.rd h2 hm hm2)⟩
    · exact q.elim, tV_mono i⟩
def tK (d : D) : DT := fun _ Q => Q d
theorem tK_mono (d : D) : Mono (tK d) := fun _ _ _ f h => f _ h
theorem de_con {v : V} {d : D} (h : PE X x (tC v)) (r : ∀ F, Rp X.K F d v) : DE X e M x (tK d) :=
  ⟨pe_imp h fun σ H Q ⟨g, F, ρ, sr, q⟩ => q F H v sr.bs.refl (r F), tK_mono d⟩
theorem de_int {i : Int} {j : Nat} : DE X e M (.Constant (.int i) j pos) (tK (.int i)) := de_con pe_int fun _ => rfl
theorem de_bl {i : Bool} {j : Nat} : DE X e M (.Constant (.bool i) j pos) (tK (.bool i)) := de_con pe_bl fun _ => rfl
theorem de_non {j : Nat} : DE X e M (.Constant .none j pos) (tK .none) := de_con pe_non fun _ => rfl
theorem de_str {i : Str} {j : Nat} : DE X e M (.Constant (.str i) j pos) (tK (.str i)) := de_con pe_str fun _ => rfl
theorem de_gint {y : Str} {i : Int} {u : Value} (hg : Gl X y) (hm : X.mg y = some u) (r : RelV (.int i) u) (hd : (y == ("__debug__" : Str)) = false := by decide) : DE X e M (.Name y pos) (tK (.int i)) := de_con (pe_glob hg hm r hd) fun _ => rfl

/-! ### two operands -/
abbrev K2 := D → D → (D → Prop) → Prop
def t2 (k : K2) (ta tb : DT) : DT := fun ρ Q => ta ρ fun x => tb ρ fun y => k x y Q
def Mono2 (k : K2) : Prop := ∀ x y (Q Q' : D → Prop), (∀ d, Q d → Q' d) → k x y Q → k x y Q'
theorem t2_mono {k : K2} (h : Mono2 k) (ha : Mono ta) (hb : Mono tb) : Mono (t2 k ta tb) := fun ρ Q Q' f q =>
  ha ρ _ _ (fun x q => hb ρ _ _ (fun y q => h x y _ _ f q) q) q
def Says2 (X : Cx) (r : R2) (k : K2) : Prop := ∀ g F H dx dy x y (Qv : VK) (q : D → Prop), Bs g F H → RdR X.K g F H dx x → RdR X.K g F H dy y → k dx dy q →
  (∀ d F' H' v, q d → Stp g F H F' H' → Rp X.K F' d v → Qv v H') → r x y H Qv
theorem op2 {r : R2} {k : K2} (ha : RE X e M a ta) (hb : RE X e M b tb) (hs : Says2 X r k) : ∀ σ H Q, rdE X.K e M (t2 k ta tb) σ H Q → tOp r (rdR X.K e M ta) (rdR X.K e M tb) σ H Q := fun σ H Q ⟨g, F, ρ, sr, q⟩ =>
  ⟨g, F, ρ, sr, ha.mono ρ _ _ (fun dx hx F1 H1 x s1 rx => ⟨g, F1, ρ, sr.step s1, hb.mono ρ _ _ (fun dy hy F2 H2 y s2 ry =>
    hs g F2 H2 dx dy x y Q _ (s2.bs (s1.bs sr.bs)) (rx.step s2) ry hy fun d F' H' v q s3 rv => q F' H' v ((s1.trans s2).trans s3) rv) hx⟩) q⟩
theorem de_op {op : Operator} {r : R2} {k : K2} (ho : OpR X (binaryOp op) r) (hs : Says2 X r k) (hk : Mono2 k) (ha : RE X e M a ta) (hb : RE X e M b tb) : DE X e M (.BinOp a op b pos) (t2 k ta tb) :=
  ⟨pe_imp (pe_op ho ha.pe hb.pe) (op2 ha hb hs), t2_mono hk ha.mono hb.mono⟩
theorem de_cmp {op : CmpOp} {r : R2} {k : K2} (ho : OpR X (compareOp op) r) (hs : Says2 X r k) (hk : Mono2 k) (ha : RE X e M a ta) (hb : RE X e M b tb) (hm : behindInMarks op b = false) : DE X e M (.Compare a [op] [b] pos) (t2 k ta tb) :=
  ⟨pe_imp (pe_cmpR ho ha.pe hb.pe hm) (op2 ha hb hs), t2_mono hk ha.mono hb.mono⟩
theorem de_ix {r : R2} {k : K2} (hr : IxR X r) (hs : Says2 X r k) (hk : Mono2 k) (ha : RE X e M a ta) (hb : RE X e M b tb) (hp : PlainIx b) : DE X e M (.Subscript a b pos) (t2 k ta tb) :=
  ⟨pe_imp (pe_ix hr ha.pe hb.pe hp) (op2 ha hb hs), t2_mono hk ha.mono hb.mono⟩
theorem opOr {f : Value → Value → Sem Value} {r r' : R2} (h : OpR X f r) (h' : OpR X f r') : OpR X f fun x y H Q => r x y H Q ∨ r' x y H Q := by
  intro pins s σ H x y v u Q I rx ry q
  rcases q with q | q
  · exact h pins s σ H x y v u Q I rx ry q
  · exact h' pins s σ H x y v u Q I rx ry q
end
end PP

set_option Elab.async false
set_option linter.all false
set_option maxRecDepth 100000
set_option maxHeartbeats 4000000
namespace PP
open PySem PySem.Spec PyProof.Rows L2

section
variable {X : Cx} {e : Ent} {M : List Md} {x a b c : Expr} {t ta tb tc : DT} {pos : Pos}

/-! ### ints -/
theorem RdR.int {K : PySem.W.Frag} {g : Rg} {F H : Hp} {i : Int} {v : V} (h : RdR K g F H (.int i) v) : v = .int i := h.rp rfl
theorem RdR.bool {K : PySem.W.Frag} {g : Rg} {F H : Hp} {i : Bool} {v : V} (h : RdR K g F H (.bool i) v) : v = .bl i := h.rp rfl
theorem RdR.str {K : PySem.W.Frag} {g : Rg} {F H : Hp} {i : Str} {v : V} (h : RdR K g F H (.str i) v) : v = .str i := h.rp rfl
theorem RdR.non {K : PySem.W.Frag} {g : Rg} {F H : Hp} {v : V} (h : RdR K g F H .none v) : v = .non := h.rp rfl

def kI (C : Int → Int → Prop) (f : Int → Int → D) : K2 := fun x y Q => match x, y with | .int i, .int j => C i j ∧ Q (f i j) | _, _ => False
theorem kI_mono {C f} : Mono2 (kI C f) := fun x y Q Q' h q => by
  unfold kI at q ⊢
  split at q
  · exact ⟨q.1, h _ q.2⟩
  · exact q.elim
def NoC : Int → Int → Prop := fun _ _ => True
theorem says_I {C : Int → Int → Prop} {f : Int → Int → D} {f' : Int → Int → V} (r : ∀ i j F, Rp X.K F (f i j) (f' i j)) : Says2 X (rI C f') (kI C f) := by
  intro g F H dx dy x y Qv q bs rx ry hk k
  unfold kI at hk
  split at hk
  · exact ⟨_, _, rx.int, ry.int, hk.1, k _ F H _ hk.2 bs.refl (r _ _ F)⟩
  · exact hk.elim
theorem says_I0 {f : Int → Int → D} {f' : Int → Int → V} (r : ∀ i j F, Rp X.K F (f i j) (f' i j)) : Says2 X (rI0 f') (kI NoC f) := by
  intro g F H dx dy x y Qv q bs rx ry hk k
  unfold kI at hk
  split at hk
  · exact ⟨_, _, rx.int, ry.int, k _ F H _ hk.2 bs.refl (r _ _ F)⟩
  · exact hk.elim
theorem de_sub (ha : RE X e M a ta) (hb : RE X e M b tb) : DE X e M (.BinOp a .Sub b pos) (t2 (kI NoC fun i j => .int (i - j)) ta tb) := de_op op_sub (says_I0 fun _ _ _ => rfl) kI_mono ha hb
theorem de_mod (ha : RE X e M a ta) (hb : RE X e M b tb) : DE X e M (.BinOp a .Mod b pos) (t2 (kI (fun _ j => 0 < j) fun i j => .int (i % j)) ta tb) := de_op op_mod (says_I fun _ _ _ => rfl) kI_mono ha hb
theorem de_fdiv (ha : RE X e M a ta) (hb : RE X e M b tb) : DE X e M (.BinOp a .FloorDiv b pos) (t2 (kI CDivW fun i j => .int (i / j)) ta tb) := de_op op_fdivW (says_I fun _ _ _ => rfl) kI_mono ha hb
theorem de_pow (ha : RE X e M a ta) (hb : RE X e M b tb) : DE X e M (.BinOp a .Pow b pos) (t2 (kI CPow fun i j => .int (i ^ j.toNat)) ta tb) := de_op op_pow (says_I fun _ _ _ => rfl) kI_mono ha hb

/-! ### x * y: ints, a list or a tuple times an int -/
def repD (k : Int) (xs : List D) : List D := (List.replicate k.toNat xs).flatten
def kMul : K2 := fun x y Q => match x, y with
  | .int i, .int j => CMulW i j ∧ Q (.int (i * j))
  | .list xs, .int k => (-(2 ^ 63) ≤ k ∧ k < 2 ^ 63 ∧ xs.length * k.toNat ≤ sizeLine) ∧ Q (.list (repD k xs))
  | _, _ => False
theorem RpL.rep {K : PySem.W.Frag} {H : Hp} {ds : List D} {vs : List V} (r : RpL K H ds vs) : ∀ k : Nat, RpL K H (List.replicate k ds).flatten (List.replicate k vs).flatten
  | 0 => rfl
  | k + 1 => by
    rw [List.replicate_succ, List.replicate_succ, List.flatten_cons, List.flatten_cons]
    exact r.append (RpL.rep r k)
theorem kMul_mono : Mono2 kMul := fun x y Q Q' h q => by
  unfold kMul at q ⊢
  split at q
  · exact ⟨q.1, h _ q.2⟩
  · exact ⟨q.1, h _ q.2⟩
  · exact q.elim
theorem says_mul : Says2 X (fun x y H Q => rI CMulW (fun i j => .int (i * j)) x y H Q ∨ rRep x y H Q) kMul := by
  intro g F H dx dy x y Qv q bs rx ry hk k
  unfold kMul at hk
  split at hk
  · exact .inl ⟨_, _, rx.int, ry.int, hk.1, k _ F H _ hk.2 bs.refl rfl⟩
  · obtain ⟨p, vs, rfl, hp, m, r⟩ := rx.lst bs
    obtain ⟨⟨h1, h2, h3⟩, hk⟩ := hk
    refine .inr ⟨p, _, vs, rfl, ry.int, hp, h1, h2, by rw [r.length]; exact h3, fun p' hn => k _ (upd F p' (.lst (List.replicate _ vs).flatten)) _ _ hk (bs.alloc hn _) ⟨p', _, rfl, upd_same, (r.rep _).mono (.new (bs.sub.none hn))⟩⟩
  · exact hk.elim
theorem de_mul (ha : RE X e M a ta) (hb : RE X e M b tb) : DE X e M (.BinOp a .Mult b pos) (t2 kMul ta tb) := de_op (opOr op_mulW op_rep) says_mul kMul_mono ha hb

/-! ### x + y -/
def kAdd : K2 := fun x y Q => match x, y with
  | .int i, .int j => Q (.int (i + j))
  | .list xs, .list ys => xs.length + ys.length ≤ sizeLine ∧ Q (.list (xs ++ ys))
  | .tuple xs, .tuple ys => xs.length + ys.length ≤ sizeLine ∧ Q (.tuple (xs ++ ys))
  | .str xs, .str ys => xs.length + ys.length ≤ sizeLine ∧ Q (.str (xs ++ ys))
  | _, _ => False
theorem kAdd_mono : Mono2 kAdd := fun x y Q Q' h q => by
  unfold kAdd at q ⊢
  split at q
  · exact h _ q
  · exact ⟨q.1, h _ q.2⟩
  · exact ⟨q.1, h _ q.2⟩
  · exact ⟨q.1, h _ q.2⟩
  · exact q.elim
theorem RpL.nil_iff {K : PySem.W.Frag} {H : Hp} {ds : List D} {vs : List V} (r : RpL K H ds vs) : vs = [] → ds = [] := fun h => by
  have := r.length
  subst h
  exact List.eq_nil_of_length_eq_zero this.symm
theorem says_add : Says2 X (fun x y H Q => rI0 (fun i j => .int (i + j)) x y H Q ∨ rCat x y H Q ∨ rCatP X.K x y H Q ∨ (∃ i j, x = .str i ∧ y = .str j ∧ i.length + j.length ≤ sizeLine ∧ Q (.str (i ++ j)) H)) kAdd := by
  intro g F H dx dy x y Qv q bs rx ry hk k
  unfold kAdd at hk
  split at hk
  · exact .inl ⟨_, _, rx.int, ry.int, k _ F H _ hk bs.refl rfl⟩
  · obtain ⟨p, vs, rfl, hp, m, r⟩ := rx.lst bs
    obtain ⟨p2, vs2, rfl, hp2, m2, r2⟩ := ry.lst bs
    refine .inr (.inl ⟨p, p2, vs, vs2, rfl, rfl, hp, hp2, by rw [r.length, r2.length]; exact hk.1, fun p' hn => k _ (upd F p' _) _ _ hk.2 (bs.alloc hn _) ⟨p', _, rfl, upd_same, (r.append r2).mono (.new (bs.sub.none hn))⟩⟩)
  · obtain ⟨p, vs, rfl, hp, r⟩ := rx.tup
    obtain ⟨p2, vs2, rfl, hp2, r2⟩ := ry.tup
    refine .inr (.inr (.inl ⟨p, p2, vs, vs2, rfl, rfl, bs.sub.sqT hp, bs.sub.sqT hp2, by rw [r.length, r2.length]; exact hk.1, fun z => ?_, fun _ z => ?_, fun _ _ p' o hn hc hd => ?_⟩))
    · have z' := r.nil_iff z
      subst z'
      exact k _ F H _ hk.2 bs.refl ⟨p2, vs2, rfl, hp2, r2⟩
    · have z' := r2.nil_iff z
      subst z'
      refine k _ F H _ hk.2 bs.refl ⟨p, vs, rfl, hp, ?_⟩
      rw [List.append_nil]; exact r
    · exact k _ (upd F p' _) _ _ hk.2 (bs.alloc hn _) ⟨p', _, rfl, FrT.new hc hd, (r.append r2).mono (.new (bs.sub.none hn))⟩
  · exact .inr (.inr (.inr ⟨_, _, rx.str, ry.str, hk.1, k _ F H _ hk.2 bs.refl rfl⟩))
  · exact hk.elim
theorem de_add (ha : RE X e M a ta) (hb : RE X e M b tb) : DE X e M (.BinOp a .Add b pos) (t2 kAdd ta tb) := de_op (opOr op_add (opOr op_cat (opOr op_catP op_add_str))) says_add kAdd_mono ha hb

/-! ### - x -/
def t1 (k : D → (D → Prop) → Prop) (ta : DT) : DT := fun ρ Q => ta ρ fun x => k x Q
def Mono1 (k : D → (D → Prop) → Prop) : Prop := ∀ x (Q Q' : D → Prop), (∀ d, Q d → Q' d) → k x Q → k x Q'
theorem t1_mono {k} (h : Mono1 k) (ha : Mono ta) : Mono (t1 k ta) := fun ρ Q Q' f q => ha ρ _ _ (fun x q => h x _ _ f q) q
def kNeg : D → (D → Prop) → Prop := fun x Q => match x with | .int i => Q (.int (-i)) | _ => False
theorem de_neg (ha : RE X e M a ta) : DE X e M (.UnaryOp .USub a pos) (t1 kNeg ta) :=
  ⟨pe_imp (pe_un un_neg ha.pe) fun σ H Q ⟨g, F, ρ, sr, q⟩ => ⟨g, F, ρ, sr, ha.mono ρ _ _ (fun d hd F1 H1 v s rv => by
    unfold kNeg at hd
    split at hd
    · exact ⟨_, rv.int, hd F1 H1 _ s rfl⟩
    · exact hd.elim) q⟩, t1_mono (fun x Q Q' f q => by unfold kNeg at q ⊢; split at q; exact f _ q; exact q.elim) ha.mono⟩

/-! ### comparisons of ints -/
theorem nm {op : CmpOp} {b : Expr} (h : op ≠ .In) (h2 : op ≠ .NotIn) : behindInMarks op b = false := nobehind b h h2
abbrev kLt : K2 := kI NoC fun i j => .bool (decide (i < j))
abbrev kLe : K2 := kI NoC fun i j => .bool (decide (i ≤ j))
abbrev kGt : K2 := kI NoC fun i j => .bool (decide (j < i))
abbrev kGe : K2 := kI NoC fun i j => .bool (decide (j ≤ i))
theorem de_lt (ha : RE X e M a ta) (hb : RE X e M b tb) : DE X e M (.Compare a [.Lt] [b] pos) (t2 kLt ta tb) := de_cmp op_lt (says_I0 fun _ _ _ => rfl) kI_mono ha hb (nm (by decide) (by decide))
theorem de_le (ha : RE X e M a ta) (hb : RE X e M b tb) : DE X e M (.Compare a [.LtE] [b] pos) (t2 kLe ta tb) := de_cmp op_le (says_I0 fun _ _ _ => rfl) kI_mono ha hb (nm (by decide) (by decide))
theorem de_gt (ha : RE X e M a ta) (hb : RE X e M b tb) : DE X e M (.Compare a [.Gt] [b] pos) (t2 kGt ta tb) := de_cmp op_gt (says_I0 fun _ _ _ => rfl) kI_mono ha hb (nm (by decide) (by decide))
theorem de_ge (ha : RE X e M a ta) (hb : RE X e M b tb) : DE X e M (.Compare a [.GtE] [b] pos) (t2 kGe ta tb) := de_cmp op_ge (says_I0 fun _ _ _ => rfl) kI_mono ha hb (nm (by decide) (by decide))

/-! ### == and != of any data without dicts -/
mutual
theorem Rp.reads {pins : List (Addr × Obj)} {σ : L2.St} {H : Hp} {s : Shared} (I : Inv X pins σ H s) : ∀ (d : D) (v : V) (u : Value), Rp X.K H d v → RelV v u → d.hasDict = false → ∃ as, Reads s.heap u d as
  | .none, _, u, h, r, _ => by
    have h : _ = V.non := h
    subst h
    cases (show u = Value.none from r)
    exact ⟨_, Reads.none⟩
  | .bool b, _, u, h, r, _ => by
    have h : _ = V.bl b := h
    subst h
    cases (show u = Value.bool b from r)
    exact ⟨_, Reads.bool b⟩
  | .int i, _, u, h, r, _ => by
    have h : _ = V.int i := h
    subst h
    obtain ⟨t, rfl⟩ := (show ∃ t, u = Value.int i t from r)
    exact ⟨_, Reads.int i t⟩
  | .str x, _, u, h, r, _ => by
    have h : _ = V.str x := h
    subst h
    obtain ⟨t, rfl⟩ := (show ∃ t, u = Value.str x t from r)
    exact ⟨_, Reads.str x t⟩
  | .list ds, _, u, ⟨a, xs, e1, h, q⟩, r, n => by
    subst e1
    cases (show u = Value.ref a from r)
    obtain ⟨its, rv, ⟨o, k, ho, hc, _, hd⟩, _⟩ := I.list (.inl (.inl h))
    obtain ⟨as, hr⟩ := Rp.readsAll I ds _ its q rv (by simpa only [PyData.hasDict] using n)
    exact ⟨_, Reads.list ho hc hd hr⟩
  | .tuple ds, _, u, ⟨a, xs, e1, h, q⟩, r, n => by
    subst e1
    cases (show u = Value.ref a from r)
    obtain ⟨its, rv, ⟨o, ho, hc, k, hd⟩, _⟩ := I.tuple (h.sq (K := X.K))
    obtain ⟨as, hr⟩ := Rp.readsAll I ds _ its q rv (by simpa only [PyData.hasDict] using n)
    exact ⟨_, Reads.tuple ho hc hd hr⟩
  | .dict _, _, _, _, _, n => by simp [PyData.hasDict] at n
theorem Rp.readsAll {pins : List (Addr × Obj)} {σ : L2.St} {H : Hp} {s : Shared} (I : Inv X pins σ H s) : ∀ (ds : List D) (vs : List V) (us : List Value), RpL X.K H ds vs → Vals vs us → PyData.hasDictAll ds = false → ∃ as, ReadsAll s.heap us ds as
  | [], _, _, h, r, _ => by
    have h : _ = [] := h
    subst h
    cases r
    exact ⟨_, ReadsAll.nil⟩
  | d :: ds, _, _, ⟨x, xs, e1, h1, h2⟩, r, n => by
    subst e1
    have n' : d.hasDict = false ∧ PyData.hasDictAll ds = false := by simpa only [PyData.hasDictAll, Bool.or_eq_false_iff] using n
    cases r with
    | cons r1 r2 =>
      obtain ⟨as, q1⟩ := Rp.reads I d _ _ h1 r1 n'.1
      obtain ⟨bs, q2⟩ := Rp.readsAll I ds _ _ h2 r2 n'.2
      exact ⟨_, ReadsAll.cons q1 q2⟩
end
theorem shaped_noDict {d : D} (h : SeqAt.shaped d = true) : d.hasDict = false := by
  have h : (d.canLay0 && decide (d.depth ≤ 64)) = true := h
  rw [Bool.and_eq_true] at h
  exact PyData.hasDict_of_canLay d h.1
def rEqX (K : PySem.W.Frag) (f : Bool → Bool) : R2 := fun x y H Q => ∃ d d', Rp K H d x ∧ Rp K H d' y ∧ SeqAt.shaped d = true ∧ SeqAt.shaped d' = true ∧ Q (.bl (f (PyData.eqv d d'))) H
theorem op_eqX (hu : X.A.units + 64 < cLine) : OpR X (compareOp .Eq) (rEqX X.K id) := by
  intro pins s σ H x y v u Q I rx ry h
  obtain ⟨d, d', hd, he, sd, se, q⟩ := h
  obtain ⟨as, r1⟩ := Rp.reads I d x v hd rx (shaped_noDict sd)
  obtain ⟨bs, r2⟩ := Rp.reads I d' y u he ry (shaped_noDict se)
  exact SeqAt.compareEq_shaped r1 r2 sd se hu ⟨.bl _, H, I, rfl, q⟩
theorem op_neX (hu : X.A.units + 64 < cLine) : OpR X (compareOp .NotEq) (rEqX X.K not) := by
  intro pins s σ H x y v u Q I rx ry h
  obtain ⟨d, d', hd, he, sd, se, q⟩ := h
  obtain ⟨as, r1⟩ := Rp.reads I d x v hd rx (shaped_noDict sd)
  obtain ⟨bs, r2⟩ := Rp.reads I d' y u he ry (shaped_noDict se)
  exact SeqAt.compareNe_shaped r1 r2 sd se hu ⟨.bl _, H, I, rfl, q⟩
def kEq (f : Bool → Bool) : K2 := fun x y Q => (SeqAt.shaped x = true ∧ SeqAt.shaped y = true) ∧ Q (.bool (f (PyData.eqv x y)))
theorem kEq_mono {f} : Mono2 (kEq f) := fun x y Q Q' h q => ⟨q.1, h _ q.2⟩
theorem says_eq {f} : Says2 X (rEqX X.K f) (kEq f) := fun g F H dx dy x y Qv q bs rx ry hk k => ⟨dx, dy, rx.now bs, ry.now bs, hk.1.1, hk.1.2, k _ F H _ hk.2 bs.refl rfl⟩
theorem de_eq (hu : X.A.units + 64 < cLine) (ha : RE X e M a ta) (hb : RE X e M b tb) : DE X e M (.Compare a [.Eq] [b] pos) (t2 (kEq id) ta tb) := de_cmp (op_eqX hu) says_eq kEq_mono ha hb (nm (by decide) (by decide))
theorem de_ne (hu : X.A.units + 64 < cLine) (ha : RE X e M a ta) (hb : RE X e M b tb) : DE X e M (.Compare a [.NotEq] [b] pos) (t2 (kEq not) ta tb) := de_cmp (op_neX hu) says_eq kEq_mono ha hb (nm (by decide) (by decide))
/-- is None -/
def kIsN (f : Bool → Bool) : D → (D → Prop) → Prop := fun x Q => Q (.bool (f (match x with | .none => true | _ => false)))
theorem rd_non {K : PySem.W.Frag} {g : Rg} {F H : Hp} : ∀ {d : D} {v : V}, RdR K g F H d v → decide (v = .non) = (match d with | .none => true | _ => false)
  | .none, _, h => by rw [h.non]; rfl
  | .bool _, _, h => by rw [h.bool]; rfl
  | .int _, _, h => by rw [h.int]; rfl
  | .str _, _, h => by rw [h.str]; rfl
  | .list _, _, h => by rcases h with ⟨a, xs, rfl, _⟩ | ⟨p, vs, ds, rfl, _⟩ | ⟨p, vs, ds, rfl, _⟩ <;> rfl
  | .tuple _, _, h => by obtain ⟨p, vs, rfl, _⟩ := h.tup; rfl
  | .dict _, _, h => by rcases h with ⟨a, xs, rfl, _⟩ | ⟨p, vs, ds, rfl, _⟩ | ⟨p, vs, ds, rfl, _⟩ <;> rfl
theorem kIsN_mono {f} : Mono1 (kIsN f) := fun x Q Q' h q => h _ q
theorem de_isN {j : Nat} {p2 : Pos} (ha : RE X e M a ta) : DE X e M (.Compare a [.Is] [.Constant .none j p2] pos) (t1 (kIsN id) ta) :=
  ⟨pe_imp (pe_cmp (pc_isN ha.pe)) fun σ H Q ⟨g, F, ρ, sr, q⟩ => ⟨g, F, ρ, sr, ha.mono ρ _ _ (fun d hd F1 H1 v s rv => by show Q (V.bl (decide (v = V.non))) H1; rw [rd_non rv]; exact hd F1 H1 _ s rfl) q⟩, t1_mono kIsN_mono ha.mono⟩
theorem de_notN {j : Nat} {p2 : Pos} (ha : RE X e M a ta) : DE X e M (.Compare a [.IsNot] [.Constant .none j p2] pos) (t1 (kIsN not) ta) :=
  ⟨pe_imp (pe_cmp (pc_notN ha.pe)) fun σ H Q ⟨g, F, ρ, sr, q⟩ => ⟨g, F, ρ, sr, ha.mono ρ _ _ (fun d hd F1 H1 v s rv => by show Q (V.bl (!decide (v = V.non))) H1; rw [rd_non rv]; exact hd F1 H1 _ s rfl) q⟩, t1_mono kIsN_mono ha.mono⟩
end
end PP

set_option Elab.async false
set_option linter.all false
set_option maxRecDepth 100000
set_option maxHeartbeats 4000000
namespace PP
open PySem PySem.Spec PyProof.Rows L2

section
variable {X : Cx} {e : Ent} {M : List Md} {x a b c : Expr} {xs : List Expr} {t ta tb tc : DT} {pos : Pos}

/-! ### x[i] -/
def kIx : K2 := fun x y Q => match x, y with
  | .list xs, .int i => (match atI xs i with | some d => Q d | none => False)
  | .tuple xs, .int i => (match atI xs i with | some d => Q d | none => False)
  | _, _ => False
theorem kIx_mono : Mono2 kIx := fun x y Q Q' h q => by
  unfold kIx at q ⊢
  split at q
  · split at q
    · exact h _ q
    · exact q.elim
  · split at q
    · exact h _ q
    · exact q.elim
  · exact q.elim
theorem RpL.atI {K : PySem.W.Frag} {H : Hp} {ds : List D} {vs : List V} {i : Int} {d : D} (r : RpL K H ds vs) (h : L2.atI ds i = some d) : ∃ v, L2.atI vs i = some v ∧ Rp K H d v := by
  unfold L2.atI at h ⊢
  rw [r.length]
  cases q : ixN ds.length i with
  | none => rw [q] at h; cases h
  | some j =>
    rw [q] at h
    exact r.get (i := j) h
theorem says_ix : Says2 X (rIx X.K) kIx := by
  intro g F H dx dy x y Qv q bs rx ry hk k
  unfold kIx at hk
  split at hk
  · split at hk
    · rename_i d hd
      obtain ⟨p, vs, rfl, hp, m, r⟩ := rx.lst bs
      obtain ⟨v, hv, rv⟩ := r.atI hd
      exact .inl ⟨p, vs, _, v, rfl, ry.int, .inl (.inl hp), hv, k _ F H v hk bs.refl rv⟩
    · exact hk.elim
  · split at hk
    · rename_i d hd
      obtain ⟨p, vs, rfl, hp, r⟩ := rx.tup
      obtain ⟨v, hv, rv⟩ := r.atI hd
      exact .inr (.inl ⟨p, vs, _, v, rfl, ry.int, bs.sub.sqT hp, hv, k _ F H v hk bs.refl rv⟩)
    · exact hk.elim
  · exact hk.elim
theorem de_item (ha : RE X e M a ta) (hb : RE X e M b tb) (hp : PlainIx b) : DE X e M (.Subscript a b pos) (t2 kIx ta tb) := de_ix ix_seq says_ix kIx_mono ha hb hp

/-! ### x in xs -/
def flatD : D → Bool
  | .none => true | .bool _ => true | .int _ => true | .str _ => true | _ => false
def vOf : D → V
  | .none => .non | .bool b => .bl b | .int i => .int i | .str x => .str x | _ => .non
theorem Rp.vOf {K : PySem.W.Frag} {H : Hp} : ∀ {d : D} {v : V}, Rp K H d v → flatD d = true → v = vOf d ∧ flatV v = true
  | .none, v, h, _ => by have h : v = .non := h; subst h; exact ⟨rfl, rfl⟩
  | .bool _, v, h, _ => by have h : v = .bl _ := h; subst h; exact ⟨rfl, rfl⟩
  | .int _, v, h, _ => by have h : v = .int _ := h; subst h; exact ⟨rfl, rfl⟩
  | .str _, v, h, _ => by have h : v = .str _ := h; subst h; exact ⟨rfl, rfl⟩
  | .list _, _, _, h => by cases h
  | .tuple _, _, _, h => by cases h
  | .dict _, _, _, h => by cases h
theorem RpL.flat {K : PySem.W.Frag} {H : Hp} : ∀ {ds : List D} {vs : List V}, RpL K H ds vs → ds.all flatD = true → vs = ds.map vOf ∧ vs.all flatV = true
  | [], _, h, _ => by have h : _ = [] := h; subst h; exact ⟨rfl, rfl⟩
  | d :: ds, _, ⟨x, xs, e, h, t⟩, q => by
    subst e
    rw [List.all_cons, Bool.and_eq_true] at q
    obtain ⟨h1, h2⟩ := h.vOf q.1
    obtain ⟨h3, h4⟩ := RpL.flat t q.2
    exact ⟨by rw [List.map_cons, ← h1, ← h3], by rw [List.all_cons, h2, h4]; rfl⟩
def memD (x : D) (xs : List D) : Bool := inV (vOf x) (xs.map vOf)
def kIn (f : Bool → Bool) : K2 := fun x y Q => match y with
  | .list ys => (flatD x = true ∧ ys.all flatD = true) ∧ Q (.bool (f (memD x ys)))
  | .tuple ys => (flatD x = true ∧ ys.all flatD = true) ∧ Q (.bool (f (memD x ys)))
  | _ => False
theorem kIn_mono {f} : Mono2 (kIn f) := fun x y Q Q' h q => by
  unfold kIn at q ⊢
  split at q
  · exact ⟨q.1, h _ q.2⟩
  · exact ⟨q.1, h _ q.2⟩
  · exact q.elim
theorem flat_plain {d : D} (h : flatD d = true) : D.plainK d = true := by cases d <;> first | rfl | cases h
theorem says_in {neg : Bool} {f : Bool → Bool} (hf : ∀ b, (if neg then !b else b) = f b) : Says2 X (rIn X.K neg) (kIn f) := by
  intro g F H dx dy x y Qv q bs rx ry hk k
  unfold kIn at hk
  split at hk
  · obtain ⟨p, vs, rfl, hp, m, r⟩ := ry.lst bs
    obtain ⟨e1, e2⟩ := (rx.rp (flat_plain hk.1.1)).vOf hk.1.1
    obtain ⟨e3, e4⟩ := r.flat hk.1.2
    refine ⟨p, vs, rfl, .inl (.inl (.inl hp)), e2, e4, ?_⟩
    rw [hf, e1, e3]
    exact k _ F H _ hk.2 bs.refl rfl
  · obtain ⟨p, vs, rfl, hp, r⟩ := ry.tup
    obtain ⟨e1, e2⟩ := (rx.rp (flat_plain hk.1.1)).vOf hk.1.1
    obtain ⟨e3, e4⟩ := r.flat hk.1.2
    refine ⟨p, vs, rfl, .inr (bs.sub.sqT hp), e2, e4, ?_⟩
    rw [hf, e1, e3]
    exact k _ F H _ hk.2 bs.refl rfl
  · exact hk.elim
theorem de_in (ha : RE X e M a ta) (hb : RE X e M b tb) (hm : behindInMarks .In b = false := by rfl) : DE X e M (.Compare a [.In] [b] pos) (t2 (kIn id) ta tb) := de_cmp op_in_seq (says_in (neg := false) fun _ => rfl) kIn_mono ha hb hm
theorem de_notIn (ha : RE X e M a ta) (hb : RE X e M b tb) (hm : behindInMarks .NotIn b = false := by rfl) : DE X e M (.Compare a [.NotIn] [b] pos) (t2 (kIn not) ta tb) := de_cmp op_notIn_seq (says_in (neg := true) fun _ => rfl) kIn_mono ha hb hm

/-! ### displays -/
def tNilA : DA := fun _ Q => Q []
def tConsA (ta : DT) (tr : DA) : DA := fun ρ Q => ta ρ fun x => tr ρ fun xs => Q (x :: xs)
theorem ae_nil : AE X e M [] tNilA := ⟨pa_imp pa_nil fun σ H Q ⟨g, F, ρ, sr, q⟩ => q F H [] sr.bs.refl rfl, fun _ _ _ f q => f _ q⟩
theorem ae_cons {tr : DA} (ha : DE X e M a ta) (hr : AE X e M xs tr) (hs : starEach (a :: xs) X.env = (false, eval a X.env) :: starEach xs X.env := by rfl) : AE X e M (a :: xs) (tConsA ta tr) :=
  ⟨pa_imp (pa_cons ha.pe hr.pa hs) fun σ H Q ⟨g, F, ρ, sr, q⟩ => ⟨g, F, ρ, sr, ha.mono ρ _ _ (fun d hd F1 H1 v s1 r1 => ⟨g, F1, ρ, sr.step s1, hr.mono ρ _ _ (fun ds hq F2 H2 vs s2 r2 =>
    hq F2 H2 (v :: vs) (s1.trans s2) (.cons (r1.mono s2.mono) r2)) hd⟩) q⟩, fun ρ Q Q' f q => ha.mono ρ _ _ (fun x q => hr.mono ρ _ _ (fun xs q => f _ q) q) q⟩
def tTupD (t : DA) : DT := fun ρ Q => t ρ fun ds => ds.length ≤ sizeLine ∧ Q (.tuple ds)
def tLstD (t : DA) : DA := fun ρ Q => t ρ fun ds => ds.length ≤ sizeLine ∧ Q ds
theorem de_tup {x1 : Nat} {t : DA} (h : AE X e M xs t) : DE X e M (.Tuple xs x1 pos) (tTupD t) :=
  ⟨pe_imp (pe_tupP h.pa) fun σ H Q ⟨g, F, ρ, sr, q⟩ => ⟨g, F, ρ, sr, h.mono ρ _ _ (fun ds hd F1 H1 vs s r => ⟨by rw [r.length]; exact hd.1, fun p o hn hc hdn =>
    hd.2 (upd F1 p (.frz o (.tup vs))) _ _ (s.trans ((s.bs sr.bs).alloc hn _)) ⟨p, vs, rfl, FrT.new hc hdn, r.mono (.new (s.sub.none hn))⟩⟩) q⟩,
    fun ρ Q Q' f q => h.mono ρ _ _ (fun ds q => ⟨q.1, f _ q.2⟩) q⟩
theorem fe_lst {t : DA} (h : AE X e M xs t) : FE X e M (.List xs pos) (tLstD t) :=
  ⟨pe_imp (pe_lst h.pa) fun σ H Q ⟨g, F, ρ, sr, q⟩ => ⟨g, F, ρ, sr, h.mono ρ _ _ (fun ds hd F1 H1 vs s r => ⟨by rw [r.length]; exact hd.1, fun p hn =>
    hd.2 F1 _ p vs (s.trans ((s.bs sr.bs).hide hn _)) (s.old hn) (s.sub.none hn) upd_same r⟩) q⟩,
    fun ρ Q Q' f q => h.mono ρ _ _ (fun ds q => ⟨q.1, f _ q.2⟩) q⟩

/-! ### built-in functions -/
def RdRL (K : PySem.W.Frag) (g : Rg) (F H : Hp) : List D → List V → Prop
  | [], vs => vs = []
  | d :: ds, vs => ∃ x xs, vs = x :: xs ∧ RdR K g F H d x ∧ RdRL K g F H ds xs
theorem RdRL.step {K : PySem.W.Frag} {g : Rg} {F H F' H' : Hp} (s : Stp g F H F' H') : ∀ {ds : List D} {vs : List V}, RdRL K g F H ds vs → RdRL K g F' H' ds vs
  | [], _, h => h
  | _ :: _, _, ⟨x, xs, e, h, r⟩ => ⟨x, xs, e, h.step s, RdRL.step s r⟩
def rdRA (K : PySem.W.Frag) (e : Ent) (M : List Md) (t : DA) : TA := fun σ H Q => ∃ g F ρ, SR K e M g F H σ ρ ∧ t ρ fun ds => ∀ F' H' vs, Stp g F H F' H' → RdRL K g F' H' ds vs → Q vs H'
structure AR (X : Cx) (e : Ent) (M : List Md) (xs : List Expr) (t : DA) : Prop where
  pa : PA X xs (rdRA X.K e M t)
  mono : Mono t
theorem ar_nil : AR X e M [] tNilA := ⟨pa_imp pa_nil fun σ H Q ⟨g, F, ρ, sr, q⟩ => q F H [] sr.bs.refl rfl, fun _ _ _ f q => f _ q⟩
theorem ar_cons {tr : DA} (ha : RE X e M a ta) (hr : AR X e M xs tr) (hs : starEach (a :: xs) X.env = (false, eval a X.env) :: starEach xs X.env := by rfl) : AR X e M (a :: xs) (tConsA ta tr) :=
  ⟨pa_imp (pa_cons ha.pe hr.pa hs) fun σ H Q ⟨g, F, ρ, sr, q⟩ => ⟨g, F, ρ, sr, ha.mono ρ _ _ (fun d hd F1 H1 v s1 r1 => ⟨g, F1, ρ, sr.step s1, hr.mono ρ _ _ (fun ds hq F2 H2 vs s2 r2 =>
    hq F2 H2 (v :: vs) (s1.trans s2) ⟨v, vs, rfl, r1.step s2, r2⟩) hd⟩) q⟩, fun ρ Q Q' f q => ha.mono ρ _ _ (fun x q => hr.mono ρ _ _ (fun xs q => f _ q) q) q⟩
abbrev KC := List D → (D → Prop) → Prop
def tCl (k : KC) (t : DA) : DT := fun ρ Q => t ρ fun ds => k ds Q
def MonoC (k : KC) : Prop := ∀ ds (Q Q' : D → Prop), (∀ d, Q d → Q' d) → k ds Q → k ds Q'
def SaysC (X : Cx) (r : List V → Hp → VK → Prop) (k : KC) : Prop := ∀ g F H ds vs (Qv : VK) (q : D → Prop), Bs g F H → RdRL X.K g F H ds vs → k ds q →
  (∀ d F' H' v, q d → Stp g F H F' H' → Rp X.K F' d v → Qv v H') → r vs H Qv
theorem callC {r : List V → Hp → VK → Prop} {k : KC} {t : DA} (hs : SaysC X r k) (ha : AR X e M xs t) : ∀ σ H Q, rdE X.K e M (tCl k t) σ H Q → tCB r (rdRA X.K e M t) σ H Q := fun σ H Q ⟨g, F, ρ, sr, q⟩ =>
  ⟨g, F, ρ, sr, ha.mono ρ _ _ (fun ds hd F1 H1 vs s rv => hs g F1 H1 ds vs Q _ (s.bs sr.bs) rv hd fun d F' H' v q s' rv' => q F' H' v (s.trans s') rv') q⟩
theorem tCl_mono {k : KC} {t : DA} (hk : MonoC k) (ha : Mono t) : Mono (tCl k t) := fun ρ Q Q' f q => ha ρ _ _ (fun ds q => hk ds _ _ f q) q
section
variable {id T : String} {y : Str} {p : Pos} {r : List V → Hp → VK → Prop} {k : KC} {tA : DA}
theorem de_callB (hc : CallR X (.builtin id) r) (hs : SaysC X r k) (hk : MonoC k) (hg : Gl X y) (hm : X.mg y = none) (hv : bootBuiltins y = some (.builtin id)) (ha : AR X e M (a :: xs) tA) (hn : y ≠ "__name__" := by decide) (hdb : (y == ("__debug__" : Str)) = false := by decide)
    (he : starEach (a :: xs) X.env = (false, eval a X.env) :: starEach xs X.env := by rfl) (hpl : (backTo pos (starEach xs X.env)).any (·.1) = false := by rfl) : DE X e M (.Call (.Name y p) (a :: xs) [] pos) (tCl k tA) :=
  ⟨pe_imp (pe_callB hc hg hm hv ha.pa hn hdb he hpl) (callC hs ha), tCl_mono hk ha.mono⟩
theorem de_callT (hc : CallR X (.type T) r) (hs : SaysC X r k) (hk : MonoC k) (hg : Gl X y) (hm : X.mg y = none) (hv : bootBuiltins y = some (.type T)) (ha : AR X e M (a :: xs) tA) (hn : y ≠ "__name__" := by decide) (hdb : (y == ("__debug__" : Str)) = false := by decide)
    (he : starEach (a :: xs) X.env = (false, eval a X.env) :: starEach xs X.env := by rfl) (hpl : (backTo pos (starEach xs X.env)).any (·.1) = false := by rfl) : DE X e M (.Call (.Name y p) (a :: xs) [] pos) (tCl k tA) :=
  ⟨pe_imp (pe_callTy hc hg hm hv ha.pa hn hdb he hpl) (callC hs ha), tCl_mono hk ha.mono⟩
end
theorem callOr {f : Value} {r r' : List V → Hp → VK → Prop} (h : CallR X f r) (h' : CallR X f r') : CallR X f (fun xs H Q => r xs H Q ∨ r' xs H Q) := h.or h'

def kLen : KC := fun ds Q => match ds with
  | [.list xs] => Q (.int xs.length)
  | [.tuple xs] => Q (.int xs.length)
  | _ => False
theorem kLen_mono : MonoC kLen := fun ds Q Q' f q => by
  unfold kLen at q ⊢
  split at q
  · exact f _ q
  · exact f _ q
  · exact q.elim
theorem RdRL.one {K : PySem.W.Frag} {g : Rg} {F H : Hp} {d : D} {vs : List V} (h : RdRL K g F H [d] vs) : ∃ v, vs = [v] ∧ RdR K g F H d v := by
  obtain ⟨x, xs, e, h, r⟩ := h
  have r : xs = [] := r
  subst r
  exact ⟨x, e, h⟩
theorem RdRL.two {K : PySem.W.Frag} {g : Rg} {F H : Hp} {d d' : D} {vs : List V} (h : RdRL K g F H [d, d'] vs) : ∃ v v', vs = [v, v'] ∧ RdR K g F H d v ∧ RdR K g F H d' v' := by
  obtain ⟨x, xs, e, h, r⟩ := h
  obtain ⟨y, rfl, h'⟩ := RdRL.one r
  exact ⟨x, y, e, h, h'⟩
theorem says_len : SaysC X (fun xs H Q => ∃ p ys, xs = [.ref p] ∧ (SqL X.K H p ys ∨ SqT X.K H p ys) ∧ Q (.int ys.length) H) kLen := by
  intro g F H ds vs Qv q bs rv hk k
  unfold kLen at hk
  split at hk
  · obtain ⟨v, rfl, r⟩ := rv.one
    obtain ⟨p, vs, rfl, hp, m, r⟩ := r.lst bs
    refine ⟨p, vs, rfl, .inl (.inl (.inl hp)), ?_⟩
    rw [r.length]
    exact k _ F H _ hk bs.refl rfl
  · obtain ⟨v, rfl, r⟩ := rv.one
    obtain ⟨p, vs, rfl, hp, r⟩ := r.tup
    refine ⟨p, vs, rfl, .inr (bs.sub.sqT hp), ?_⟩
    rw [r.length]
    exact k _ F H _ hk bs.refl rfl
  · exact hk.elim
def kInt : KC := fun ds Q => match ds with
  | [.int i] => Q (.int i)
  | _ => False
theorem kInt_mono : MonoC kInt := fun ds Q Q' f q => by
  unfold kInt at q ⊢
  split at q
  · exact f _ q
  · exact q.elim
theorem says_int : SaysC X (fun xs H Q => (∃ i, xs = [.int i] ∧ Q (.int i) H) ∨ ∃ k, xs = [.bl k] ∧ Q (.int (if k then 1 else 0)) H) kInt := by
  intro g F H ds vs Qv q bs rv hk k
  unfold kInt at hk
  split at hk
  · obtain ⟨v, rfl, r⟩ := rv.one
    exact .inl ⟨_, by rw [r.int], k _ F H _ hk bs.refl rfl⟩
  · exact hk.elim
def kAbs : KC := fun ds Q => match ds with
  | [.int i] => Q (.int (if i < 0 then -i else i))
  | _ => False
theorem kAbs_mono : MonoC kAbs := fun ds Q Q' f q => by
  unfold kAbs at q ⊢
  split at q
  · exact f _ q
  · exact q.elim
theorem says_abs : SaysC X (fun xs H Q => ∃ i, xs = [.int i] ∧ Q (.int (if i < 0 then -i else i)) H) kAbs := by
  intro g F H ds vs Qv q bs rv hk k
  unfold kAbs at hk
  split at hk
  · obtain ⟨v, rfl, r⟩ := rv.one
    exact ⟨_, by rw [r.int], k _ F H _ hk bs.refl rfl⟩
  · exact hk.elim
def kMax2 : KC := fun ds Q => match ds with
  | [.int i, .int j] => Q (.int (if j > i then j else i))
  | _ => False
theorem kMax2_mono : MonoC kMax2 := fun ds Q Q' f q => by
  unfold kMax2 at q ⊢
  split at q
  · exact f _ q
  · exact q.elim
theorem says_max2 : SaysC X (fun xs H Q => ∃ i j, xs = [.int i, .int j] ∧ Q (.int (if j > i then j else i)) H) kMax2 := by
  intro g F H ds vs Qv q bs rv hk k
  unfold kMax2 at hk
  split at hk
  · obtain ⟨v, v', rfl, r, r'⟩ := rv.two
    exact ⟨_, _, by rw [r.int, r'.int], k _ F H _ hk bs.refl rfl⟩
  · exact hk.elim
/-- tuple(x) -/
def kTupl : KC := fun ds Q => match ds with
  | [.list xs] => Q (.tuple xs)
  | [.tuple xs] => Q (.tuple xs)
  | _ => False
theorem kTupl_mono : MonoC kTupl := fun ds Q Q' f q => by
  unfold kTupl at q ⊢
  split at q
  · exact f _ q
  · exact f _ q
  · exact q.elim
theorem says_tupl : SaysC X (fun xs H Q => rTupP X.K xs H Q) kTupl := by
  intro g F H ds vs Qv q bs rv hk k
  unfold kTupl at hk
  split at hk
  · obtain ⟨v, rfl, r⟩ := rv.one
    obtain ⟨p, vs, rfl, hp, m, r⟩ := r.lst bs
    exact ⟨p, vs, rfl, .inl ⟨.inl (.inl hp), fun l o hn hc hd => k _ (upd F l (.frz o (.tup vs))) _ _ hk (bs.alloc hn _) ⟨l, vs, rfl, FrT.new hc hd, r.mono (.new (bs.sub.none hn))⟩⟩⟩
  · obtain ⟨v, rfl, r⟩ := rv.one
    obtain ⟨p, vs, rfl, hp, r⟩ := r.tup
    exact ⟨p, vs, rfl, .inr ⟨bs.sub.sqT hp, k _ F H _ hk bs.refl ⟨p, vs, rfl, hp, r⟩⟩⟩
  · exact hk.elim
/-- all, any of a list of bools -/
def bools : List D → Option (List Bool)
  | [] => some []
  | .bool b :: r => (bools r).map (b :: ·)
  | _ :: _ => none
theorem bools_map {ds : List D} {bs : List Bool} (h : bools ds = some bs) : ds = bs.map PyData.bool := by
  induction ds generalizing bs with
  | nil => cases h; rfl
  | cons d ds ih =>
    cases d <;> first
      | (unfold bools at h
         cases q : bools ds with
         | none => rw [q] at h; cases h
         | some cs => rw [q] at h; cases h; rw [ih q]; rfl)
      | cases h
theorem bools_of (bs : List Bool) : bools (bs.map PyData.bool) = some bs := by
  induction bs with
  | nil => rfl
  | cons b bs ih => simp [bools, ih]
def kAll : KC := fun ds Q => match ds with
  | [.list xs] => (match bools xs with | some bs => Q (.bool (bs.all id)) | none => False)
  | _ => False
def kAny : KC := fun ds Q => match ds with
  | [.list xs] => (match bools xs with | some bs => Q (.bool (bs.any id)) | none => False)
  | _ => False
theorem kAll_mono : MonoC kAll := fun ds Q Q' f q => by
  unfold kAll at q ⊢
  split at q
  · split at q
    · exact f _ q
    · exact q.elim
  · exact q.elim
theorem kAny_mono : MonoC kAny := fun ds Q Q' f q => by
  unfold kAny at q ⊢
  split at q
  · split at q
    · exact f _ q
    · exact q.elim
  · exact q.elim
theorem says_all : SaysC X (rAll X.K) kAll := by
  intro g F H ds vs Qv q bs rv hk k
  unfold kAll at hk
  split at hk
  · split at hk
    · rename_i xs bl hb
      obtain ⟨v, rfl, r⟩ := rv.one
      obtain ⟨p, vs, rfl, hp, m, r⟩ := r.lst bs
      rw [bools_map hb] at r
      refine ⟨p, bl, rfl, .inl (.inl ?_), k _ F H _ hk bs.refl rfl⟩
      rw [← r.bools_inv]; exact hp
    · exact hk.elim
  · exact hk.elim
theorem says_any : SaysC X (rAny X.K) kAny := by
  intro g F H ds vs Qv q bs rv hk k
  unfold kAny at hk
  split at hk
  · split at hk
    · rename_i xs bl hb
      obtain ⟨v, rfl, r⟩ := rv.one
      obtain ⟨p, vs, rfl, hp, m, r⟩ := r.lst bs
      rw [bools_map hb] at r
      refine ⟨p, bl, rfl, .inl (.inl ?_), k _ F H _ hk bs.refl rfl⟩
      rw [← r.bools_inv]; exact hp
    · exact hk.elim
  · exact hk.elim
end
section
variable {X : Cx} {e : Ent} {M : List Md} {a b c : Expr} {xs : List Expr} {tA : DA} {ta tb tc : DT} {pos p : Pos}
theorem de_len (hg : Gl X "len") (hm : X.mg "len" = none) (ha : AR X e M (a :: xs) tA) (he : starEach (a :: xs) X.env = (false, eval a X.env) :: starEach xs X.env := by rfl) (hpl : (backTo pos (starEach xs X.env)).any (·.1) = false := by rfl) :
    DE X e M (.Call (.Name "len" p) (a :: xs) [] pos) (tCl kLen tA) := de_callB call_len_seq says_len kLen_mono hg hm PySem.boot_len ha (he := he) (hpl := hpl)
theorem de_abs (hg : Gl X "abs") (hm : X.mg "abs" = none) (ha : AR X e M (a :: xs) tA) (he : starEach (a :: xs) X.env = (false, eval a X.env) :: starEach xs X.env := by rfl) (hpl : (backTo pos (starEach xs X.env)).any (·.1) = false := by rfl) :
    DE X e M (.Call (.Name "abs" p) (a :: xs) [] pos) (tCl kAbs tA) := de_callB call_abs says_abs kAbs_mono hg hm (by decide +kernel) ha (he := he) (hpl := hpl)
theorem de_max2 (hc : X.calm = true) (hg : Gl X "max") (hm : X.mg "max" = none) (ha : AR X e M (a :: xs) tA) (he : starEach (a :: xs) X.env = (false, eval a X.env) :: starEach xs X.env := by rfl) (hpl : (backTo pos (starEach xs X.env)).any (·.1) = false := by rfl) :
    DE X e M (.Call (.Name "max" p) (a :: xs) [] pos) (tCl kMax2 tA) := de_callB (call_max2 hc) says_max2 kMax2_mono hg hm (by decide +kernel) ha (he := he) (hpl := hpl)
theorem de_toInt (hg : Gl X "int") (hm : X.mg "int" = none) (ha : AR X e M (a :: xs) tA) (he : starEach (a :: xs) X.env = (false, eval a X.env) :: starEach xs X.env := by rfl) (hpl : (backTo pos (starEach xs X.env)).any (·.1) = false := by rfl) :
    DE X e M (.Call (.Name "int" p) (a :: xs) [] pos) (tCl kInt tA) := de_callT call_int1 says_int kInt_mono hg hm (by decide +kernel) ha (he := he) (hpl := hpl)
theorem de_tuple (hg : Gl X "tuple") (hm : X.mg "tuple" = none) (ha : AR X e M (a :: xs) tA) (he : starEach (a :: xs) X.env = (false, eval a X.env) :: starEach xs X.env := by rfl) (hpl : (backTo pos (starEach xs X.env)).any (·.1) = false := by rfl) :
    DE X e M (.Call (.Name "tuple" p) (a :: xs) [] pos) (tCl kTupl tA) := de_callT cr_tupP says_tupl kTupl_mono hg hm (by decide +kernel) ha (he := he) (hpl := hpl)
theorem de_all (hc : X.calm = true) (hg : Gl X "all") (hm : X.mg "all" = none) (ha : AR X e M (a :: xs) tA) (he : starEach (a :: xs) X.env = (false, eval a X.env) :: starEach xs X.env := by rfl) (hpl : (backTo pos (starEach xs X.env)).any (·.1) = false := by rfl) :
    DE X e M (.Call (.Name "all" p) (a :: xs) [] pos) (tCl kAll tA) := de_callB (cr_all hc) says_all kAll_mono hg hm (by decide +kernel) ha (he := he) (hpl := hpl)
theorem de_any (hc : X.calm = true) (hg : Gl X "any") (hm : X.mg "any" = none) (ha : AR X e M (a :: xs) tA) (he : starEach (a :: xs) X.env = (false, eval a X.env) :: starEach xs X.env := by rfl) (hpl : (backTo pos (starEach xs X.env)).any (·.1) = false := by rfl) :
    DE X e M (.Call (.Name "any" p) (a :: xs) [] pos) (tCl kAny tA) := de_callB (cr_any hc) says_any kAny_mono hg hm (by decide +kernel) ha (he := he) (hpl := hpl)
/-- list(x): a new one -/
def kListF : List D → (List D → Prop) → Prop := fun ds Q => match ds with
  | [.list xs] => Q xs
  | [.tuple xs] => Q xs
  | _ => False
theorem fe_list (hg : Gl X "list") (hm : X.mg "list" = none) (ha : AR X e M (a :: xs) tA) (he : starEach (a :: xs) X.env = (false, eval a X.env) :: starEach xs X.env := by rfl) (hpl : (backTo pos (starEach xs X.env)).any (·.1) = false := by rfl) :
    FE X e M (.Call (.Name "list" p) (a :: xs) [] pos) (fun ρ Q => tA ρ fun ds => kListF ds Q) :=
  ⟨pe_imp (pe_callTy call_list_of hg hm (by decide +kernel) ha.pa (he := he) (hpl := hpl)) fun σ H Q ⟨g, F, ρ, sr, q⟩ => ⟨g, F, ρ, sr, ha.mono ρ _ _ (fun ds hd F1 H1 vs s rv => by
    have bs := s.bs sr.bs
    unfold kListF at hd
    split at hd
    · obtain ⟨v, rfl, r⟩ := rv.one
      obtain ⟨p, vs, rfl, hp, m, r⟩ := r.lst bs
      exact ⟨p, vs, rfl, .inl (.inl (.inl hp)), fun l hn => hd F1 _ l vs (s.trans (bs.hide hn _)) (s.old hn) (s.sub.none hn) upd_same r⟩
    · obtain ⟨v, rfl, r⟩ := rv.one
      obtain ⟨p, vs, rfl, hp, r⟩ := r.tup
      exact ⟨p, vs, rfl, .inr (bs.sub.sqT hp), fun l hn => hd F1 _ l vs (s.trans (bs.hide hn _)) (s.old hn) (s.sub.none hn) upd_same r⟩
    · exact hd.elim) q⟩, fun ρ Q Q' f q => ha.mono ρ _ _ (fun ds q => by
    unfold kListF at q ⊢
    split at q
    · exact f _ q
    · exact f _ q
    · exact q.elim) q⟩
end
end PP

set_option Elab.async false
set_option linter.all false
set_option maxRecDepth 100000
set_option maxHeartbeats 4000000
namespace PP
open PySem PySem.Spec PyProof.Rows L2

section
variable {X : Cx} {e : Ent} {M : List Md} {x a b c : Expr} {xs : List Expr} {t ta tb tc : DT} {tA tB' : DB} {pos p : Pos}

/-! ### tests -/
def tTst (t : DT) : DB := fun ρ Q => t ρ fun d => match d with | .bool b => Q b | _ => False
theorem tTst_mono (h : Mono t) : Mono (tTst t) := fun ρ Q Q' f q => h ρ _ _ (fun d q => by
  split at q
  · exact f _ q
  · exact q.elim) q
theorem dc_val (h : DE X e M x t) (he : ∀ whole, isTrue x X.env whole = (do let v ← whole; standAt x.pos; holding [v] (truthy v)) := by intro _; rfl) : DC X e M x (tTst t) :=
  ⟨pt_imp (pt_val h.pe he) fun σ H Q ⟨g, F, ρ, sr, q⟩ => ⟨g, F, ρ, sr, h.mono ρ _ _ (fun d hd F1 H1 v s rv => by
    split at hd
    · exact ⟨_, rv, hd F1 H1 s⟩
    · exact hd.elim) q⟩, tTst_mono h.mono⟩
theorem dc_cmp {op : CmpOp} {r : R2} {k : K2} (ho : OpR X (compareOp op) r) (hs : Says2 X r k) (hk : Mono2 k) (ha : RE X e M a ta) (hb : RE X e M b tb) (hm : behindInMarks op b = false) : DC X e M (.Compare a [op] [b] pos) (tTst (t2 k ta tb)) :=
  ⟨pt_imp (pt_cmpR ho ha.pe hb.pe hm) fun σ H Q ⟨g, F, ρ, sr, q⟩ => by
    have q' : rdE X.K e M (t2 k ta tb) σ H (fun v H' => ∃ b, v = .bl b ∧ Q b H') := ⟨g, F, ρ, sr, t2_mono hk ha.mono hb.mono ρ _ _ (fun d hd F1 H1 v s rv => by
      split at hd
      · exact ⟨_, rv, hd F1 H1 s⟩
      · exact hd.elim) q⟩
    exact op2 ha hb hs σ H _ q', tTst_mono (t2_mono hk ha.mono hb.mono)⟩
theorem dc_lt (ha : RE X e M a ta) (hb : RE X e M b tb) : DC X e M (.Compare a [.Lt] [b] pos) (tTst (t2 kLt ta tb)) := dc_cmp op_lt (says_I0 fun _ _ _ => rfl) kI_mono ha hb (nm (by decide) (by decide))
theorem dc_le (ha : RE X e M a ta) (hb : RE X e M b tb) : DC X e M (.Compare a [.LtE] [b] pos) (tTst (t2 kLe ta tb)) := dc_cmp op_le (says_I0 fun _ _ _ => rfl) kI_mono ha hb (nm (by decide) (by decide))
theorem dc_gt (ha : RE X e M a ta) (hb : RE X e M b tb) : DC X e M (.Compare a [.Gt] [b] pos) (tTst (t2 kGt ta tb)) := dc_cmp op_gt (says_I0 fun _ _ _ => rfl) kI_mono ha hb (nm (by decide) (by decide))
theorem dc_ge (ha : RE X e M a ta) (hb : RE X e M b tb) : DC X e M (.Compare a [.GtE] [b] pos) (tTst (t2 kGe ta tb)) := dc_cmp op_ge (says_I0 fun _ _ _ => rfl) kI_mono ha hb (nm (by decide) (by decide))
theorem dc_eq (hu : X.A.units + 64 < cLine) (ha : RE X e M a ta) (hb : RE X e M b tb) : DC X e M (.Compare a [.Eq] [b] pos) (tTst (t2 (kEq id) ta tb)) := dc_cmp (op_eqX hu) says_eq kEq_mono ha hb (nm (by decide) (by decide))
theorem dc_ne (hu : X.A.units + 64 < cLine) (ha : RE X e M a ta) (hb : RE X e M b tb) : DC X e M (.Compare a [.NotEq] [b] pos) (tTst (t2 (kEq not) ta tb)) := dc_cmp (op_neX hu) says_eq kEq_mono ha hb (nm (by decide) (by decide))
theorem dc_in (ha : RE X e M a ta) (hb : RE X e M b tb) (hm : behindInMarks .In b = false := by rfl) : DC X e M (.Compare a [.In] [b] pos) (tTst (t2 (kIn id) ta tb)) := dc_cmp op_in_seq (says_in (neg := false) fun _ => rfl) kIn_mono ha hb hm
theorem dc_notIn (ha : RE X e M a ta) (hb : RE X e M b tb) (hm : behindInMarks .NotIn b = false := by rfl) : DC X e M (.Compare a [.NotIn] [b] pos) (tTst (t2 (kIn not) ta tb)) := dc_cmp op_notIn_seq (says_in (neg := true) fun _ => rfl) kIn_mono ha hb hm
theorem dc_isN {j : Nat} {p2 : Pos} (ha : RE X e M a ta) : DC X e M (.Compare a [.Is] [.Constant .none j p2] pos) (tTst (t1 (kIsN id) ta)) :=
  ⟨pt_imp (pt_cmp (pc_isN ha.pe)) fun σ H Q ⟨g, F, ρ, sr, q⟩ => ⟨g, F, ρ, sr, ha.mono ρ _ _ (fun d hd F1 H1 v s rv => by
    show ∃ c, V.bl (decide (v = V.non)) = .bl c ∧ Q c H1
    rw [rd_non rv]; exact ⟨_, rfl, hd F1 H1 s⟩) q⟩, tTst_mono (t1_mono kIsN_mono ha.mono)⟩
theorem dc_notN {j : Nat} {p2 : Pos} (ha : RE X e M a ta) : DC X e M (.Compare a [.IsNot] [.Constant .none j p2] pos) (tTst (t1 (kIsN not) ta)) :=
  ⟨pt_imp (pt_cmp (pc_notN ha.pe)) fun σ H Q ⟨g, F, ρ, sr, q⟩ => ⟨g, F, ρ, sr, ha.mono ρ _ _ (fun d hd F1 H1 v s rv => by
    show ∃ c, V.bl (!decide (v = V.non)) = .bl c ∧ Q c H1
    rw [rd_non rv]; exact ⟨_, rfl, hd F1 H1 s⟩) q⟩, tTst_mono (t1_mono kIsN_mono ha.mono)⟩
/-- truth -/
def tTru (t : DT) : DB := fun ρ Q => t ρ fun d => match d with
  | .none => Q false
  | .bool b => Q b
  | .int i => Q (i != 0)
  | .list xs => Q (!xs.isEmpty)
  | .tuple xs => Q (!xs.isEmpty)
  | _ => False
theorem RpL.empty {K : PySem.W.Frag} {H : Hp} {ds : List D} {vs : List V} (r : RpL K H ds vs) : vs.isEmpty = ds.isEmpty := by
  cases ds with
  | nil => have r : vs = [] := r; subst r; rfl
  | cons d ds => obtain ⟨x, xs, rfl, _⟩ := r; rfl
theorem dc_truth (h : RE X e M x t) (he : ∀ whole, isTrue x X.env whole = (do let v ← whole; standAt x.pos; holding [v] (truthy v)) := by intro _; rfl) : DC X e M x (tTru t) :=
  ⟨pt_imp (pt_truth h.pe he) fun σ H Q ⟨g, F, ρ, sr, q⟩ => ⟨g, F, ρ, sr, h.mono ρ _ _ (fun d hd F1 H1 v s rv => by
    have bs := s.bs sr.bs
    split at hd
    · rw [rv.non]; exact ⟨_, rfl, hd F1 H1 s⟩
    · rw [rv.bool]; exact ⟨_, rfl, hd F1 H1 s⟩
    · rw [rv.int]; exact ⟨_, rfl, hd F1 H1 s⟩
    · obtain ⟨p, vs, rfl, hp, m, r⟩ := rv.lst bs
      exact ⟨_, .inl ⟨vs, .inl (.inl hp), by rw [r.empty]⟩, hd F1 H1 s⟩
    · obtain ⟨p, vs, rfl, hp, r⟩ := rv.tup
      exact ⟨_, .inr (.inl ⟨vs, bs.sub.sqT hp, by rw [r.empty]⟩), hd F1 H1 s⟩
    · exact hd.elim) q⟩, fun ρ Q Q' f q => h.mono ρ _ _ (fun d q => by
      split at q
      · exact f _ q
      · exact f _ q
      · exact f _ q
      · exact f _ q
      · exact f _ q
      · exact q.elim) q⟩
def tAndD (t u : DB) : DB := fun ρ Q => t ρ fun b => if b = true then u ρ Q else Q false
def tOrD (t u : DB) : DB := fun ρ Q => t ρ fun b => if b = true then Q true else u ρ Q
theorem DW.dc (h : DW X e M x tA) : DC X e M x tA := ⟨h.pw.pt, h.mono⟩
theorem dw_and1 (ha : DC X e M a tA) : DW X e M (.BoolOp .And [a] pos) tA := ⟨pw_and1 ha.pt, ha.mono⟩
theorem dw_or1 (ha : DC X e M a tA) : DW X e M (.BoolOp .Or [a] pos) tA := ⟨pw_or1 ha.pt, ha.mono⟩
theorem dw_and {rest : List Expr} (ha : DC X e M a tA) (hb : DW X e M (.BoolOp .And (b :: rest) pos) tB') : DW X e M (.BoolOp .And (a :: b :: rest) pos) (tAndD tA tB') :=
  ⟨pw_imp (pw_and ha.pt hb.pw) fun σ H Q ⟨g, F, ρ, sr, q⟩ => ⟨g, F, ρ, sr, ha.mono ρ _ _ (fun k hk F1 H1 s => by
    cases k with
    | true => exact ⟨g, F1, ρ, sr.step s, hb.mono ρ _ _ (fun k hk F2 H2 s2 => hk F2 H2 (s.trans s2)) hk⟩
    | false => exact hk F1 H1 s) q⟩, fun ρ Q Q' f q => ha.mono ρ _ _ (fun k q => by
    cases k with
    | true => exact hb.mono ρ _ _ f q
    | false => exact f _ q) q⟩
theorem dw_or {rest : List Expr} (ha : DC X e M a tA) (hb : DW X e M (.BoolOp .Or (b :: rest) pos) tB') : DW X e M (.BoolOp .Or (a :: b :: rest) pos) (tOrD tA tB') :=
  ⟨pw_imp (pw_or ha.pt hb.pw) fun σ H Q ⟨g, F, ρ, sr, q⟩ => ⟨g, F, ρ, sr, ha.mono ρ _ _ (fun k hk F1 H1 s => by
    cases k with
    | true => exact hk F1 H1 s
    | false => exact ⟨g, F1, ρ, sr.step s, hb.mono ρ _ _ (fun k hk F2 H2 s2 => hk F2 H2 (s.trans s2)) hk⟩) q⟩, fun ρ Q Q' f q => ha.mono ρ _ _ (fun k q => by
    cases k with
    | true => exact f _ q
    | false => exact hb.mono ρ _ _ f q) q⟩
theorem dc_not (ha : DC X e M a tA) : DC X e M (.UnaryOp .Not a pos) (fun ρ Q => tA ρ fun b => Q (!b)) :=
  ⟨pt_imp (pt_not ha.pt) fun σ H Q ⟨g, F, ρ, sr, q⟩ => ⟨g, F, ρ, sr, q⟩, fun ρ Q Q' f q => ha.mono ρ _ _ (fun b q => f _ q) q⟩
/-- as values -/
def tAndE (ta tb : DT) : DT := fun ρ Q => ta ρ fun d => match d with | .bool true => tb ρ Q | .bool false => Q (.bool false) | _ => False
def tOrE (ta tb : DT) : DT := fun ρ Q => ta ρ fun d => match d with | .bool false => tb ρ Q | .bool true => Q (.bool true) | _ => False
theorem de_one {op : BoolOp} (h : DE X e M a t) : DE X e M (.BoolOp op [a] pos) t := ⟨pe_one h.pe, h.mono⟩
theorem de_and {rest : List Expr} (ha : DE X e M a ta) (hb : DE X e M (.BoolOp .And (b :: rest) pos) tb) : DE X e M (.BoolOp .And (a :: b :: rest) pos) (tAndE ta tb) :=
  ⟨pe_imp (pe_and ha.pe hb.pe) fun σ H Q ⟨g, F, ρ, sr, q⟩ => ⟨g, F, ρ, sr, ha.mono ρ _ _ (fun d hd F1 H1 v s rv => by
    split at hd
    · exact ⟨true, rv, ⟨g, F1, ρ, sr.step s, hb.mono ρ _ _ (fun k hk F2 H2 v s2 => hk F2 H2 v (s.trans s2)) hd⟩⟩
    · exact ⟨false, rv, hd F1 H1 _ s rfl⟩
    · exact hd.elim) q⟩, fun ρ Q Q' f q => ha.mono ρ _ _ (fun d q => by
    split at q
    · exact hb.mono ρ _ _ f q
    · exact f _ q
    · exact q.elim) q⟩
theorem de_or {rest : List Expr} (ha : DE X e M a ta) (hb : DE X e M (.BoolOp .Or (b :: rest) pos) tb) : DE X e M (.BoolOp .Or (a :: b :: rest) pos) (tOrE ta tb) :=
  ⟨pe_imp (pe_or ha.pe hb.pe) fun σ H Q ⟨g, F, ρ, sr, q⟩ => ⟨g, F, ρ, sr, ha.mono ρ _ _ (fun d hd F1 H1 v s rv => by
    split at hd
    · exact ⟨false, rv, ⟨g, F1, ρ, sr.step s, hb.mono ρ _ _ (fun k hk F2 H2 v s2 => hk F2 H2 v (s.trans s2)) hd⟩⟩
    · exact ⟨true, rv, hd F1 H1 _ s rfl⟩
    · exact hd.elim) q⟩, fun ρ Q Q' f q => ha.mono ρ _ _ (fun d q => by
    split at q
    · exact hb.mono ρ _ _ f q
    · exact f _ q
    · exact q.elim) q⟩
theorem de_not (ha : DE X e M a ta) : DE X e M (.UnaryOp .Not a pos) (fun ρ Q => tTst ta ρ fun b => Q (.bool (!b))) :=
  ⟨pe_imp (pe_not ha.pe) fun σ H Q ⟨g, F, ρ, sr, q⟩ => ⟨g, F, ρ, sr, ha.mono ρ _ _ (fun d hd F1 H1 v s rv => by
    split at hd
    · exact ⟨_, rv, hd F1 H1 _ s rfl⟩
    · exact hd.elim) q⟩, fun ρ Q Q' f q => tTst_mono ha.mono ρ _ _ (fun b q => f _ q) q⟩
def tIfD (t : DB) (ta tb : DT) : DT := fun ρ Q => t ρ fun b => if b = true then ta ρ Q else tb ρ Q
theorem tIfD_mono (h : Mono tA) (ha : Mono ta) (hb : Mono tb) : Mono (tIfD tA ta tb) := fun ρ Q Q' f q => h ρ _ _ (fun b q => by
  cases b with
  | true => exact ha ρ _ _ f q
  | false => exact hb ρ _ _ f q) q
theorem de_if (hc : DC X e M c tA) (ha : DE X e M a ta) (hb : DE X e M b tb) : DE X e M (.IfExp c a b pos) (tIfD tA ta tb) :=
  ⟨pe_imp (pe_ifExp hc.pt ha.pe hb.pe) fun σ H Q ⟨g, F, ρ, sr, q⟩ => ⟨g, F, ρ, sr, hc.mono ρ _ _ (fun k hk F1 H1 s => by
    cases k with
    | true => exact ⟨g, F1, ρ, sr.step s, ha.mono ρ _ _ (fun d hd F2 H2 v s2 => hd F2 H2 v (s.trans s2)) hk⟩
    | false => exact ⟨g, F1, ρ, sr.step s, hb.mono ρ _ _ (fun d hd F2 H2 v s2 => hd F2 H2 v (s.trans s2)) hk⟩) q⟩, tIfD_mono hc.mono ha.mono hb.mono⟩
/-- a <= b < c, of ints -/
def tCh (f f' : Int → Int → Bool) (ta tb tc : DT) : DT := fun ρ Q => ta ρ fun x => tb ρ fun y => match x, y with
  | .int i, .int j => if f i j = true then tc ρ fun z => (match z with | .int k => Q (.bool (f' j k)) | _ => False) else Q (.bool false)
  | _, _ => False
theorem tCh_mono {f f' : Int → Int → Bool} (ha : Mono ta) (hb : Mono tb) (hc : Mono tc) : Mono (tCh f f' ta tb tc) := fun ρ Q Q' h q => ha ρ _ _ (fun x q => hb ρ _ _ (fun y q => by
  split at q
  · rename_i i j _
    cases hf : f i j with
    | true =>
      rw [hf] at q
      refine hc ρ _ _ (fun z q => ?_) q
      split at q
      · exact h _ q
      · exact q.elim
    | false =>
      rw [hf] at q
      exact h _ q
  · exact q.elim) q) q
theorem chainI {f f' : Int → Int → Bool} (ha : RE X e M a ta) (hb : RE X e M b tb) (hc : RE X e M c tc) : ∀ σ H Q, rdE X.K e M (tCh f f' ta tb tc) σ H Q →
    tChain (rI0 fun i j => .bl (f i j)) (rI0 fun i j => .bl (f' i j)) (rdR X.K e M ta) (rdR X.K e M tb) (rdR X.K e M tc) σ H Q := fun σ H Q ⟨g, F, ρ, sr, q⟩ =>
  ⟨g, F, ρ, sr, ha.mono ρ _ _ (fun dx hx F1 H1 x s1 rx => ⟨g, F1, ρ, sr.step s1, hb.mono ρ _ _ (fun dy hy F2 H2 y s2 ry => by
    split at hy
    · rename_i i j
      refine ⟨i, j, rx.int, ry.int, f i j, rfl, ?_⟩
      cases hf : f i j with
      | true =>
        rw [hf] at hy
        refine ⟨g, F2, ρ, (sr.step s1).step s2, hc.mono ρ _ _ (fun dz hz F3 H3 z s3 rz => ?_) hy⟩
        split at hz
        · exact ⟨j, _, ry.int, rz.int, hz F3 H3 _ ((s1.trans s2).trans s3) rfl⟩
        · exact hz.elim
      | false =>
        rw [hf] at hy
        exact hy F2 H2 _ (s1.trans s2) rfl
    · exact hy.elim) hx⟩) q⟩
theorem de_chain {op op' : CmpOp} {f f' : Int → Int → Bool} (ho : OpR X (compareOp op) (rI0 fun i j => .bl (f i j))) (ho' : OpR X (compareOp op') (rI0 fun i j => .bl (f' i j))) (ha : RE X e M a ta) (hb : RE X e M b tb) (hc : RE X e M c tc)
    (hm : lastMarks [op, op'] [b, c] = false := by with_unfolding_all rfl) : DE X e M (.Compare a [op, op'] [b, c] pos) (tCh f f' ta tb tc) :=
  ⟨pe_imp (pe_chain ho ho' ha.pe hb.pe hc.pe hm) (chainI ha hb hc), tCh_mono ha.mono hb.mono hc.mono⟩
theorem dc_chain {op op' : CmpOp} {f f' : Int → Int → Bool} (ho : OpR X (compareOp op) (rI0 fun i j => .bl (f i j))) (ho' : OpR X (compareOp op') (rI0 fun i j => .bl (f' i j))) (ha : RE X e M a ta) (hb : RE X e M b tb) (hc : RE X e M c tc)
    (hm : lastMarks [op, op'] [b, c] = false := by with_unfolding_all rfl) : DC X e M (.Compare a [op, op'] [b, c] pos) (tTst (tCh f f' ta tb tc)) :=
  ⟨pt_imp (pt_chain ho ho' ha.pe hb.pe hc.pe hm) fun σ H Q ⟨g, F, ρ, sr, q⟩ => by
    have q' : rdE X.K e M (tCh f f' ta tb tc) σ H (fun v H' => ∃ b, v = .bl b ∧ Q b H') := ⟨g, F, ρ, sr, tCh_mono ha.mono hb.mono hc.mono ρ _ _ (fun d hd F1 H1 v s rv => by
      split at hd
      · exact ⟨_, rv, hd F1 H1 s⟩
      · exact hd.elim) q⟩
    exact chainI ha hb hc σ H _ q', tTst_mono (tCh_mono ha.mono hb.mono hc.mono)⟩

/-! ### isinstance -/
def tyN : D → String
  | .none => "NoneType" | .bool _ => "bool" | .int _ => "int" | .str _ => "str" | .list _ => "list" | .tuple _ => "tuple" | .dict _ => "dict"
def isIntD : D → Bool | .int _ => true | .bool _ => true | _ => false
def isBoolD : D → Bool | .bool _ => true | _ => false
def isStrD : D → Bool | .str _ => true | _ => false
def isTupD : D → Bool | .tuple _ => true | _ => false
def isListD : D → Bool | .list _ => true | _ => false
def isDictD : D → Bool | .dict _ => true | _ => false
theorem kIntD : ∀ d : D, kitB (tyN d) "int" = some (isIntD d)
  | .none => (by decide +kernel : kitB "NoneType" "int" = some false)
  | .bool _ => (by decide +kernel : kitB "bool" "int" = some true)
  | .int _ => (by decide +kernel : kitB "int" "int" = some true)
  | .str _ => (by decide +kernel : kitB "str" "int" = some false)
  | .list _ => (by decide +kernel : kitB "list" "int" = some false)
  | .tuple _ => (by decide +kernel : kitB "tuple" "int" = some false)
  | .dict _ => (by decide +kernel : kitB "dict" "int" = some false)
theorem kBoolD : ∀ d : D, kitB (tyN d) "bool" = some (isBoolD d)
  | .none => (by decide +kernel : kitB "NoneType" "bool" = some false)
  | .bool _ => (by decide +kernel : kitB "bool" "bool" = some true)
  | .int _ => (by decide +kernel : kitB "int" "bool" = some false)
  | .str _ => (by decide +kernel : kitB "str" "bool" = some false)
  | .list _ => (by decide +kernel : kitB "list" "bool" = some false)
  | .tuple _ => (by decide +kernel : kitB "tuple" "bool" = some false)
  | .dict _ => (by decide +kernel : kitB "dict" "bool" = some false)
theorem kStrD : ∀ d : D, kitB (tyN d) "str" = some (isStrD d)
  | .none => (by decide +kernel : kitB "NoneType" "str" = some false)
  | .bool _ => (by decide +kernel : kitB "bool" "str" = some false)
  | .int _ => (by decide +kernel : kitB "int" "str" = some false)
  | .str _ => (by decide +kernel : kitB "str" "str" = some true)
  | .list _ => (by decide +kernel : kitB "list" "str" = some false)
  | .tuple _ => (by decide +kernel : kitB "tuple" "str" = some false)
  | .dict _ => (by decide +kernel : kitB "dict" "str" = some false)
theorem kTupD : ∀ d : D, kitB (tyN d) "tuple" = some (isTupD d)
  | .none => (by decide +kernel : kitB "NoneType" "tuple" = some false)
  | .bool _ => (by decide +kernel : kitB "bool" "tuple" = some false)
  | .int _ => (by decide +kernel : kitB "int" "tuple" = some false)
  | .str _ => (by decide +kernel : kitB "str" "tuple" = some false)
  | .list _ => (by decide +kernel : kitB "list" "tuple" = some false)
  | .tuple _ => (by decide +kernel : kitB "tuple" "tuple" = some true)
  | .dict _ => (by decide +kernel : kitB "dict" "tuple" = some false)
theorem kListD : ∀ d : D, kitB (tyN d) "list" = some (isListD d)
  | .none => (by decide +kernel : kitB "NoneType" "list" = some false)
  | .bool _ => (by decide +kernel : kitB "bool" "list" = some false)
  | .int _ => (by decide +kernel : kitB "int" "list" = some false)
  | .str _ => (by decide +kernel : kitB "str" "list" = some false)
  | .list _ => (by decide +kernel : kitB "list" "list" = some true)
  | .tuple _ => (by decide +kernel : kitB "tuple" "list" = some false)
  | .dict _ => (by decide +kernel : kitB "dict" "list" = some false)
theorem kDictD : ∀ d : D, kitB (tyN d) "dict" = some (isDictD d)
  | .none => (by decide +kernel : kitB "NoneType" "dict" = some false)
  | .bool _ => (by decide +kernel : kitB "bool" "dict" = some false)
  | .int _ => (by decide +kernel : kitB "int" "dict" = some false)
  | .str _ => (by decide +kernel : kitB "str" "dict" = some false)
  | .list _ => (by decide +kernel : kitB "list" "dict" = some false)
  | .tuple _ => (by decide +kernel : kitB "tuple" "dict" = some false)
  | .dict _ => (by decide +kernel : kitB "dict" "dict" = some true)
theorem RdR.ty {K : PySem.W.Frag} {g : Rg} {F H : Hp} (bs : Bs g F H) : ∀ {d : D} {v : V}, RdR K g F H d v → TyX K H v (.type (tyN d))
  | .none, v, h => by rw [h.non]; exact .base .non
  | .bool _, v, h => by rw [h.bool]; exact .base (.bl _)
  | .int _, v, h => by rw [h.int]; exact .base (.int _)
  | .str _, v, h => by rw [h.str]; exact .base (.str _)
  | .list _, v, h => by obtain ⟨p, vs, rfl, hp, _⟩ := h.lst bs; exact .base (.lst hp)
  | .tuple _, v, h => by
    obtain ⟨p, vs, rfl, hp, _⟩ := h.tup
    rcases bs.sub.sqT hp with (hp | ⟨o, hp⟩) | ⟨o, its, n, hk, hc, _⟩
    · exact .base (.tup hp)
    · exact .fTuple hp
    · exact .kTuple hk hc
  | .dict _, v, h => by obtain ⟨p, vs, rfl, hp, _⟩ := h.dct bs; exact .base (.dK hp)
theorem de_isi {T : String} {z : Str} {f : D → Bool} {p2 p3 : Pos} (hk : ∀ d, kitB (tyN d) T = some (f d)) (hg : Gl X "isinstance") (hm : X.mg "isinstance" = none) (hg2 : Gl X z) (hm2 : X.mg z = none) (hv2 : bootBuiltins z = some (.type T)) (ha : RE X e M a ta)
    (hn : z ≠ "__name__" := by decide) (hd : (z == ("__debug__" : Str)) = false := by decide)
    (h1 : starEach [a, .Name z p3] X.env = (false, eval a X.env) :: starEach [.Name z p3] X.env := by rfl) (h2 : starEach [.Name z p3] X.env = (false, eval (.Name z p3) X.env) :: starEach [] X.env := by rfl)
    (hpl : (backTo pos (starEach [.Name z p3] X.env)).any (·.1) = false := by rfl) : DE X e M (.Call (.Name "isinstance" p2) [a, .Name z p3] [] pos) (fun ρ Q => ta ρ fun d => Q (.bool (f d))) :=
  ⟨pe_imp (pe_callB call_isi hg hm (by decide +kernel) (pa_cons ha.pe (pa_cons (pe_bltn (v := .ty T) hg2 hm2 hv2 rfl hn hd) pa_nil h2) h1) (he := h1) (hpl := hpl)) fun σ H Q ⟨g, F, ρ, sr, q⟩ => ⟨g, F, ρ, sr, ha.mono ρ _ _ (fun d hd F1 H1 v s rv =>
    ⟨v, .ty T, .type (tyN d), .type T, f d, rfl, .ty T, rv.ty (s.bs sr.bs), kit_ty (hk d), hd F1 H1 _ s rfl⟩) q⟩, fun ρ Q Q' h q => ha.mono ρ _ _ (fun d q => h _ q) q⟩
end
end PP

set_option Elab.async false
set_option linter.all false
set_option maxRecDepth 100000
set_option maxHeartbeats 4000000
namespace PP
open PySem PySem.Spec PyProof.Rows L2

/-! ### a def's promise, where nothing is being shown (so that repr may be asked) -/
structure FnG (P : Program) (w : World) (K : PySem.W.Frag) (mg : Str → Option Value) (base : Heap)
    (CX : CXT) (k : Nat) (f : Addr) (fd : FuncData) (ps : List Str) (sp : Sp) : Prop where
  len : ∀ vs H Q E, sp vs H Q E → vs.length = ps.length
  go : ∀ (A : Around) (outer : List Env) (s : Shared) (H : Hp) (ar : Args) (us : List Value) (vs : List V) (Q : VK) (E : XK),
    Room k A → A.guards = some [] → Env0 P w K mg base A outer s H → BindsTo s fd ar (ps.zip us) →
    Vals vs us → sp vs H Q E → codeAny (model P w) A (.call (.ref f) ar) (CR CX outer P w H s Q E) s
section
variable {P : Program} {w : World} {K : PySem.W.Frag} {mg : Str → Option Value} {base : Heap}
  {CX : CXT} {j k : Nat} {f : Addr} {fd : FuncData} {ps : List Str} {sp sp' : Sp}
theorem FnG.up (F : FnG P w K mg base CX j f fd ps sp) (h : j ≤ k) : FnG P w K mg base CX k f fd ps sp :=
  ⟨F.len, fun A o s H ar us vs Q E r => F.go A o s H ar us vs Q E (r.mono h)⟩
theorem FnG.imp (F : FnG P w K mg base CX k f fd ps sp) (h : ∀ vs H Q E, sp' vs H Q E → sp vs H Q E) :
    FnG P w K mg base CX k f fd ps sp' :=
  ⟨fun vs H Q E q => F.len vs H Q E (h _ _ _ _ q), fun A o s H ar us vs Q E r g e b v q =>
    F.go A o s H ar us vs Q E r g e b v (h _ _ _ _ q)⟩
/-- a def of the text by its body -/
theorem fnG_of {x qual : Str} {st : Stmt} {N : List Str} (F : Fun K x qual st f fd) (S : FnScope N ps (defScope st))
    (len : ∀ vs H Q E, sp vs H Q E → vs.length = ps.length)
    (bd : ∀ (cdv : Value) (A : Around) (outer : List Env) (s : Shared) (H : Hp) (vs : List V) (Q : VK) (E : XK),
      Room k (A.deeper (envOfC qual (defScope st) s.heap.objs.size f cdv)) →
      (A.deeper (envOfC qual (defScope st) s.heap.objs.size f cdv)).guards = some [] → sp vs H Q E →
      ∃ t, PSs (cxOf CX P w K mg base N qual (defScope st) f cdv A outer s H E) (defBody st) t ∧
        t { nx := fun _ H' => Q .non H', rt := Q } (start N vs) H) : FnG P w K mg base CX (k + 1) f fd ps sp := by
  obtain ⟨oc, od, kV, doc, pm, an, cdv, ct, osl, rfl, lk, hcd⟩ := F.ex
  refine ⟨len, fun A outer s H ar us vs Q E hr hgd e0 hb r hsp => ?_⟩
  have hl : vs.length = ps.length := len vs H Q E hsp
  have hK : K.In s.heap :=
    e0.mod.kin.keeps fun b o e => (e0.bs b o e).1
  have hlim : s.heap.NoLimit :=
    e0.mod.nolimit.keeps fun b o e => (e0.bs b o e).1
  refine codeAny_call_function hr.depth (hK _ _ lk) rfl S.co S.gen rfl (PySem.W.codeRec_of hK hcd)
    (hb _ _ _ _ (wpAny_newFunctionEnv_cells S.kind ?_ ?_))
  · rintro ⟨n, v⟩ hy
    rcases S.par n (List.of_mem_zip hy).1 with q | q
    · exact .inl q
    · refine .inr ⟨q, ?_⟩
      exact PySem.W.cellsFrom_some _ _ _ (.inl q)
  · rintro env rfl s1 x
    refine ⟨hlim.keeps x.toInCall.keep, codeAny_func ?_⟩
    obtain ⟨t, ht, hq⟩ := bd cdv A outer s H vs Q E (hr.deeper _) hgd hsp
    have I := inv_start (CX := CX) (E := E) S hr.hd e0 hl r x
    refine wpAny_mono (ht.run [] s1 _ H _ I hq) ?_ fun e s' z => z
    intro fl s' hs
    cases fl with
    | ret u =>
      obtain ⟨v, σ', H', J, rv, q⟩ := hs
      exact ⟨v, H', J.os, J.bare, J.base, J.hok, rv, q⟩
    | next =>
      obtain ⟨σ', H', J, q⟩ := hs
      exact ⟨.non, H', J.os, J.bare, J.base, J.hok, rfl, q⟩
    | brk => obtain ⟨_, _, _, q⟩ := hs; exact q.elim
    | cont => obtain ⟨_, _, _, q⟩ := hs; exact q.elim
end
section
variable {X : Cx} {CX : CXT} {k : Nat} {f : Addr} {fd : FuncData} {ps : List Str} {sp : Sp} {E : XK} {x : Str} {p pos : Pos} {a : Expr} {xs : List Expr} {t : TA}
theorem goG {pins : List (Addr × Obj)} {σ : L2.St} {H : Hp} {s : Shared} {Q : VK} {us : List Value} {vs : List V}
    (F : FnG X.prog X.w X.K X.mg X.base CX k f fd ps sp) (hr : Room k X.A) (hgd : X.A.guards = some []) (hb : Binds X.K fd ps [])
    (hx : Passes CX X E) (I : Inv X pins σ H s) (r : Vals vs us) (h : sp vs H Q E) :
    wpAny (model X.prog X.w) X.A (call (.ref f) us) (EP X pins σ Q) X.xe s := by
  have hl : (us ++ []).length = ps.length := by rw [List.append_nil, ← r.length]; exact F.len _ _ _ _ h
  have hbt := hb s us I.kIn hl
  rw [List.append_nil] at hbt
  refine wpAny_call (codeAny_mono (F.go X.A X.stack s H ⟨us, []⟩ us vs Q E hr hgd I.env0 hbt r h) ?_)
  intro res s' hq
  match res, hq with
  | .error e, hq => exact hx pins σ H s e s' I hq
  | .ok (.ret u), hq => exact I.after hq
  | .ok .next, hq => exact False.elim hq
  | .ok .brk, hq => exact False.elim hq
  | .ok .cont, hq => exact False.elim hq
theorem pe_callG (F : FnG X.prog X.w X.K X.mg X.base CX k f fd ps sp) (hr : Room k X.A) (hgd : X.A.guards = some []) (hg : Gl X x) (hm : X.mg x = some (.ref f))
    (hk : PySem.W.keepIn X.K (.ref f) = true) (hb : Binds X.K fd ps []) (hx : Passes CX X E) (ha : PA X (a :: xs) t)
    (hdb : (x == ("__debug__" : Str)) = false := by decide) (he : starEach (a :: xs) X.env = (false, eval a X.env) :: starEach xs X.env := by rfl)
    (hpl : (backTo pos (starEach xs X.env)).any (·.1) = false := by rfl) :
    PE X (.Call (.Name x p) (a :: xs) [] pos) (fun σ H Q => t σ H fun vs H1 => sp vs H1 Q E) := by
  constructor
  intro pins s σ H Q I h
  refine wpAny_Call_Name_kw (ld_glob I hg hm (PySem.W.callWith_K (h₀ := X.base) I.ok.mod.kin hk ?_ he hpl) hdb)
  refine thn (ha.run pos pins s σ H _ I h) ?_
  rintro us s1 ⟨vs, H1, I1, r, q⟩
  exact ⟨I1.kIn, goG F hr hgd hb hx I1 r q⟩
end

/-! ### promises over data -/
abbrev KF := List D → (D → Prop) → Prop
def ArgOk (K : PySem.W.Frag) (g : Rg) (F H : Hp) : Md → D → V → Prop
  | .bor, d, v => ∃ p vs ds, v = .ref p ∧ d = .list ds ∧ H p = some (.lst vs) ∧ ¬ g.mem p ∧ RpL K F ds vs
  | .dk, d, v => v = g.root ∧ IsDeck g
  | .ex, d, v => ExM K F d v
  | _, d, v => Rp K F d v
def ArgsOk (K : PySem.W.Frag) (g : Rg) (F H : Hp) : List Md → List D → List V → Prop
  | [], ds, vs => ds = [] ∧ vs = []
  | m :: ms, ds, vs => ∃ d dr v vr, ds = d :: dr ∧ vs = v :: vr ∧ ArgOk K g F H m d v ∧ ArgsOk K g F H ms dr vr
theorem ArgOk.step {K : PySem.W.Frag} {g : Rg} {F H F' H' : Hp} (s : Stp g F H F' H') : ∀ {m : Md} {d : D} {v : V}, ArgOk K g F H m d v → ArgOk K g F' H' m d v
  | .bor, _, _, ⟨p, vs, ds, h1, h2, h3, h4, h5⟩ => ⟨p, vs, ds, h1, h2, s.keep _ _ h3 h4, h4, h5.mono s.mono⟩
  | .dk, _, _, h => h
  | .val, _, _, h => Rp.mono s.mono h
  | .ex, _, _, h => ExM.mono s.mono h
  | .own, _, _, h => Rp.mono s.mono h
  | .od, _, _, h => Rp.mono s.mono h
  | .oo, _, _, h => Rp.mono s.mono h
  | .ob _ _, _, _, h => Rp.mono s.mono h
theorem ArgsOk.len {K : PySem.W.Frag} {g : Rg} {F H : Hp} : ∀ {ms : List Md} {ds : List D} {vs : List V}, ArgsOk K g F H ms ds vs → vs.length = ms.length
  | [], _, _, ⟨_, h⟩ => by subst h; rfl
  | _ :: _, _, _, ⟨d, dr, v, vr, _, e, _, r⟩ => by subst e; simp [ArgsOk.len r]
def spD (K : PySem.W.Frag) (ms : List Md) (k : KF) : Sp := fun vs H Q _ =>
  ∃ g F ds, Bs g F H ∧ ArgsOk K g F H ms ds vs ∧ k ds fun d => ∀ F' H' v, Stp g F H F' H' → Rp K F' d v → Q v H'
def rdG (K : PySem.W.Frag) (e : Ent) (M : List Md) (ms : List Md) (t : DA) : TA := fun σ H Q => ∃ g F ρ, SR K e M g F H σ ρ ∧ t ρ fun ds => ∀ F' H' vs, Stp g F H F' H' → ArgsOk K g F' H' ms ds vs → Q vs H'
structure GA (X : Cx) (e : Ent) (M : List Md) (ms : List Md) (xs : List Expr) (t : DA) : Prop where
  pa : PA X xs (rdG X.K e M ms t)
  mono : Mono t
section
variable {X : Cx} {e : Ent} {M ms : List Md} {a : Expr} {xs : List Expr} {ta : DT} {tr : DA} {pos : Pos}
theorem ga_nil : GA X e M [] [] tNilA := ⟨pa_imp pa_nil fun σ H Q ⟨g, F, ρ, sr, q⟩ => q F H [] sr.bs.refl ⟨rfl, rfl⟩, fun _ _ _ f q => f _ q⟩
theorem ga_val (ha : DE X e M a ta) (hr : GA X e M ms xs tr) (hs : starEach (a :: xs) X.env = (false, eval a X.env) :: starEach xs X.env := by rfl) : GA X e M (.val :: ms) (a :: xs) (tConsA ta tr) :=
  ⟨pa_imp (pa_cons ha.pe hr.pa hs) fun σ H Q ⟨g, F, ρ, sr, q⟩ => ⟨g, F, ρ, sr, ha.mono ρ _ _ (fun d hd F1 H1 v s1 r1 => ⟨g, F1, ρ, sr.step s1, hr.mono ρ _ _ (fun ds hq F2 H2 vs s2 r2 =>
    hq F2 H2 (v :: vs) (s1.trans s2) ⟨d, ds, v, vs, rfl, rfl, Rp.mono s2.mono r1, r2⟩) hd⟩) q⟩, fun ρ Q Q' f q => ha.mono ρ _ _ (fun x q => hr.mono ρ _ _ (fun xs q => f _ q) q) q⟩
def tBor (t : DT) : DT := fun ρ Q => t ρ fun d => match d with | .list ds => Q (.list ds) | _ => False
theorem ga_bor (ha : RE X e M a ta) (hr : GA X e M ms xs tr) (hs : starEach (a :: xs) X.env = (false, eval a X.env) :: starEach xs X.env := by rfl) : GA X e M (.bor :: ms) (a :: xs) (tConsA (tBor ta) tr) :=
  ⟨pa_imp (pa_cons ha.pe hr.pa hs) fun σ H Q ⟨g, F, ρ, sr, q⟩ => ⟨g, F, ρ, sr, ha.mono ρ _ _ (fun d hd F1 H1 v s1 r1 => by
    split at hd
    · obtain ⟨p, vs, e1, hp, m, rl⟩ := r1.lst (s1.bs sr.bs)
      exact ⟨g, F1, ρ, sr.step s1, hr.mono ρ _ _ (fun ds hq F2 H2 vs2 s2 r2 => hq F2 H2 (v :: vs2) (s1.trans s2) ⟨_, ds, v, vs2, rfl, rfl, ⟨p, vs, _, e1, rfl, s2.keep _ _ hp m, m, rl.mono s2.mono⟩, r2⟩) hd⟩
    · exact hd.elim) q⟩, fun ρ Q Q' f q => ha.mono ρ _ _ (fun x q => by
    split at q
    · exact hr.mono ρ _ _ (fun xs q => f _ q) q
    · exact q.elim) q⟩
/-- the deck -/
def tDk (i : Nat) : DT := fun ρ Q => match gt ρ i with | some d => Q .none | none => False
theorem ga_dk {i : Nat} {y : Str} (hN : X.N[i]? = some y) (hv : Vis X.env.scope y) (hr : GA X e M ms xs tr) (hm : md M i = .dk := by rfl) (hd : (y == ("__debug__" : Str)) = false := by decide) (hcd : (y == ("__classdict__" : Str)) = false := by decide)
    (hs : starEach (.Name y pos :: xs) X.env = (false, eval (.Name y pos) X.env) :: starEach xs X.env := by rfl) : GA X e M (.dk :: ms) (.Name y pos :: xs) (tConsA (tDk i) tr) :=
  ⟨pa_imp (pa_cons (pe_var hN hv hd hcd) hr.pa hs) fun σ H Q ⟨g, F, ρ, sr, q⟩ => by
    have q : tDk i ρ fun d => tr ρ fun ds => ∀ F' H' vs, Stp g F H F' H' → ArgsOk X.K g F' H' (.dk :: ms) (d :: ds) vs → Q vs H' := q
    unfold tDk at q
    split at q
    · rename_i d hd
      obtain ⟨v, h1, h2⟩ := sr.slot i d hd
      rw [hm] at h2
      exact ⟨v, h1, g, F, ρ, sr, hr.mono ρ _ _ (fun ds hq F2 H2 vs s2 r2 => hq F2 H2 (v :: vs) s2 ⟨_, ds, v, vs, rfl, rfl, h2, r2⟩) q⟩
    · exact q.elim, fun ρ Q Q' f q => by
    have q : tDk i ρ fun d => tr ρ fun ds => Q (d :: ds) := q
    show tDk i ρ fun d => tr ρ fun ds => Q' (d :: ds)
    unfold tDk at q ⊢
    split at q
    · exact hr.mono ρ _ _ (fun xs q => f _ q) q
    · exact q.elim⟩
theorem de_call {k : Nat} {f : Addr} {fd : FuncData} {ps : List Str} {y : Str} {p : Pos} {kf : KF} (F : FnG X.prog X.w X.K X.mg X.base CX0 k f fd ps (spD X.K ms kf)) (hr : Room k X.A) (hgd : X.A.guards = some []) (hg : Gl X y)
    (hm : X.mg y = some (.ref f)) (hk : PySem.W.keepIn X.K (.ref f) = true) (hb : Binds X.K fd ps []) (mo : MonoC kf) (ha : GA X e M ms (a :: xs) tr)
    (hdb : (y == ("__debug__" : Str)) = false := by decide) (he : starEach (a :: xs) X.env = (false, eval a X.env) :: starEach xs X.env := by rfl)
    (hpl : (backTo pos (starEach xs X.env)).any (·.1) = false := by rfl) : DE X e M (.Call (.Name y p) (a :: xs) [] pos) (tCl kf tr) :=
  ⟨pe_imp (pe_callG F hr hgd hg hm hk hb pass0 ha.pa hdb he hpl) fun σ H Q ⟨g, F, ρ, sr, q⟩ => ⟨g, F, ρ, sr, ha.mono ρ _ _ (fun ds hd F1 H1 vs s rv =>
    ⟨g, F1, ds, s.bs sr.bs, rv, mo _ _ _ (fun d hq F2 H2 v s2 r2 => hq F2 H2 v (s.trans s2) r2) hd⟩) q⟩, tCl_mono mo ha.mono⟩
end

/-! ### repr -/
def RprOk (d : D) : Prop := d.showable = true ∧ d.depth ≤ 64 ∧ d.shown.length ≤ sizeLine ∧ d.hasDict = false
theorem RpK.sides {K : PySem.W.Frag} {H : Hp} : ∀ {kvs : List (D × D)} {ps : List (Key × V)}, RpK K H kvs ps → kvs.map (·.1) = ps.map (fun p => keyD p.1) ∧ RpL K H (kvs.map (·.2)) (ps.map (·.2))
  | [], _, h => by have h : _ = [] := h; subst h; exact ⟨rfl, rfl⟩
  | (k, d) :: r, _, ⟨c, x, ps, e, hk, h, t⟩ => by
    subst e hk
    obtain ⟨h1, h2⟩ := RpK.sides t
    exact ⟨by simp [h1], ⟨x, _, rfl, h, h2⟩⟩
theorem keys_vals {K : PySem.W.Frag} {H : Hp} : ∀ {ps : List (Key × V)}, RpL K H (ps.map fun p => keyD p.1) (ps.map fun p => kV p.1)
  | [] => rfl
  | (.inl i, v) :: r => ⟨_, _, rfl, rfl, keys_vals⟩
  | (.inr i, v) :: r => ⟨_, _, rfl, rfl, keys_vals⟩
end PP

set_option Elab.async false
set_option linter.all false
set_option maxRecDepth 100000
set_option maxHeartbeats 4000000
namespace PP
open PySem PySem.Spec PyProof.Rows L2

theorem pairs_rel {K : Type} [DecidableEq K] {prog : Program} {w : World} {knd : PySem.KeyKind prog w K} : ∀ {es : List DictEntry} {kvs : List (K × Value)}, PySem.Pairs knd es kvs → es.map (·.val) = kvs.map (·.2) ∧ Paired (fun (k : K × Value) (u : Value) => knd.is k.1 u = true) kvs (es.map (·.key))
  | _, _, .nil => ⟨rfl, .nil⟩
  | _, _, .cons h hv t => by
    obtain ⟨h1, h2⟩ := pairs_rel t
    exact ⟨by simp [h1, hv], .cons h h2⟩
theorem kv_keys {prog : Program} {w : World} : ∀ {ps : List (Key × V)} {vs : List (Key × Value)} {us : List Value}, KV ps vs → Paired (fun (k : Key × Value) (u : Value) => (mixKind prog w).is k.1 u = true) vs us → Vals (ps.map fun p => kV p.1) us
  | _, _, _, .nil, .nil => .nil
  | _, _, _, .cons h t, .cons k r => .cons (by show L2.RelV (kV _) _; rw [h.1]; exact keyIs_rel k) (kv_keys t r)
theorem kv_vals : ∀ {ps : List (Key × V)} {vs : List (Key × Value)}, KV ps vs → Vals (ps.map (·.2)) (vs.map (·.2))
  | _, _, .nil => .nil
  | _, _, .cons h t => .cons h.2 (kv_vals t)

theorem keys_reads {h : Heap} {z0 : Addr} : ∀ {ps : List (Key × V)} {us : List Value}, Vals (ps.map fun p => kV p.1) us → ∃ as, ReadsAll h us (ps.map fun p => keyD p.1) as ∧ (∀ b ∈ as, b ≠ z0)
  | [], _, r => by cases r; exact ⟨_, ReadsAll.nil, fun _ z => nomatch z⟩
  | (.inl i, v) :: ps, _, r => by
    cases r with
    | cons r1 r2 =>
      obtain ⟨t, rfl⟩ := r1
      obtain ⟨as, q, n⟩ := keys_reads r2
      exact ⟨_, ReadsAll.cons (Reads.int i t) q, fun b hb => n b (by simpa using hb)⟩
  | (.inr i, v) :: ps, _, r => by
    cases r with
    | cons r1 r2 =>
      obtain ⟨t, rfl⟩ := r1
      obtain ⟨as, q, n⟩ := keys_reads r2
      exact ⟨_, ReadsAll.cons (Reads.str i t) q, fun b hb => n b (by simpa using hb)⟩
section
variable {X : Cx}
mutual
theorem Rp.shows {pins : List (Addr × Obj)} {σ : L2.St} {H : Hp} {s : Shared} (I : Inv X pins σ H s) {z0 : Addr} (n1 : H z0 = none) : ∀ (d : D) (v : V) (u : Value), Rp X.K H d v → RelV v u → ∃ as, Reads s.heap u d as ∧ (∀ b ∈ as, b ≠ z0)
  | .none, _, u, h, r => by
    have h : _ = V.non := h
    subst h
    cases (show u = Value.none from r)
    exact ⟨_, Reads.none, fun _ z => nomatch z⟩
  | .bool b, _, u, h, r => by
    have h : _ = V.bl b := h
    subst h
    cases (show u = Value.bool b from r)
    exact ⟨_, Reads.bool b, fun _ z => nomatch z⟩
  | .int i, _, u, h, r => by
    have h : _ = V.int i := h
    subst h
    obtain ⟨t, rfl⟩ := (show ∃ t, u = Value.int i t from r)
    exact ⟨_, Reads.int i t, fun _ z => nomatch z⟩
  | .str x, _, u, h, r => by
    have h : _ = V.str x := h
    subst h
    obtain ⟨t, rfl⟩ := (show ∃ t, u = Value.str x t from r)
    exact ⟨_, Reads.str x t, fun _ z => nomatch z⟩
  | .list ds, _, u, ⟨a, xs, e1, h, q⟩, r => by
    subst e1
    cases (show u = Value.ref a from r)
    obtain ⟨its, rv, ⟨o, k, ho, hc, _, hd⟩, _⟩ := I.list (.inl (.inl h))
    obtain ⟨as, hr, hn⟩ := Rp.showsAll I n1 ds _ its q rv
    refine ⟨_, Reads.list ho hc hd hr, fun b hb => ?_⟩
    rcases List.mem_cons.mp hb with e | hb
    · subst e; intro z; rw [z, n1] at h; cases h
    · exact hn b hb
  | .tuple ds, _, u, ⟨a, xs, e1, h, q⟩, r => by
    subst e1
    cases (show u = Value.ref a from r)
    obtain ⟨its, rv, ⟨o, ho, hc, k, hd⟩, _⟩ := I.tuple (h.sq (K := X.K))
    obtain ⟨as, hr, hn⟩ := Rp.showsAll I n1 ds _ its q rv
    exact ⟨_, Reads.tuple ho hc hd hr, hn⟩
  | .dict kvs, _, u, ⟨a, ps, e1, h, q⟩, r => by
    subst e1
    cases (show u = Value.ref a from r)
    obtain ⟨z1, z2, vs, kv, o, es, ep, ho, hx, hd, hk, hp, nd⟩ := (show ObjOk X.prog X.w H s.heap a (.dK ps) from I.hok a _ h)
    obtain ⟨e2, p2⟩ := pairs_rel hp
    obtain ⟨ks, hkv⟩ := RpK.sides q
    obtain ⟨as, r1, n2⟩ := keys_reads (h := s.heap) (kv_keys kv p2)
    rw [← ks] at r1
    obtain ⟨bs, r2, n3⟩ := RpK.shows I n1 kvs ps _ q (kv_vals kv)
    rw [← e2] at r2
    refine ⟨_, Reads.dict ho hx.1 hd r1 r2, fun b hb => ?_⟩
    rcases List.mem_append.mp hb with hb | hb
    · rcases List.mem_cons.mp hb with e | hb
      · subst e; intro z; rw [z, n1] at h; cases h
      · exact n2 b hb
    · exact n3 b hb
theorem Rp.showsAll {pins : List (Addr × Obj)} {σ : L2.St} {H : Hp} {s : Shared} (I : Inv X pins σ H s) {z0 : Addr} (n1 : H z0 = none) : ∀ (ds : List D) (vs : List V) (us : List Value), RpL X.K H ds vs → Vals vs us → ∃ as, ReadsAll s.heap us ds as ∧ (∀ b ∈ as, b ≠ z0)
  | [], _, _, h, r => by
    have h : _ = [] := h
    subst h
    cases r
    exact ⟨_, ReadsAll.nil, fun _ z => nomatch z⟩
  | d :: ds, _, _, ⟨x, xs, e1, h1, h2⟩, r => by
    subst e1
    cases r with
    | cons r1 r2 =>
      obtain ⟨as, q1, m1⟩ := Rp.shows I n1 d _ _ h1 r1
      obtain ⟨bs, q2, m2⟩ := Rp.showsAll I n1 ds _ _ h2 r2
      exact ⟨_, ReadsAll.cons q1 q2, fun b hb => (List.mem_append.mp hb).elim (m1 b) (m2 b)⟩
theorem RpK.shows {pins : List (Addr × Obj)} {σ : L2.St} {H : Hp} {s : Shared} (I : Inv X pins σ H s) {z0 : Addr} (n1 : H z0 = none) : ∀ (kvs : List (D × D)) (ps : List (Key × V)) (us : List Value), RpK X.K H kvs ps → Vals (ps.map (·.2)) us → ∃ as, ReadsAll s.heap us (kvs.map (·.2)) as ∧ (∀ b ∈ as, b ≠ z0)
  | [], _, _, h, r => by
    have h : _ = [] := h
    subst h
    cases r
    exact ⟨_, ReadsAll.nil, fun _ z => nomatch z⟩
  | (k, d) :: ds, _, _, ⟨c, x, ps, e, hk, h, t⟩, r => by
    subst e
    cases r with
    | cons r1 r2 =>
      obtain ⟨as, q1, m1⟩ := Rp.shows I n1 d _ _ h r1
      obtain ⟨bs, q2, m2⟩ := RpK.shows I n1 ds _ _ t r2
      exact ⟨_, ReadsAll.cons q1 q2, fun b hb => (List.mem_append.mp hb).elim (m1 b) (m2 b)⟩
end
def rRpr (K : PySem.W.Frag) : List V → Hp → VK → Prop := fun xs H Q => ∃ v d, xs = [v] ∧ Rp K H d v ∧ RprOk d ∧ Q (.str d.shown) H
theorem call_rpr (hgd : X.A.guards = some []) (hu : X.A.units + 80 < cLine) : CallR X (.builtin "repr") (rRpr X.K) := by
  intro pins s σ H xs us Q I r h
  obtain ⟨v, d, rfl, hr, ⟨ok1, ok2, ok3, ok4⟩, q⟩ := h
  obtain ⟨u, rfl, rv⟩ := vals1 r
  have n1 : H s.heap.objs.size = none := I.hok.fresh (Nat.le_refl _)
  have fin : ∀ h' u tk, (∀ b o, s.heap.get? b = some o → h'.get? b = some o) → EP X pins σ Q (.str d.shown u) { s with heap := h', toks := tk } := fun h' u tk hk => ⟨.str d.shown, H, I.kept hk, ⟨u, rfl⟩, q⟩
  have fin0 : EP X pins σ Q (.str d.shown s.toks) { s with toks := s.toks + 1 } := ⟨.str d.shown, H, I.tok _, ⟨_, rfl⟩, q⟩
  have byRef : ∀ a, u = .ref a → wpAny (model X.prog X.w) X.A (call (.builtin "repr") [u]) (EP X pins σ Q) X.xe s := fun a e => by
    subst e
    obtain ⟨as, rd, nm⟩ := Rp.shows I n1 d v _ hr rv
    exact repr_of_reads' rd ok1 (fun z => by rw [ok4] at z; cases z) hgd (by omega) (fun _ _ e => e) fin ok3
  cases d with
  | none =>
    have hr : v = .non := hr
    subst hr
    cases (show u = Value.none from rv)
    exact P.repr_of_none (by simpa only [PyData.shown] using fin0)
  | bool b =>
    have hr : v = .bl b := hr
    subst hr
    cases (show u = Value.bool b from rv)
    exact P.repr_of_bool (by simpa only [PyData.shown] using fin0)
  | int i =>
    have hr : v = .int i := hr
    subst hr
    obtain ⟨t, rfl⟩ := (show ∃ t, u = Value.int i t from rv)
    exact P.repr_of_int (by simpa [PyData.showable] using ok1) (by simpa only [PyData.shown] using fin0)
  | str z =>
    have hr : v = .str z := hr
    subst hr
    obtain ⟨t, rfl⟩ := (show ∃ t, u = Value.str z t from rv)
    exact P.repr_of_str (by simpa only [PyData.shown] using fin0) (by simpa only [PyData.shown] using ok3)
  | list ds => obtain ⟨a, xs, rfl, _⟩ := hr; exact byRef a rv
  | tuple ds => obtain ⟨a, xs, rfl, _⟩ := hr; exact byRef a rv
  | dict ds => obtain ⟨a, xs, rfl, _⟩ := hr; exact byRef a rv
def kRpr : KC := fun ds Q => match ds with
  | [d] => RprOk d ∧ Q (.str d.shown)
  | _ => False
theorem kRpr_mono : MonoC kRpr := fun ds Q Q' f q => by
  unfold kRpr at q ⊢
  split at q
  · exact ⟨q.1, f _ q.2⟩
  · exact q.elim
theorem says_rpr : SaysC X (rRpr X.K) kRpr := by
  intro g F H ds vs Qv q bs rv hk k
  unfold kRpr at hk
  split at hk
  · obtain ⟨v, rfl, r⟩ := rv.one
    exact ⟨v, _, rfl, r.now bs, hk.1, k _ F H _ hk.2 bs.refl rfl⟩
  · exact hk.elim
end
section
variable {X : Cx} {e : Ent} {M : List Md} {a b c : Expr} {xs : List Expr} {tA : DA} {ta tb tc : DT} {pos p : Pos}
theorem de_repr (hgd : X.A.guards = some []) (hu : X.A.units + 80 < cLine) (hg : Gl X "repr") (hm : X.mg "repr" = none) (ha : AR X e M (a :: xs) tA)
    (he : starEach (a :: xs) X.env = (false, eval a X.env) :: starEach xs X.env := by rfl) (hpl : (backTo pos (starEach xs X.env)).any (·.1) = false := by rfl) :
    DE X e M (.Call (.Name "repr" p) (a :: xs) [] pos) (tCl kRpr tA) := de_callB (call_rpr hgd hu) says_rpr kRpr_mono hg hm (by decide +kernel) ha (he := he) (hpl := hpl)

/-! ### slices -/
def cutD (xs : List D) (lo hi : Option Int) : List D := (xs.drop (HT.sIx xs.length 0 lo)).take (HT.sIx xs.length xs.length hi - HT.sIx xs.length 0 lo)
theorem RpL.cut {K : PySem.W.Frag} {H : Hp} {ds : List D} {vs : List V} (r : RpL K H ds vs) (lo hi : Option Int) : RpL K H (cutD ds lo hi) (cutV vs lo hi) := by
  unfold cutD cutV
  rw [r.length]
  exact (r.drop _).take _
abbrev DO := En → (Option Int → Prop) → Prop
def rdO (K : PySem.W.Frag) (e : Ent) (M : List Md) (t : DO) : TO := fun σ H Q => ∃ g F ρ, SR K e M g F H σ ρ ∧ t ρ fun o => ∀ F' H', Stp g F H F' H' → Q o H'
structure DPo (X : Cx) (e : Ent) (M : List Md) (o : Option Expr) (t : DO) : Prop where
  po : PO X o (rdO X.K e M t)
  mono : Mono t
theorem po_imp {o : Option Expr} {t t' : TO} (h : PO X o t) (f : ∀ σ H Q, t' σ H Q → t σ H Q) : PO X o t' := ⟨fun pins s σ H Q I hw => h.run pins s σ H Q I (f σ H Q hw)⟩
theorem dp_none : DPo X e M none (fun _ Q => Q none) := ⟨po_imp po_none fun σ H Q ⟨g, F, ρ, sr, q⟩ => q F H sr.bs.refl, fun _ _ _ f q => f _ q⟩
theorem dp_some (ha : RE X e M a ta) : DPo X e M (some a) (fun ρ Q => ta ρ fun d => match d with | .int i => Q (some i) | _ => False) :=
  ⟨po_imp (po_some ha.pe) fun σ H Q ⟨g, F, ρ, sr, q⟩ => ⟨g, F, ρ, sr, ha.mono ρ _ _ (fun d hd F1 H1 v s rv => by
    split at hd
    · exact ⟨_, rv.int, hd F1 H1 s⟩
    · exact hd.elim) q⟩, fun ρ Q Q' f q => ha.mono ρ _ _ (fun d q => by
    split at q
    · exact f _ q
    · exact q.elim) q⟩
/-- a list's slice: new -/
def tSlF (ta : DT) (tl th : DO) : DA := fun ρ Q => ta ρ fun d => tl ρ fun lo => th ρ fun hi => match d with | .list xs => Q (cutD xs lo hi) | _ => False
theorem fe_slice {lo hi : Option Expr} {tl th : DO} {p2 : Pos} (ha : RE X e M a ta) (hl : DPo X e M lo tl) (hh : DPo X e M hi th) : FE X e M (.Subscript a (.Slice lo hi none p2) pos) (tSlF ta tl th) :=
  ⟨pe_imp (pe_slice sl_list ha.pe hl.po hh.po) fun σ H Q ⟨g, F, ρ, sr, q⟩ => ⟨g, F, ρ, sr, ha.mono ρ _ _ (fun d hd F1 H1 v s1 rv => ⟨g, F1, ρ, sr.step s1, hl.mono ρ _ _ (fun lo hd F2 H2 s2 => ⟨g, F2, ρ, (sr.step s1).step s2, hh.mono ρ _ _ (fun hi hd F3 H3 s3 => by
    split at hd
    · have s := (s1.trans s2).trans s3
      obtain ⟨p, vs, rfl, hp, m, r⟩ := ((rv.step s2).step s3).lst (s.bs sr.bs)
      exact ⟨p, vs, rfl, .inl (.inl hp), fun l hn => hd F3 _ l _ (s.trans ((s.bs sr.bs).hide hn _)) (s.old hn) (s.sub.none hn) upd_same (r.cut _ _)⟩
    · exact hd.elim) hd⟩) hd⟩) q⟩, fun ρ Q Q' f q => ha.mono ρ _ _ (fun d q => hl.mono ρ _ _ (fun lo q => hh.mono ρ _ _ (fun hi q => by
    split at q
    · exact f _ q
    · exact q.elim) q) q) q⟩
/-- any slice -/
def tSl2 (ta : DT) (tl th : DO) : DT := fun ρ Q => ta ρ fun d => tl ρ fun lo => th ρ fun hi => match d with | .list xs => Q (.list (cutD xs lo hi)) | .tuple xs => Q (.tuple (cutD xs lo hi)) | _ => False
theorem cut_whole {xs : List D} {lo hi : Option Int} (h : HT.sIx xs.length 0 lo = 0 ∧ HT.sIx xs.length xs.length hi = xs.length) : cutD xs lo hi = xs := by
  unfold cutD
  rw [h.1, h.2]
  simp
theorem de_slice {lo hi : Option Expr} {tl th : DO} {p2 : Pos} (ha : RE X e M a ta) (hl : DPo X e M lo tl) (hh : DPo X e M hi th) : DE X e M (.Subscript a (.Slice lo hi none p2) pos) (tSl2 ta tl th) :=
  ⟨pe_imp (pe_slice (sl_list.or sl_tupP) ha.pe hl.po hh.po) fun σ H Q ⟨g, F, ρ, sr, q⟩ => ⟨g, F, ρ, sr, ha.mono ρ _ _ (fun d hd F1 H1 v s1 rv => ⟨g, F1, ρ, sr.step s1, hl.mono ρ _ _ (fun lo hd F2 H2 s2 => ⟨g, F2, ρ, (sr.step s1).step s2, hh.mono ρ _ _ (fun hi hd F3 H3 s3 => by
    have s := (s1.trans s2).trans s3
    have bs := s.bs sr.bs
    split at hd
    · obtain ⟨p, vs, rfl, hp, m, r⟩ := ((rv.step s2).step s3).lst bs
      exact .inl ⟨p, vs, rfl, .inl (.inl hp), fun l hn => hd (upd F3 l _) _ _ (s.trans (bs.alloc hn _)) ⟨l, _, rfl, upd_same, (r.cut _ _).mono (.new (bs.sub.none hn))⟩⟩
    · obtain ⟨p, vs, rfl, hp, r⟩ := ((rv.step s2).step s3).tup
      refine .inr ⟨p, vs, rfl, bs.sub.sqT hp, fun hw => ?_, fun _ l o hn hc hdn => hd (upd F3 l _) _ _ (s.trans (bs.alloc hn _)) ⟨l, _, rfl, FrT.new hc hdn, (r.cut _ _).mono (.new (bs.sub.none hn))⟩⟩
      rw [r.length] at hw
      have q' := hd F3 H3 (.ref p) s
      rw [cut_whole hw] at q'
      exact q' ⟨p, vs, rfl, hp, r⟩
    · exact hd.elim) hd⟩) hd⟩) q⟩, fun ρ Q Q' f q => ha.mono ρ _ _ (fun d q => hl.mono ρ _ _ (fun lo q => hh.mono ρ _ _ (fun hi q => by
    split at q
    · exact f _ q
    · exact f _ q
    · exact q.elim) q) q) q⟩

/-! ### list(range(..)) -/
def rgD (a b : Int) : List D := (List.range (b - a).toNat).map fun i => PyData.int (a + (i : Nat))
theorem RpL.rg {K : PySem.W.Frag} {H : Hp} (a b : Int) : RpL K H (rgD a b) (rgV a b) := by
  unfold rgD rgV
  have h : ∀ l : List Nat, RpL K H (l.map fun i => PyData.int (a + (i : Nat))) (l.map fun i => V.int (a + (i : Nat))) := fun l => by
    induction l with
    | nil => rfl
    | cons x l ih => exact ⟨_, _, rfl, rfl, ih⟩
  exact h _
def kRg1 (n : Int) (Q : Int → Int → Prop) : Prop := RgOk 0 n ∧ Q 0 n
theorem fe_listRg1 {p2 pos2 : Pos} (hc : X.calm = true) (hg : Gl X "list") (hm : X.mg "list" = none) (hg2 : Gl X "range") (hm2 : X.mg "range" = none) (ha : RE X e M a ta)
    (na : starEach [a] X.env = (false, eval a X.env) :: starEach [] X.env := by rfl)
    (nb : starEach [.Call (.Name "range" p2) [a] [] pos2] X.env = (false, eval (.Call (.Name "range" p2) [a] [] pos2) X.env) :: starEach [] X.env := by rfl) :
    FE X e M (.Call (.Name "list" p) [.Call (.Name "range" p2) [a] [] pos2] [] pos) (fun ρ Q => ta ρ fun d => match d with | .int n => RgOk 0 n ∧ Q (rgD 0 n) | _ => False) :=
  ⟨pe_imp (pe_listRg hc hg hm (prg_1 hg2 hm2 ha.pe na) nb) fun σ H Q ⟨g, F, ρ, sr, q⟩ => ⟨g, F, ρ, sr, ha.mono ρ _ _ (fun d hd F1 H1 v s rv => by
    split at hd
    · exact ⟨_, rv.int, hd.1, fun l hn => hd.2 F1 _ l _ (s.trans ((s.bs sr.bs).hide hn _)) (s.old hn) (s.sub.none hn) upd_same (.rg _ _)⟩
    · exact hd.elim) q⟩, fun ρ Q Q' f q => ha.mono ρ _ _ (fun d q => by
    split at q
    · exact ⟨q.1, f _ q.2⟩
    · exact q.elim) q⟩
theorem fe_listRg2 {p2 pos2 : Pos} (hc : X.calm = true) (hg : Gl X "list") (hm : X.mg "list" = none) (hg2 : Gl X "range") (hm2 : X.mg "range" = none) (ha : RE X e M a ta) (hb : RE X e M b tb)
    (na : starEach [a, b] X.env = (false, eval a X.env) :: starEach [b] X.env := by rfl) (na2 : starEach [b] X.env = (false, eval b X.env) :: starEach [] X.env := by rfl)
    (hpl : (backTo pos2 (starEach [b] X.env)).any (·.1) = false := by rfl)
    (nb : starEach [.Call (.Name "range" p2) [a, b] [] pos2] X.env = (false, eval (.Call (.Name "range" p2) [a, b] [] pos2) X.env) :: starEach [] X.env := by rfl) :
    FE X e M (.Call (.Name "list" p) [.Call (.Name "range" p2) [a, b] [] pos2] [] pos) (fun ρ Q => ta ρ fun d => tb ρ fun d' => match d, d' with | .int m, .int n => RgOk m n ∧ Q (rgD m n) | _, _ => False) :=
  ⟨pe_imp (pe_listRg hc hg hm (prg_2 hg2 hm2 ha.pe hb.pe na na2 hpl) nb) fun σ H Q ⟨g, F, ρ, sr, q⟩ => ⟨g, F, ρ, sr, ha.mono ρ _ _ (fun d hd F1 H1 v s1 rv => ⟨g, F1, ρ, sr.step s1, hb.mono ρ _ _ (fun d' hd F2 H2 v2 s2 rv2 => by
    have s := s1.trans s2
    split at hd
    · exact ⟨_, _, rv.int, rv2.int, hd.1, fun l hn => hd.2 F2 _ l _ (s.trans ((s.bs sr.bs).hide hn _)) (s.old hn) (s.sub.none hn) upd_same (.rg _ _)⟩
    · exact hd.elim) hd⟩) q⟩, fun ρ Q Q' f q => ha.mono ρ _ _ (fun d q => hb.mono ρ _ _ (fun d' q => by
    split at q
    · exact ⟨q.1, f _ q.2⟩
    · exact q.elim) q) q⟩
end
end PP

set_option Elab.async false
set_option linter.all false
set_option maxRecDepth 100000
set_option maxHeartbeats 4000000
namespace PP
open PySem PySem.Spec PyProof.Rows L2

/-! ### stores into slots -/
section
variable {K : PySem.W.Frag} {e : Ent} {M : List Md} {g : Rg} {F H F' H' : Hp} {σ : L2.St} {ρ : En}
theorem SR.lt (s : SR K e M g F H σ ρ) {i : Nat} {d : D} (h : gt ρ i = some d) : i < σ.length := by
  obtain ⟨v, q, _⟩ := s.slot i d h
  exact (List.getElem?_eq_some_iff.mp q).1
theorem set_at {σ : L2.St} {i j : Nat} {x : Option V} : (σ.set i x)[j]? = if j = i then (if i < σ.length then some x else none) else σ[j]? := by
  by_cases e : j = i
  · subst e
    rw [if_pos rfl]
    by_cases h : j < σ.length
    · rw [if_pos h, List.getElem?_set_self h]
    · rw [if_neg h, List.getElem?_eq_none (by simpa using h)]
  · rw [if_neg e, List.getElem?_set_ne (Ne.symm e)]
theorem SR.setv (s : SR K e M g F H σ ρ) {i : Nat} (hm : md M i = .val) {d : D} {v : V} (r : Rp K F d v) : SR K e M g F H (σ.set i (some v)) (sv ρ i (some d)) where
  bs := s.bs
  stp := s.stp
  grel := s.grel
  low := s.low
  solo := s.solo
  len := by rw [List.length_set, sv_len]; exact s.len
  slot := fun j d' h => by
    rw [gt_sv] at h
    by_cases hj : j = i
    · subst hj
      rw [if_pos rfl] at h
      split at h
      · rename_i hl
        cases h
        refine ⟨v, by rw [set_at, if_pos rfl, if_pos (by rw [s.len]; exact hl)], ?_⟩
        rw [hm]; exact r
      · cases h
    · rw [if_neg hj] at h
      obtain ⟨u, h1, h2⟩ := s.slot j d' h
      exact ⟨u, by rw [set_at, if_neg hj]; exact h1, h2⟩
  dis := fun j k v w p hjk h1 h2 h3 h4 h5 h6 => by
    have nj : j ≠ i := fun z => by subst z; rw [hm] at h5; exact h5
    have nk : k ≠ i := fun z => by subst z; rw [hm] at h6; exact h6
    rw [set_at, if_neg nj] at h3
    rw [set_at, if_neg nk] at h4
    rw [gt_sv, if_neg nj] at h1
    rw [gt_sv, if_neg nk] at h2
    exact s.dis j k v w p hjk h1 h2 h3 h4 h5 h6
theorem SR.setx (s : SR K e M g F H σ ρ) {i : Nat} (hm : md M i = .ex) {d : D} {v : V} (r : ExM K F d v) : SR K e M g F H (σ.set i (some v)) (sv ρ i (some d)) where
  bs := s.bs
  stp := s.stp
  grel := s.grel
  low := s.low
  solo := s.solo
  len := by rw [List.length_set, sv_len]; exact s.len
  slot := fun j d' h => by
    rw [gt_sv] at h
    by_cases hj : j = i
    · subst hj
      rw [if_pos rfl] at h
      split at h
      · rename_i hl
        cases h
        refine ⟨v, by rw [set_at, if_pos rfl, if_pos (by rw [s.len]; exact hl)], ?_⟩
        rw [hm]; exact r
      · cases h
    · rw [if_neg hj] at h
      obtain ⟨u, h1, h2⟩ := s.slot j d' h
      exact ⟨u, by rw [set_at, if_neg hj]; exact h1, h2⟩
  dis := fun j k v w p hjk h1 h2 h3 h4 h5 h6 => by
    have nj : j ≠ i := fun z => by subst z; rw [hm] at h5; exact h5
    have nk : k ≠ i := fun z => by subst z; rw [hm] at h6; exact h6
    rw [set_at, if_neg nj] at h3
    rw [set_at, if_neg nk] at h4
    rw [gt_sv, if_neg nj] at h1
    rw [gt_sv, if_neg nk] at h2
    exact s.dis j k v w p hjk h1 h2 h3 h4 h5 h6
/-- a slot's own address was there before -/
theorem SR.mineAt (s : SR K e M g F H σ ρ) {i : Nat} (hm : (md M i).mine = true) (h : gt ρ i ≠ none) : ∃ p, σ[i]? = some (some (.ref p)) ∧ H p ≠ none ∧ e.H p = none := by
  cases q : gt ρ i with
  | none => exact absurd q h
  | some d =>
    obtain ⟨v, h1, h2⟩ := s.slot i d q
    cases hq : md M i with
    | own =>
      rw [hq] at h2
      obtain ⟨p, vs, ds, e1, _, h3, _, _, h6, _⟩ := h2
      subst e1
      exact ⟨p, h1, by rw [h3]; simp, h6⟩
    | od =>
      rw [hq] at h2
      obtain ⟨p, vs, ds, e1, _, h3, _, _, h6, _⟩ := h2
      subst e1
      exact ⟨p, h1, by rw [h3]; simp, h6⟩
    | val => rw [hq] at hm; cases hm
    | ex => rw [hq] at hm; cases hm
    | bor => rw [hq] at hm; cases hm
    | dk => rw [hq] at hm; cases hm
    | oo => rw [hq] at hm; cases hm
    | ob _ _ => rw [hq] at hm; cases hm
/-- a new object of ours into a slot -/
theorem SR.setmF (s : SR K e M g F H σ ρ) (t : Stp g F H F' H') {i : Nat} {p : Addr} (hp : ∀ q, foot H' (md M i) (.ref p) q → H q = none) {d : D} (ok : SlotOk K e g F' H' (md M i) d (.ref p)) : SR K e M g F' H' (σ.set i (some (.ref p))) (sv ρ i (some d)) where
  bs := t.bs s.bs
  low := s.low.trans t.mono
  solo := s.solo
  stp := s.stp' t
  grel := s.grel
  len := by rw [List.length_set, sv_len]; exact s.len
  slot := fun j d' h => by
    rw [gt_sv] at h
    by_cases hj : j = i
    · subst hj
      rw [if_pos rfl] at h
      split at h
      · rename_i hl
        cases h
        exact ⟨_, by rw [set_at, if_pos rfl, if_pos (by rw [s.len]; exact hl)], ok⟩
      · cases h
    · rw [if_neg hj] at h
      obtain ⟨u, h1, h2⟩ := s.slot j d' h
      exact ⟨u, by rw [set_at, if_neg hj]; exact h1, h2.step t⟩
  dis := fun j k v w q hjk h1 h2 h3 h4 h5 h6 => by
    have key : ∀ {a : Nat} {u : V}, a ≠ i → gt (sv ρ i (some d)) a ≠ none → (σ.set i (some (.ref p)))[a]? = some (some u) → foot H' (md M a) u q → gt ρ a ≠ none ∧ σ[a]? = some (some u) ∧ foot H (md M a) u q ∧ H q ≠ none := fun {a u} na ha hq hf => by
      rw [gt_sv, if_neg na] at ha
      rw [set_at, if_neg na] at hq
      obtain ⟨d1, _, k1⟩ := s.slotAt ha hq
      have f1 := k1.footBack (fun b o _ hb _ hm _ _ => t.keep b o hb hm) hf
      obtain ⟨⟨o, ho⟩, _⟩ := k1.footAt f1
      exact ⟨ha, hq, f1, by rw [ho]; simp⟩
    have new : ∀ {u : V}, (σ.set i (some (.ref p)))[i]? = some (some u) → foot H' (md M i) u q → H q = none := fun {u} hq hf => by
      rw [set_at, if_pos rfl] at hq
      split at hq
      · cases hq; exact hp q hf
      · cases hq
    by_cases ej : j = i
    · have nk : k ≠ i := fun z => hjk (ej.trans z.symm)
      subst ej
      exact (key nk h2 h4 h6).2.2.2 (new h3 h5)
    · by_cases ek : k = i
      · subst ek
        exact (key ej h1 h3 h5).2.2.2 (new h4 h6)
      · obtain ⟨a1, a2, a3, _⟩ := key ej h1 h3 h5
        obtain ⟨b1, b2, b3, _⟩ := key ek h2 h4 h6
        exact s.dis j k v w q hjk a1 b1 a2 b2 a3 b3
theorem SR.setm (s : SR K e M g F H σ ρ) (t : Stp g F H F' H') {i : Nat} {p : Addr} (hp : H p = none) {d : D} (ok : SlotOk K e g F' H' (md M i) d (.ref p)) (hmi : (md M i).mine = true := by first | rfl | (simp only [*]; rfl) | assumption) : SR K e M g F' H' (σ.set i (some (.ref p))) (sv ρ i (some d)) :=
  s.setmF t (fun q h => by
    have := (foot_mine hmi).mp h
    cases this
    exact hp) ok
theorem SR.old (s : SR K e M g F H σ ρ) {p : Addr} (h : H p = none) : e.H p = none := s.stp.old h
theorem SR.nmem (s : SR K e M g F H σ ρ) {p : Addr} (h : H p = none) : ¬ g.mem p := fun m => g.dom _ s.bs.ok p m h
/-- a slot is forgotten -/
theorem SR.drop (s : SR K e M g F H σ ρ) (i : Nat) : SR K e M g F H σ (sv ρ i none) where
  bs := s.bs
  stp := s.stp
  grel := s.grel
  low := s.low
  solo := s.solo
  len := by rw [sv_len]; exact s.len
  slot := fun j d h => by
    rw [gt_sv] at h
    split at h
    · split at h <;> cases h
    · exact s.slot j d h
  dis := fun j k v w p hjk h1 h2 h3 h4 h5 h6 => by
    rw [gt_sv] at h1 h2
    refine s.dis j k v w p hjk ?_ ?_ h3 h4 h5 h6
    · split at h1
      · split at h1 <;> exact absurd rfl h1
      · exact h1
    · split at h2
      · split at h2 <;> exact absurd rfl h2
      · exact h2
theorem SR.undef (s : SR K e M g F H σ ρ) (i : Nat) : SR K e M g F H (σ.set i none) (sv ρ i none) where
  bs := s.bs
  stp := s.stp
  grel := s.grel
  low := s.low
  solo := s.solo
  len := by rw [sv_len, List.length_set]; exact s.len
  slot := fun j d h => by
    rw [gt_sv] at h
    by_cases hj : j = i
    · rw [if_pos hj] at h; split at h <;> cases h
    · rw [if_neg hj] at h
      obtain ⟨v, h1, h2⟩ := s.slot j d h
      exact ⟨v, by rw [set_at, if_neg hj]; exact h1, h2⟩
  dis := fun j k v w p hjk h1 h2 h3 h4 h5 h6 => by
    have nj : j ≠ i := fun z => by rw [gt_sv, if_pos z] at h1; split at h1 <;> exact absurd rfl h1
    have nk : k ≠ i := fun z => by rw [gt_sv, if_pos z] at h2; split at h2 <;> exact absurd rfl h2
    rw [gt_sv, if_neg nj] at h1
    rw [gt_sv, if_neg nk] at h2
    rw [set_at, if_neg nj] at h3
    rw [set_at, if_neg nk] at h4
    exact s.dis j k v w p hjk h1 h2 h3 h4 h5 h6
/-- a part of our thing at slot i changes -/
theorem SR.pokeG (s : SR K e M g F H σ ρ) {i : Nat} {d d' : D} {v : V} {p : Addr} {o : HO} (h : gt ρ i = some d) (hσ : σ[i]? = some (some v)) (hp : foot H (md M i) v p)
    (ok : SlotOk K e g F (upd H p o) (md M i) d' v) (hb : ∀ q, foot (upd H p o) (md M i) v q → foot H (md M i) v q) : SR K e M g F (upd H p o) σ (sv ρ i (some d')) := by
  have gi : gt ρ i ≠ none := by rw [h]; simp
  obtain ⟨d0, e0, k0⟩ := s.slotAt gi hσ
  obtain ⟨_, f, n, m⟩ := k0.footAt hp
  have off : ∀ j u q, j ≠ i → gt ρ j ≠ none → σ[j]? = some (some u) → foot H (md M j) u q → q ≠ p := fun j u q hj gj hu hf z => by
    subst z
    exact s.dis j i u v q hj gj gi hu hσ hf hp
  have bk : ∀ j u q, j ≠ i → gt ρ j ≠ none → σ[j]? = some (some u) → foot (upd H p o) (md M j) u q → foot H (md M j) u q := fun j u q hj gj hu hf => by
    obtain ⟨d1, _, k1⟩ := s.slotAt gj hu
    exact k1.footBack (fun a o' _ ha _ _ _ fa => by rw [upd_ne (off j u a hj gj hu fa)]; exact ha) hf
  refine ⟨⟨s.bs.sub.at f, g.loc _ _ (fun a ma => upd_ne (fun z => by subst z; exact m ma)) s.bs.ok, s.bs.out⟩, ?_, s.grel, by rw [sv_len]; exact s.len, fun j d1 hj => ?_, fun j k u w q hjk h1 h2 h3 h4 h5 h6 => ?_, s.low, s.solo⟩
  · have hm' : ¬ e.g.mem p := by
      rcases s.grel with q | ⟨q, _⟩
      · rw [← q]; exact m
      · rw [q]; exact fun z => z
    exact s.stp.poke n f hm' o
  · rw [gt_sv] at hj
    by_cases ej : j = i
    · subst ej
      rw [if_pos rfl] at hj
      split at hj
      · cases hj; exact ⟨_, hσ, ok⟩
      · cases hj
    · rw [if_neg ej] at hj
      obtain ⟨u, h1, h2⟩ := s.slot j d1 hj
      exact ⟨u, h1, h2.off fun q o' fq hq => by rw [upd_ne (off j u q ej (by rw [hj]; simp) h1 fq)]; exact hq⟩
  · have g1 : gt ρ j ≠ none := by
      rw [gt_sv] at h1
      split at h1
      · rename_i z; rw [z]; exact gi
      · exact h1
    have g2 : gt ρ k ≠ none := by
      rw [gt_sv] at h2
      split at h2
      · rename_i z; rw [z]; exact gi
      · exact h2
    have c : ∀ a u, gt ρ a ≠ none → σ[a]? = some (some u) → foot (upd H p o) (md M a) u q → foot H (md M a) u q := fun a u ga ha hf => by
      by_cases ea : a = i
      · subst ea
        rw [hσ] at ha
        cases ha
        exact hb q hf
      · exact bk a u q ea ga ha hf
    exact s.dis j k u w q hjk g1 g2 h3 h4 (c j u g1 h3 h5) (c k w g2 h4 h6)
/-- our object at slot i changes -/
theorem SR.poke (s : SR K e M g F H σ ρ) {i : Nat} {d d' : D} {p : Addr} {o : HO} (hm : (md M i).mine = true) (h : gt ρ i = some d) (hσ : σ[i]? = some (some (.ref p))) (f : F p = none) (n : e.H p = none) (m : ¬ g.mem p)
    (ok : SlotOk K e g F (upd H p o) (md M i) d' (.ref p)) : SR K e M g F (upd H p o) σ (sv ρ i (some d')) :=
  s.pokeG h hσ ((foot_mine hm).mpr rfl) ok fun q hq => (foot_mine hm).mpr ((foot_mine hm).mp hq)
end

/-! ### statements -/
structure DEnds where
  nx : En → Prop
  rt : D → Prop
  bk : En → Prop := fun _ => False
  ct : En → Prop := fun _ => False
  /-- a method returns: the value, and what stands then -/
  rs : D → En → Prop := fun _ _ => False
abbrev DTS := DEnds → En → Prop
structure DImp (d d' : DEnds) : Prop where
  nx : ∀ ρ, d.nx ρ → d'.nx ρ
  rt : ∀ x, d.rt x → d'.rt x
  bk : ∀ ρ, d.bk ρ → d'.bk ρ
  ct : ∀ ρ, d.ct ρ → d'.ct ρ
  rs : ∀ x ρ, d.rs x ρ → d'.rs x ρ := by intro x ρ h; exact h
def MonoS (t : DTS) : Prop := ∀ d d' ρ, DImp d d' → t d ρ → t d' ρ
structure Hooks (K : PySem.W.Frag) (e : Ent) (M : List Md) (d : DEnds) (E : Ends) : Prop where
  nx : ∀ g F H σ ρ, SR K e M g F H σ ρ → d.nx ρ → E.nx σ H
  rt : ∀ F H x v, Stp e.g e.F e.H F H → Rp K F x v → d.rt x → E.rt v H
  bk : ∀ g F H σ ρ, SR K e M g F H σ ρ → d.bk ρ → E.bk σ H
  ct : ∀ g F H σ ρ, SR K e M g F H σ ρ → d.ct ρ → E.ct σ H
  rs : ∀ g F H σ ρ x v, SR K e M g F H σ ρ → Rp K F x v → d.rs x ρ → E.rt v H
def rdS (K : PySem.W.Frag) (e : Ent) (M : List Md) (t : DTS) : TS := fun E σ H => ∃ g F ρ d, SR K e M g F H σ ρ ∧ t d ρ ∧ Hooks K e M d E
structure DS (X : Cx) (e : Ent) (M : List Md) (st : Stmt) (t : DTS) : Prop where
  ps : PS X st (rdS X.K e M t)
  mono : MonoS t
structure DSs (X : Cx) (e : Ent) (M : List Md) (st : List Stmt) (t : DTS) : Prop where
  ps : PSs X st (rdS X.K e M t)
  mono : MonoS t
section
variable {X : Cx} {e : Ent} {M : List Md} {st : Stmt} {rest : List Stmt} {a b c : Expr} {t u : DTS} {ta tb : DT} {tA : DB} {pos : Pos}
theorem Hooks.next {K : PySem.W.Frag} {d : DEnds} {E : Ends} (h : Hooks K e M d E) : Hooks K e M { d with nx := u d } { E with nx := rdS K e M u E } :=
  ⟨fun g F H σ ρ s q => ⟨g, F, ρ, d, s, q, h⟩, h.rt, h.bk, h.ct, h.rs⟩
theorem dss_nil : DSs X e M [] (fun d ρ => d.nx ρ) := ⟨pss_imp pss_nil fun E σ H ⟨g, F, ρ, d, s, q, h⟩ => h.nx g F H σ ρ s q, fun d d' ρ i q => i.nx ρ q⟩
def tSq (t u : DTS) : DTS := fun d ρ => t { d with nx := u d } ρ
theorem dss_cons (h1 : DS X e M st t) (h2 : DSs X e M rest u) : DSs X e M (st :: rest) (tSq t u) :=
  ⟨pss_imp (pss_cons h1.ps h2.ps) fun E σ H ⟨g, F, ρ, d, s, q, h⟩ => ⟨g, F, ρ, _, s, q, h.next⟩,
    fun d d' ρ i q => h1.mono { d with nx := u d } { d' with nx := u d' } ρ ⟨fun ρ q => h2.mono d d' ρ i q, i.rt, i.bk, i.ct, i.rs⟩ q⟩
theorem dss_one (h1 : DS X e M st t) : DSs X e M [st] t := ⟨pss_imp (pss_one h1.ps) fun E σ H q => q, h1.mono⟩
theorem ds_pass : DS X e M (.Pass pos) (fun d ρ => d.nx ρ) := ⟨ps_imp ps_pass fun E σ H ⟨g, F, ρ, d, s, q, h⟩ => h.nx g F H σ ρ s q, fun d d' ρ i q => i.nx ρ q⟩
theorem ds_break : DS X e M (.Break pos) (fun d ρ => d.bk ρ) := ⟨ps_imp ps_break fun E σ H ⟨g, F, ρ, d, s, q, h⟩ => h.bk g F H σ ρ s q, fun d d' ρ i q => i.bk ρ q⟩
theorem ds_continue : DS X e M (.Continue pos) (fun d ρ => d.ct ρ) := ⟨ps_imp ps_continue fun E σ H ⟨g, F, ρ, d, s, q, h⟩ => h.ct g F H σ ρ s q, fun d d' ρ i q => i.ct ρ q⟩
theorem ds_ret (ha : DE X e M a ta) : DS X e M (.Return (some a) pos) (fun d ρ => ta ρ d.rt) :=
  ⟨ps_imp (ps_ret ha.pe) fun E σ H ⟨g, F, ρ, d, s, q, h⟩ => ⟨g, F, ρ, s, ha.mono ρ _ _ (fun x hx F' H' v t r => h.rt F' H' x v (s.stp' t) r hx) q⟩, fun d d' ρ i q => ha.mono ρ _ _ i.rt q⟩
theorem ds_retN : DS X e M (.Return none pos) (fun d ρ => d.rt .none) :=
  ⟨ps_imp ps_retN fun E σ H ⟨g, F, ρ, d, s, q, h⟩ => h.rt F H .none .non s.stp rfl q, fun d d' ρ i q => i.rt _ q⟩
theorem ds_retS (ha : DE X e M a ta) : DS X e M (.Return (some a) pos) (fun d ρ => ta ρ fun x => d.rs x ρ) :=
  ⟨ps_imp (ps_ret ha.pe) fun E σ H ⟨g, F, ρ, d, s, q, h⟩ => ⟨g, F, ρ, s, ha.mono ρ _ _ (fun x hx F' H' v t r => h.rs g F' H' σ ρ x v (s.step t) r hx) q⟩, fun d d' ρ i q => ha.mono ρ _ _ (fun x q => i.rs x ρ q) q⟩
theorem ds_retSN : DS X e M (.Return none pos) (fun d ρ => d.rs .none ρ) :=
  ⟨ps_imp ps_retN fun E σ H ⟨g, F, ρ, d, s, q, h⟩ => h.rs g F H σ ρ .none .non s rfl q, fun d d' ρ i q => i.rs _ _ q⟩
/-- return of a list of ours -/
theorem ds_retO {i : Nat} {y : Str} {p2 : Pos} (hN : X.N[i]? = some y) (hv : Vis X.env.scope y) (hm : md M i = .own := by rfl) (hd : (y == ("__debug__" : Str)) = false := by decide) (hcd : (y == ("__classdict__" : Str)) = false := by decide) :
    DS X e M (.Return (some (.Name y p2)) pos) (fun d ρ => tV i ρ d.rt) :=
  ⟨ps_imp (ps_ret (pe_var hN hv hd hcd)) fun E σ H ⟨g, F, ρ, d, s, q, h⟩ => by
    have q : tV i ρ d.rt := q
    unfold tV at q
    split at q
    · rename_i x hx
      obtain ⟨v, h1, h2⟩ := s.slot i x hx
      rw [hm] at h2
      obtain ⟨p, vs, ds, e1, e2, h3, h4, h5, h6, h7⟩ := h2
      subst e1 e2
      exact ⟨_, h1, h.rt (upd F p (.lst vs)) H (.list ds) _ (s.stp.freeze h6 h5 h3) ⟨p, vs, rfl, upd_same, h4.mono (.new h5)⟩ q⟩
    · exact q.elim, fun d d' ρ j q => tV_mono i ρ _ _ j.rt q⟩
theorem ds_if {xs ys : List Stmt} (hc : DC X e M c tA) (ha : DSs X e M xs t) (hb : DSs X e M ys u) : DS X e M (.If c xs ys pos) (fun d ρ => tA ρ fun b => if b = true then t d ρ else u d ρ) :=
  ⟨ps_imp (ps_if hc.pt ha.ps hb.ps) fun E σ H ⟨g, F, ρ, d, s, q, h⟩ => ⟨g, F, ρ, s, hc.mono ρ _ _ (fun b hb F' H' s' => by
    cases b with
    | true => exact ⟨g, F', ρ, d, s.step s', hb, h⟩
    | false => exact ⟨g, F', ρ, d, s.step s', hb, h⟩) q⟩, fun d d' ρ i q => hc.mono ρ _ _ (fun b q => by
    cases b with
    | true => exact ha.mono d d' ρ i q
    | false => exact hb.mono d d' ρ i q) q⟩
theorem ds_expr (ha : DE X e M a ta) (hs : swapsWith a none pos.line X.env = pure false := by rfl) : DS X e M (.Expr a pos) (fun d ρ => ta ρ fun _ => d.nx ρ) :=
  ⟨ps_imp (ps_expr ha.pe hs) fun E σ H ⟨g, F, ρ, d, s, q, h⟩ => ⟨g, F, ρ, s, ha.mono ρ _ _ (fun x hx F' H' v t r => h.nx g F' H' σ ρ (s.step t) hx) q⟩, fun d d' ρ i q => ha.mono ρ _ _ (fun _ q => i.nx ρ q) q⟩

/-! ### stores -/
theorem ds_set {i : Nat} {y : Str} {p2 : Pos} (hN : X.N.Nodup) (hi : X.N[i]? = some y) (hx : Loc X.env.scope y) (ha : DE X e M a ta) (hm : md M i = .val := by rfl) (hs : swapsWith a (some (.Name y p2)) pos.line X.env = pure false := by rfl)
    (hf : X.fn y = true ∨ X.env.scope.names.lookup y = some .local := by first | exact .inl rfl | exact .inr rfl | assumption) : DS X e M (.Assign [.Name y p2] a pos) (fun d ρ => ta ρ fun x => d.nx (sv ρ i (some x))) :=
  ⟨ps_imp (L2.ps_set hN hi hx ha.pe hs hf) fun E σ H ⟨g, F, ρ, d, s, q, h⟩ => ⟨g, F, ρ, s, ha.mono ρ _ _ (fun x hx F' H' v t r => h.nx g F' H' _ _ ((s.step t).setv hm r) hx) q⟩, fun d d' ρ i q => ha.mono ρ _ _ (fun _ q => i.nx _ q) q⟩
end
end PP

set_option Elab.async false
set_option linter.all false
set_option maxRecDepth 100000
set_option maxHeartbeats 4000000
namespace PP
open PySem PySem.Spec PyProof.Rows L2

section
variable {X : Cx} {e : Ent} {M : List Md} {st : Stmt} {rest : List Stmt} {a b c : Expr} {t u : DTS} {ta tb : DT} {tA : DB} {pos : Pos}
/-- a new list into a slot of ours -/
theorem ds_setO {i : Nat} {y : Str} {p2 : Pos} {tF : DA} (hN : X.N.Nodup) (hi : X.N[i]? = some y) (hx : Loc X.env.scope y) (ha : FE X e M a tF) (hm : md M i = .own := by rfl) (hs : swapsWith a (some (.Name y p2)) pos.line X.env = pure false := by rfl)
    (hf : X.fn y = true ∨ X.env.scope.names.lookup y = some .local := by first | exact .inl rfl | exact .inr rfl | assumption) : DS X e M (.Assign [.Name y p2] a pos) (fun d ρ => tF ρ fun xs => d.nx (sv ρ i (some (.list xs)))) :=
  ⟨ps_imp (L2.ps_set hN hi hx ha.pe hs hf) fun E σ H ⟨g, F, ρ, d, s, q, h⟩ => ⟨g, F, ρ, s, ha.mono ρ _ _ (fun xs hx F' H' p vs t hp hf hh r =>
    h.nx g F' H' _ _ (s.setm t hp (by rw [hm]; exact ⟨p, vs, xs, rfl, rfl, hh, r, hf, s.old hp, s.nmem hp⟩)) hx) q⟩, fun d d' ρ i q => ha.mono ρ _ _ (fun _ q => i.nx _ q) q⟩

/-! ### targets -/
abbrev DG := D → En → (En → Prop) → Prop
abbrev DGs := List D → En → (En → Prop) → Prop
def Same' (L : List Nat) (σ σ' : L2.St) : Prop := σ'.length = σ.length ∧ ∀ j, j ∉ L → σ'[j]? = σ[j]?
def rdTg (K : PySem.W.Frag) (e : Ent) (M : List Md) (L : List Nat) (t : DG) : TG := fun v σ H Q => ∃ g F ρ d, SR K e M g F H σ ρ ∧ Rp K F d v ∧ t d ρ fun ρ' => ∀ F' H' σ', Stp g F H F' H' → SR K e M g F' H' σ' ρ' → Same' L σ σ' → Q σ' H'
def rdTgs (K : PySem.W.Frag) (e : Ent) (M : List Md) (L : List Nat) (t : DGs) : TGs := fun vs σ H Q => ∃ g F ρ ds, SR K e M g F H σ ρ ∧ RpL K F ds vs ∧ t ds ρ fun ρ' => ∀ F' H' σ', Stp g F H F' H' → SR K e M g F' H' σ' ρ' → Same' L σ σ' → Q σ' H'
def MonoG {α : Type} (t : α → En → (En → Prop) → Prop) : Prop := ∀ x ρ (Q Q' : En → Prop), (∀ ρ, Q ρ → Q' ρ) → t x ρ Q → t x ρ Q'
structure GT (X : Cx) (e : Ent) (M : List Md) (L : List Nat) (tg : Expr) (t : DG) : Prop where
  pg : PG X tg (rdTg X.K e M L t)
  mono : MonoG t
structure GTs (X : Cx) (e : Ent) (M : List Md) (L : List Nat) (tg : List Expr) (t : DGs) : Prop where
  pg : PGs X tg (rdTgs X.K e M L t)
  mono : MonoG t
theorem pg_imp {x : Expr} {t t' : TG} (h : PG X x t) (f : ∀ v σ H Q, t' v σ H Q → t v σ H Q) : PG X x t' := ⟨fun pins s σ H v u Q I r hw => h.run pins s σ H v u Q I r (f v σ H Q hw)⟩
theorem pgs_imp {x : List Expr} {t t' : TGs} (h : PGs X x t) (f : ∀ v σ H Q, t' v σ H Q → t v σ H Q) : PGs X x t' := ⟨fun pins s σ H v u Q I r hw => h.run pins s σ H v u Q I r (f v σ H Q hw)⟩
def gN (i : Nat) : DG := fun d ρ Q => Q (sv ρ i (some d))
theorem gt_name {i : Nat} {y : Str} {L : List Nat} (hN : X.N.Nodup) (hi : X.N[i]? = some y) (hx : Loc X.env.scope y) (hm : md M i = .val := by rfl) (hL : i ∈ L := by simp)
    (hf : X.fn y = true ∨ X.env.scope.names.lookup y = some .local := by first | exact .inl rfl | exact .inr rfl | assumption) : GT X e M L (.Name y pos) (gN i) :=
  ⟨pg_imp (pg_name hN hi hx hf) fun v σ H Q ⟨g, F, ρ, d, s, r, q⟩ => q F H _ s.bs.refl (s.setv hm r) ⟨by simp, fun j hj => by
    rw [set_at, if_neg (fun z => hj (by subst z; exact hL))]⟩, fun _ _ _ _ f q => f _ q⟩
def gNilD : DGs := fun ds ρ Q => match ds with | [] => Q ρ | _ => False
def gConsD (t : DG) (u : DGs) : DGs := fun ds ρ Q => match ds with | d :: r => t d ρ fun ρ' => u r ρ' Q | _ => False
theorem Same'.refl {L : List Nat} {σ : L2.St} : Same' L σ σ := ⟨rfl, fun _ _ => rfl⟩
theorem Same'.trans {L : List Nat} {σ σ1 σ2 : L2.St} (h : Same' L σ σ1) (h' : Same' L σ1 σ2) : Same' L σ σ2 := ⟨h'.1.trans h.1, fun j n => (h'.2 j n).trans (h.2 j n)⟩
theorem gts_nil {L : List Nat} : GTs X e M L [] gNilD :=
  ⟨pgs_imp pgs_nil fun vs σ H Q ⟨g, F, ρ, ds, s, r, q⟩ => by
    have q : gNilD ds ρ _ := q
    unfold gNilD at q
    split at q
    · exact ⟨r, q F H σ s.bs.refl s .refl⟩
    · exact q.elim, fun x ρ Q Q' f q => by
    unfold gNilD at q ⊢
    split at q
    · exact f _ q
    · exact q.elim⟩
theorem gts_cons {L : List Nat} {x : Expr} {xs : List Expr} {t : DG} {u : DGs} (h1 : GT X e M L x t) (h2 : GTs X e M L xs u) (hs : (assignEach (x :: xs) X.env).map (·.2) = assign x X.env :: (assignEach xs X.env).map (·.2) := by rfl) : GTs X e M L (x :: xs) (gConsD t u) :=
  ⟨pgs_imp (pgs_cons h1.pg h2.pg hs) fun vs σ H Q ⟨g, F, ρ, ds, s, r, q⟩ => by
    have q : gConsD t u ds ρ _ := q
    unfold gConsD at q
    match ds, r, q with
    | d :: dr, r, q =>
      obtain ⟨v, vr, rfl, r1, r2⟩ := r
      exact ⟨v, vr, rfl, g, F, ρ, d, s, r1, h1.mono _ _ _ _ (fun ρ' hq F' H' σ' t' s' sm => ⟨g, F', ρ', dr, s', r2.mono t'.mono, h2.mono _ _ _ _ (fun ρ2 hq F2 H2 σ2 t2 s2 sm2 => hq F2 H2 σ2 (t'.trans t2) s2 (sm.trans sm2)) hq⟩) q⟩
    | [], r, q => exact q.elim, fun x ρ Q Q' f q => by
    unfold gConsD at q ⊢
    split at q
    · exact h1.mono _ _ _ _ (fun ρ q => h2.mono _ _ _ _ f q) q
    · exact q.elim⟩
def gTupD (n : Nat) (t : DGs) : DG := fun d ρ Q => match d with | .tuple ds => ds.length = n ∧ t ds ρ Q | _ => False
theorem gt_tup {L : List Nat} {es : List Expr} {k n : Nat} {t : DGs} (hc : X.calm = true) (h : GTs X e M L es t) (hn : (assignEach es X.env).length = n := by rfl) (hst : (assignEach es X.env).findIdx? (·.1) = none := by rfl) : GT X e M L (.Tuple es k pos) (gTupD n t) :=
  ⟨pg_imp (pg_tup hc h.pg hn hst) fun v σ H Q ⟨g, F, ρ, d, s, r, q⟩ => by
    have q : gTupD n t d ρ _ := q
    unfold gTupD at q
    split at q
    · obtain ⟨a, xs, rfl, hs, rl⟩ := r
      exact ⟨a, xs, rfl, s.bs.sub.sqT hs, by rw [rl.length]; exact q.1, g, F, ρ, _, s, rl, q.2⟩
    · exact q.elim, fun x ρ Q Q' f q => by
    unfold gTupD at q ⊢
    split at q
    · exact ⟨q.1, h.mono _ _ _ _ f q.2⟩
    · exact q.elim⟩
theorem ds_asg {L : List Nat} {tg : Expr} {g : DG} (ha : DE X e M a ta) (hg : GT X e M L tg g) (hs : swapsWithSole [tg] a pos.line X.env = pure false := by rfl) (hw : swappedStores [tg] a X.env = pure none := by rfl)
    (h1 : (assignEach [tg] X.env).map (·.2) = [assign tg X.env] := by rfl) : DS X e M (.Assign [tg] a pos) (fun d ρ => ta ρ fun x => g x ρ d.nx) :=
  ⟨ps_imp (ps_asg ha.pe hg.pg hs hw h1) fun E σ H ⟨g, F, ρ, d, s, q, h⟩ => ⟨g, F, ρ, s, ha.mono ρ _ _ (fun x hx F' H' v t r => ⟨g, F', ρ, x, s.step t, r, hg.mono _ _ _ _ (fun ρ' hq F2 H2 σ2 t2 s2 _ => h.nx g F2 H2 σ2 ρ' s2 hq) hx⟩) q⟩,
    fun d d' ρ i q => ha.mono ρ _ _ (fun x q => hg.mono _ _ _ _ i.nx q) q⟩

/-! ### what is walked -/
def Wk (K : PySem.W.Frag) (J : It) (ds : List D) (F0 : Hp) : Prop := ∀ g F H, Bs g F H → Le F0 F → ∀ i,
  (i < ds.length → J.go i H ∧ ∀ x H', J.yld i H x H' → ∃ F', Stp g F H F' H' ∧ ∀ d, ds[i]? = some d → Rp K F' d x) ∧ (ds.length ≤ i → J.stop i H)
def rdI (K : PySem.W.Frag) (e : Ent) (M : List Md) (t : DA) : TI := fun σ H R => ∃ g F ρ, SR K e M g F H σ ρ ∧ t ρ fun ds => ∀ F' H' J, Stp g F H F' H' → Wk K J ds F' → R J H'
structure DI (X : Cx) (e : Ent) (M : List Md) (tg iter : Expr) (t : DA) : Prop where
  pi : PI X tg iter (rdI X.K e M t)
  mono : Mono t
theorem pi_imp {tg x : Expr} {t t' : TI} (h : PI X tg x t) (f : ∀ σ H R, t' σ H R → t σ H R) : PI X tg x t' := ⟨fun pins s σ H R I hw => h.run pins s σ H R I (f σ H R hw)⟩
theorem wk_list {K : PySem.W.Frag} {F : Hp} {a : Addr} {xs : List V} {ds : List D} (h : F a = some (.lst xs)) (r : RpL K F ds xs) : Wk K (Itl K a) ds F := fun g F' H' bs l i => by
  have hq : SqL K H' a xs := .inl (.inl (bs.sub _ _ (l _ _ h)))
  have hl := r.length
  refine ⟨fun hi => ?_, fun hi => ⟨xs, hq, by omega⟩⟩
  have hx : i < xs.length := by omega
  refine ⟨⟨xs, xs[i], hq, by simp [hx]⟩, fun x H2 y => ?_⟩
  obtain ⟨e1, y⟩ := y
  subst e1
  refine ⟨F', bs.refl, fun d hd => ?_⟩
  obtain ⟨v, h1, h2⟩ := (r.mono l).get hd
  have := y xs hq
  rw [h1] at this; cases this; exact h2
theorem wk_tup {K : PySem.W.Frag} {F : Hp} {a : Addr} {xs : List V} {ds : List D} (h : FrT F a xs) (r : RpL K F ds xs) : Wk K (Itt K a) ds F := fun g F' H' bs l i => by
  have hq : SqT K H' a xs := bs.sub.sqT (l.frT h)
  have hl := r.length
  refine ⟨fun hi => ?_, fun hi => ⟨xs, hq, by omega⟩⟩
  have hx : i < xs.length := by omega
  refine ⟨⟨xs, xs[i], hq, by simp [hx]⟩, fun x H2 y => ?_⟩
  obtain ⟨e1, y⟩ := y
  subst e1
  refine ⟨F', bs.refl, fun d hd => ?_⟩
  obtain ⟨v, h1, h2⟩ := (r.mono l).get hd
  have := y xs hq
  rw [h1] at this; cases this; exact h2
/-- a list or a tuple -/
def iSeq (K : PySem.W.Frag) (tl : TE) : TI := fun σ H R => tl σ H fun x H1 =>
  (∃ a, x = .ref a ∧ (∃ xs, SqL K H1 a xs) ∧ R (Itl K a) H1) ∨ (∃ a, x = .ref a ∧ (∃ xs, SqT K H1 a xs) ∧ R (Itt K a) H1)
theorem pi_seq {tg l : Expr} {tl : TE} (hl : PE X l tl) : PI X tg l (iSeq X.K tl) := by
  constructor
  intro pins s σ H R I h
  refine thn (hl.run pins s σ H _ I h) ?_
  rintro v s1 ⟨x, H1, I1, r1, q1⟩
  have kp : Inv X pins σ H1 { s1 with heap := s1.heap.push { cls := .type "list_iterator", data := .fields #[] } } := I1.kept (t' := s1.toks) fun b o z => Heap.get?_push_of_some _ z
  rcases q1 with ⟨a, rfl, ⟨xs, hq⟩, q⟩ | ⟨a, rfl, ⟨xs, hq⟩, q⟩
  · cases r1
    obtain ⟨its, rv, p, hz⟩ := I1.list hq
    refine wpAny_pyIter_list p.isList ⟨s1.heap.objs.size, [s1.heap.objs.size], _, _, H1, rfl, I1.kept (t' := s1.toks) ?_, turn_list a _, ⟨_, Heap.get?_push_size _ rfl, rfl, rfl⟩, ?_, q⟩
    · intro b o z; exact Heap.get?_push_of_some _ z
    · intro b hb
      rw [List.mem_singleton.mp hb]
      exact I1.fpOk (Nat.le_refl _) (I1.hok.fresh (Nat.le_refl _))
  · cases r1
    obtain ⟨its, rv, p, hz⟩ := I1.tuple hq
    refine wpAny_pyIter_tuple (show s1.heap.IsTuple a its.toArray from p) ⟨s1.heap.objs.size, [s1.heap.objs.size], _, _, H1, rfl, I1.kept (t' := s1.toks) ?_, turn_tuple a _, ⟨_, Heap.get?_push_size _ rfl, rfl, rfl⟩, ?_, q⟩
    · intro b o z; exact Heap.get?_push_of_some _ z
    · intro b hb
      rw [List.mem_singleton.mp hb]
      exact I1.fpOk (Nat.le_refl _) (I1.hok.fresh (Nat.le_refl _))
def tSeqI (t : DT) : DA := fun ρ Q => t ρ fun d => match d with | .list ds => Q ds | .tuple ds => Q ds | _ => False
theorem di_seq {tg : Expr} (ha : DE X e M a ta) : DI X e M tg a (tSeqI ta) :=
  ⟨pi_imp (pi_seq ha.pe) fun σ H R ⟨g, F, ρ, s, q⟩ => ⟨g, F, ρ, s, ha.mono ρ _ _ (fun d hd F' H' v t r => by
    split at hd
    · obtain ⟨p, vs, rfl, hp, rl⟩ := r
      exact .inl ⟨p, rfl, ⟨vs, .inl (.inl (t.sub _ _ hp))⟩, hd F' H' _ t (wk_list hp rl)⟩
    · obtain ⟨p, vs, rfl, hp, rl⟩ := r
      exact .inr ⟨p, rfl, ⟨vs, t.sub.sqT hp⟩, hd F' H' _ t (wk_tup hp rl)⟩
    · exact hd.elim) q⟩, fun ρ Q Q' f q => ha.mono ρ _ _ (fun d q => by
    split at q
    · exact f _ q
    · exact f _ q
    · exact q.elim) q⟩
theorem wk_rng {K : PySem.W.Frag} {F : Hp} {lo hi : Int} : Wk K (Itr lo (hi - lo).toNat) (rgD lo hi) F := fun g F' H' bs l i => by
  have hl : (rgD lo hi).length = (hi - lo).toNat := by unfold rgD; simp
  refine ⟨fun h => ⟨by show i < (hi - lo).toNat; omega, fun x H2 y => ?_⟩, fun h => by show (hi - lo).toNat ≤ i; omega⟩
  obtain ⟨e1, e2⟩ := y
  subst e1 e2
  refine ⟨F', bs.refl, fun d hd => ?_⟩
  unfold rgD at hd
  rw [List.getElem?_map, List.getElem?_range (by omega)] at hd
  cases hd
  rfl
def RgI (j : Int) : Prop := -(2 ^ 62) ≤ j ∧ j < 2 ^ 62
theorem di_range1 {tg : Expr} {p : Pos} (hg : Gl X "range") (hm : X.mg "range" = none) (ha : RE X e M a ta) (hs : starEach [a] X.env = [(false, eval a X.env)] := by rfl) :
    DI X e M tg (.Call (.Name "range" p) [a] [] pos) (fun ρ Q => ta ρ fun d => match d with | .int n => RgI n ∧ Q (rgD 0 n) | _ => False) :=
  ⟨pi_imp (pi_range1 hg hm (pa_cons ha.pe pa_nil hs) hs) fun σ H R ⟨g, F, ρ, s, q⟩ => ⟨g, F, ρ, s, ha.mono ρ _ _ (fun d hd F' H' v t r => by
    split at hd
    · rename_i n
      refine ⟨n, by rw [r.int], hd.1.1, hd.1.2, ?_⟩
      have w := wk_rng (K := X.K) (F := F') (lo := 0) (hi := n)
      rw [Int.sub_zero] at w
      exact hd.2 F' H' _ t w
    · exact hd.elim) q⟩, fun ρ Q Q' f q => ha.mono ρ _ _ (fun d q => by
    split at q
    · exact ⟨q.1, f _ q.2⟩
    · exact q.elim) q⟩
theorem di_range2 {tg : Expr} {p : Pos} (hg : Gl X "range") (hm : X.mg "range" = none) (ha : RE X e M a ta) (hb : RE X e M b tb) (hs : starEach [a, b] X.env = [(false, eval a X.env), (false, eval b X.env)] := by rfl) (hs2 : starEach [b] X.env = [(false, eval b X.env)] := by rfl)
    (hs3 : starEach [a, b] X.env = (false, eval a X.env) :: starEach [b] X.env := by rfl) (hs4 : starEach [b] X.env = (false, eval b X.env) :: starEach [] X.env := by rfl) :
    DI X e M tg (.Call (.Name "range" p) [a, b] [] pos) (fun ρ Q => ta ρ fun d => tb ρ fun d' => match d, d' with | .int m, .int n => (RgI m ∧ RgI n) ∧ Q (rgD m n) | _, _ => False) :=
  ⟨pi_imp (pi_range2 hg hm (pa_cons ha.pe (pa_cons hb.pe pa_nil hs4) hs3) hs hs2) fun σ H R ⟨g, F, ρ, s, q⟩ => ⟨g, F, ρ, s, ha.mono ρ _ _ (fun d hd F1 H1 v t1 r1 => ⟨g, F1, ρ, s.step t1, hb.mono ρ _ _ (fun d' hd F2 H2 v2 t2 r2 => by
    split at hd
    · rename_i m _ n _
      exact ⟨_, _, by rw [r1.int, r2.int], ⟨hd.1.1.1, hd.1.1.2, hd.1.2.1, hd.1.2.2⟩, hd.2 F2 H2 _ (t1.trans t2) wk_rng⟩
    · exact hd.elim) hd⟩) q⟩, fun ρ Q Q' f q => ha.mono ρ _ _ (fun d q => hb.mono ρ _ _ (fun d' q => by
    split at q
    · exact ⟨q.1, f _ q.2⟩
    · exact q.elim) q) q⟩

/-! ### for, while -/
theorem SR.relow {K : PySem.W.Frag} {e : Ent} {M : List Md} {g : Rg} {F H B : Hp} {σ : L2.St} {ρ : En} {Fb : Hp} (s : SR K (e.low Fb) M g F H σ ρ) (l : Le B F) : SR K (e.low B) M g F H σ ρ :=
  ⟨s.bs, s.stp, s.grel, s.len, s.slot, s.dis, l, s.solo⟩
theorem pg_any {α : Type} {x : Expr} {t : α → TG} (h : ∀ B, PG X x (t B)) : PG X x (fun v σ H Q => ∃ B, t B v σ H Q) := ⟨fun pins s σ H v u Q I r ⟨B, q⟩ => (h B).run pins s σ H v u Q I r q⟩
theorem pss_any {α : Type} {x : List Stmt} {t : α → TS} (h : ∀ B, PSs X x (t B)) : PSs X x (fun E σ H => ∃ B, t B E σ H) := ⟨fun pins s σ H E I ⟨B, q⟩ => (h B).run pins s σ H E I q⟩
def forD (tg : DG) (tb : DTS) (d : DEnds) : List D → En → Prop
  | [], ρ => d.nx ρ
  | x :: xs, ρ => tg x ρ fun ρ' => tb { nx := forD tg tb d xs, ct := forD tg tb d xs, bk := d.nx, rt := d.rt, rs := d.rs } ρ'
theorem forD_mono {tg : DG} {tb : DTS} (hg : MonoG tg) (hb : MonoS tb) {d d' : DEnds} (i : DImp d d') : ∀ xs ρ, forD tg tb d xs ρ → forD tg tb d' xs ρ
  | [], ρ, q => i.nx ρ q
  | x :: xs, ρ, q => hg _ _ _ _ (fun ρ' q => hb { nx := forD tg tb d xs, ct := forD tg tb d xs, bk := d.nx, rt := d.rt, rs := d.rs } { nx := forD tg tb d' xs, ct := forD tg tb d' xs, bk := d'.nx, rt := d'.rt, rs := d'.rs } _ ⟨fun ρ q => forD_mono hg hb i xs ρ q, i.rt, i.nx, fun ρ q => forD_mono hg hb i xs ρ q, i.rs⟩ q) q
theorem ds_for {L : List Nat} {tg iter : Expr} {body : List Stmt} {tI : DA} {g : DG} (hp : PassesOwn (model X.prog X.w) X.A X.env X.xe) (hc : X.calm = true) (hi : DI X e M tg iter tI) (hg : ∀ B, GT X (e.low B) M L tg g) (hb : ∀ B, DSs X (e.low B) M body t)
    (hs : ∀ x, foldedSetIterable iter X.env x = pure x := by intro _; rfl) : DS X e M (.For tg iter body [] pos) (fun d ρ => tI ρ fun xs => forD g t d xs ρ) :=
  ⟨ps_imp (ps_for hp hc hi.pi (pg_any fun B => (hg B).pg) (pss_any fun B => (hb B).ps) hs) fun E σ H ⟨gg, F, ρ, d, s, q, h⟩ => ⟨gg, F, ρ, s, hi.mono ρ _ _ (fun ds hd F0 H0 J t0 w => by
    refine ⟨fun i m σ H => ∃ g1 F1 ρ1, SR X.K (e.low F0) M g1 F1 H σ ρ1 ∧ i ≤ ds.length ∧ m = ds.length - i ∧ forD g t d (ds.drop i) ρ1, ⟨_, gg, F0, ρ, (s.step t0).relow (.refl _), Nat.zero_le _, rfl, hd⟩, ?_⟩
    rintro i m σ1 H1 ⟨g1, F1, ρ1, s1, hi1, rfl, q1⟩
    have base : Le e.Fb F0 := s.low.trans t0.mono
    have hk : Hooks X.K (e.low F0) M { nx := fun ρ => d.nx ρ, ct := fun _ => False, bk := fun _ => False, rt := d.rt, rs := d.rs } E :=
      ⟨fun g F H σ ρ s2 q => h.nx g F H σ ρ (s2.relow (base.trans s2.low)) q, fun F H x v st r q => h.rt F H x v st r q, fun _ _ _ _ _ _ z => z.elim, fun _ _ _ _ _ _ z => z.elim, fun g F H σ ρ x v s2 r q => h.rs g F H σ ρ x v (s2.relow (base.trans s2.low)) r q⟩
    obtain ⟨w1, w2⟩ := w g1 F1 H1 s1.bs s1.low i
    by_cases hlt : i < ds.length
    · obtain ⟨go, yl⟩ := w1 hlt
      have ed : ds.drop i = ds[i] :: ds.drop (i + 1) := List.drop_eq_getElem_cons hlt
      rw [ed] at q1
      refine .inr ⟨go, fun σ' H' => ∃ g2 F2 ρ2, SR X.K (e.low F0) M g2 F2 H' σ' ρ2 ∧ forD g t d (ds.drop (i + 1)) ρ2, ?_, ?_⟩
      · rintro σ' H' ⟨g2, F2, ρ2, s2, q2⟩
        exact ⟨_, by omega, g2, F2, ρ2, s2, hlt, rfl, q2⟩
      · intro x H2 hy
        obtain ⟨F2, t2, r2⟩ := yl x H2 hy
        refine ⟨F0, g1, F2, ρ1, ds[i], s1.step t2, r2 _ (by simp [hlt]), (hg F0).mono _ _ _ _ (fun ρ' hq F3 H3 σ3 t3 s3 _ => ?_) q1⟩
        exact ⟨F0, g1, F3, ρ', _, s3, hq, ⟨fun g F H σ ρ s4 q => ⟨g, F, ρ, s4, q⟩, hk.rt, fun g F H σ ρ s4 q => hk.nx g F H σ ρ s4 q, fun g F H σ ρ s4 q => ⟨g, F, ρ, s4, q⟩, hk.rs⟩⟩
    · have e2 : i = ds.length := by omega
      subst e2
      rw [List.drop_length] at q1
      exact .inl ⟨w2 (Nat.le_refl _), hk.nx g1 F1 H1 σ1 ρ1 s1 q1⟩) q⟩, fun d d' ρ i q => hi.mono ρ _ _ (fun xs q => forD_mono (hg (fun _ => none)).mono (hb (fun _ => none)).mono i xs ρ q) q⟩

/-- a while: a word and a measure -/
def whileD (tc : DB) (tb : DTS) (d : DEnds) : En → Prop := fun ρ => ∃ W : Nat → En → Prop, (∃ m, W m ρ) ∧ ∀ m ρ, W m ρ → tc ρ fun b => if b = true then tb { nx := fun ρ' => ∃ m', m' < m ∧ W m' ρ', ct := fun ρ' => ∃ m', m' < m ∧ W m' ρ', bk := d.nx, rt := d.rt, rs := d.rs } ρ else d.nx ρ
theorem ds_while {body : List Stmt} (hp : PassesOwn (model X.prog X.w) X.A X.env X.xe) (hc : DC X e M c tA) (hb : DSs X e M body t) : DS X e M (.While c body [] pos) (fun d ρ => whileD tA t d ρ) :=
  ⟨ps_imp (ps_while hp hc.pt hb.ps) fun E σ H ⟨gg, F, ρ, d, s, ⟨W, ⟨m0, w0⟩, turn⟩, h⟩ => by
    refine ⟨fun m σ H => ∃ g1 F1 ρ1, SR X.K e M g1 F1 H σ ρ1 ∧ W m ρ1, ⟨m0, gg, F, ρ, s, w0⟩, ?_⟩
    rintro m σ1 H1 ⟨g1, F1, ρ1, s1, w1⟩
    refine ⟨g1, F1, ρ1, s1, hc.mono ρ1 _ _ (fun b hb F2 H2 t2 => ?_) (turn m ρ1 w1)⟩
    cases b with
    | true =>
      refine ⟨fun σ' H' => ∃ m', m' < m ∧ ∃ g2 F2 ρ2, SR X.K e M g2 F2 H' σ' ρ2 ∧ W m' ρ2, fun σ' H' ⟨m', l, q⟩ => ⟨m', l, q⟩, g1, F2, ρ1, _, s1.step t2, hb, ?_⟩
      exact ⟨fun g F H σ ρ s4 ⟨m', l, q⟩ => ⟨m', l, g, F, ρ, s4, q⟩, h.rt, h.nx, fun g F H σ ρ s4 ⟨m', l, q⟩ => ⟨m', l, g, F, ρ, s4, q⟩, h.rs⟩
    | false => exact h.nx g1 F2 H2 σ1 ρ1 (s1.step t2) hb, fun d d' ρ i ⟨W, w0, turn⟩ => ⟨W, w0, fun m ρ w => hc.mono ρ _ _ (fun b q => by
      cases b with
      | true => exact hb.mono { nx := fun ρ' => ∃ m', m' < m ∧ W m' ρ', ct := fun ρ' => ∃ m', m' < m ∧ W m' ρ', bk := d.nx, rt := d.rt, rs := d.rs } { nx := fun ρ' => ∃ m', m' < m ∧ W m' ρ', ct := fun ρ' => ∃ m', m' < m ∧ W m' ρ', bk := d'.nx, rt := d'.rt, rs := d'.rs } ρ ⟨fun ρ q => q, i.rt, i.nx, fun ρ q => q, i.rs⟩ q
      | false => exact i.nx ρ q) (turn m ρ w)⟩⟩
end
end PP

set_option Elab.async false
set_option linter.all false
set_option maxRecDepth 100000
set_option maxHeartbeats 4000000
namespace PP
open PySem PySem.Spec PyProof.Rows L2

/-! ### list comprehensions -/
def wipeD (ρ : En) : List Nat → En
  | [] => ρ
  | v :: vs => sv (wipeD ρ vs) v none
theorem SR.wipe {K : PySem.W.Frag} {e : Ent} {M : List Md} {g : Rg} {F H : Hp} {σ : L2.St} {ρ : En} (s : SR K e M g F H σ ρ) : ∀ vs, SR K e M g F H (L2.wipe σ vs) (wipeD ρ vs)
  | [] => s
  | v :: vs => (SR.wipe s vs).undef v
theorem wipe_at : ∀ (vs : List Nat) (σ : L2.St) (j : Nat), (L2.wipe σ vs)[j]? = if j ∈ vs then (if j < σ.length then some none else none) else σ[j]?
  | [], σ, j => by simp [L2.wipe]
  | v :: vs, σ, j => by
    show ((L2.wipe σ vs).set v none)[j]? = _
    rw [set_at, wipe_at vs σ j, wipe_length]
    by_cases h : j = v
    · subst h; simp
    · simp [h]
theorem wipe_same {vs : List Nat} {σ σ' : L2.St} (h : Same' vs (L2.wipe σ vs) σ') : L2.wipe σ' vs = L2.wipe σ vs := by
  obtain ⟨h1, h2⟩ := h
  rw [wipe_length] at h1
  apply List.ext_getElem?
  intro j
  rw [wipe_at, wipe_at, h1]
  by_cases hj : j ∈ vs
  · rw [if_pos hj, if_pos hj]
  · rw [if_neg hj, if_neg hj, h2 j hj, wipe_at, if_neg hj]
def compD (tg : DG) (tt : DB) (te : DT) (Q : List D → Prop) (ρ : En) : List D → List D → Prop
  | [], acc => Q acc
  | x :: xs, acc => tg x ρ fun ρ' => tt ρ' fun b => if b = true then te ρ' fun y => compD tg tt te Q ρ xs (acc ++ [y]) else compD tg tt te Q ρ xs acc
theorem compD_mono {tg : DG} {tt : DB} {te : DT} (hg : MonoG tg) (ht : Mono tt) (he : Mono te) {Q Q' : List D → Prop} (f : ∀ x, Q x → Q' x) (ρ : En) : ∀ xs acc, compD tg tt te Q ρ xs acc → compD tg tt te Q' ρ xs acc
  | [], acc, q => f _ q
  | x :: xs, acc, q => hg _ _ _ _ (fun ρ' q => ht _ _ _ (fun b q => by
    cases b with
    | true => exact he _ _ _ (fun y q => compD_mono hg ht he f ρ xs _ q) q
    | false => exact compD_mono hg ht he f ρ xs _ q) q) q
structure DTs (X : Cx) (e : Ent) (M : List Md) (ifs : List Expr) (t : DB) : Prop where
  pt : PTs X ifs (rdB X.K e M t)
  mono : Mono t
def tYesD : DB := fun _ Q => Q true
theorem dts_nil {X : Cx} {e : Ent} {M : List Md} : DTs X e M [] tYesD :=
  ⟨⟨fun pins s σ H Q I ⟨g, F, ρ, sr, q⟩ => pts_nil.run pins s σ H Q I (q F H sr.bs.refl)⟩, fun _ _ _ f q => f _ q⟩
theorem dts_one {X : Cx} {e : Ent} {M : List Md} {c : Expr} {t : DB} (h : DC X e M c t) : DTs X e M [c] t := ⟨pts_one h.pt, h.mono⟩
def tComp (tI : DA) (tg : DG) (tt : DB) (te : DT) (vs : List Nat) : DA := fun ρ Q => tI ρ fun ds => ds.length ≤ sizeLine ∧ compD tg tt te Q (wipeD ρ vs) ds []
section
variable {X : Cx} {e : Ent} {M : List Md} {pos : Pos}
theorem comp_core {tI : DA} {tg : DG} {tt : DB} {te : DT} {vs : List Nat} (mI : Mono tI) (mg : MonoG tg) (mt : Mono tt) (me : Mono te) : ∀ σ H Q, rdF X.K e M (tComp tI tg tt te vs) σ H Q →
    tLc (rdI X.K e M tI) (rdTg X.K e M vs tg) (rdB X.K e M tt) (rdE X.K e M te) vs σ H Q := fun σ H Q ⟨g, F, ρ, s, q⟩ => ⟨g, F, ρ, s, mI ρ _ _ (fun ds hd F0 H0 J t0 w D hD => by
  obtain ⟨hz, hd⟩ := hd
  have bs0 := t0.bs s.bs
  generalize hQ : (fun (xs : List PyData) => ∀ F' H' p vs, Stp g F H F' H' → H p = none → F' p = none → H' p = some (.lst vs) → RpL X.K F' xs vs → Q (.ref p) H') = QQ at hd
  refine ⟨fun i m H1 => ∃ F1 acc av, Stp g F0 H0 F1 H1 ∧ F1 D = none ∧ H1 D = some (.lst av) ∧ RpL X.K F1 acc av ∧ acc.length ≤ i ∧ i ≤ ds.length ∧ m = ds.length - i ∧
    compD tg tt te QQ (wipeD ρ vs) (ds.drop i) acc,
    ⟨_, F0, [], [], bs0.hide hD _, bs0.sub.none hD, upd_same, rfl, Nat.zero_le _, Nat.zero_le _, rfl, hd⟩, ?_⟩
  rintro i m H1 ⟨F1, acc, av, t1, f1, h1, r1, la, hi1, rfl, q1⟩
  have t01 := t0.trans t1
  have s1 := (s.step t01).wipe vs
  have nD : ¬ g.mem D := fun z => g.dom _ bs0.ok D z hD
  obtain ⟨w1, w2⟩ := w g F1 H1 s1.bs t1.mono i
  by_cases hlt : i < ds.length
  · obtain ⟨go, yl⟩ := w1 hlt
    have ed : ds.drop i = ds[i] :: ds.drop (i + 1) := List.drop_eq_getElem_cons hlt
    rw [ed] at q1
    refine .inr ⟨go, fun H' => ∃ F2 acc av, Stp g F0 H0 F2 H' ∧ F2 D = none ∧ H' D = some (.lst av) ∧ RpL X.K F2 acc av ∧ acc.length ≤ i + 1 ∧ compD tg tt te QQ (wipeD ρ vs) (ds.drop (i + 1)) acc, ?_, ?_⟩
    · rintro H' ⟨F2, acc, av, a1, a2, a3, a4, a5, a6⟩
      exact ⟨_, by omega, F2, acc, av, a1, a2, a3, a4, a5, hlt, rfl, a6⟩
    · intro x H2 hy
      obtain ⟨F2, t2, r2⟩ := yl x H2 hy
      refine ⟨g, F2, _, ds[i], s1.step t2, r2 _ (by simp [hlt]), mg _ _ _ _ (fun ρ' hq F3 H3 σ3 t3 s3 sm => ?_) q1⟩
      refine ⟨wipe_same sm, g, F3, ρ', s3, mt _ _ _ (fun b hb F4 H4 t4 => ?_) hq⟩
      have t24 := (t2.trans t3).trans t4
      have h4 : H4 D = some (.lst av) := t24.keep _ _ h1 nD
      have f4 : F4 D = none := t24.no h1 f1
      cases b with
      | true =>
        refine L2.iteT ?_
        have hb : te ρ' fun y => compD tg tt te QQ (wipeD ρ vs) (ds.drop (i + 1)) (acc ++ [y]) := hb
        refine ⟨g, F4, ρ', s3.step t4, me _ _ _ (fun y hy F5 H5 v t5 r5 => ?_) hb⟩
        have t25 := t24.trans t5
        have h5 : H5 D = some (.lst av) := t25.keep _ _ h1 nD
        have f5 : F5 D = none := t25.no h1 f1
        have ll := r1.length
        exact ⟨av, h5, by omega, F5, acc ++ [y], av ++ [v], (t1.trans t25).poke hD f5 nD _, f5, upd_same, (r1.mono t25.mono).append (.cons r5 .nil), by simp; omega, hy⟩
      | false =>
        refine L2.iteF ?_
        have hb : compD tg tt te QQ (wipeD ρ vs) (ds.drop (i + 1)) acc := hb
        exact ⟨F4, acc, av, t1.trans t24, f4, h4, r1.mono t24.mono, by omega, hb⟩
  · have e2 : i = ds.length := by omega
    subst e2
    rw [List.drop_length, ← hQ] at q1
    exact .inl ⟨w2 (Nat.le_refl _), q1 F1 H1 D av t01 (t0.old hD) f1 h1 r1⟩) q⟩
theorem tComp_mono {tI : DA} {tg : DG} {tt : DB} {te : DT} {vs : List Nat} (mI : Mono tI) (mg : MonoG tg) (mt : Mono tt) (me : Mono te) : Mono (tComp tI tg tt te vs) := fun ρ Q Q' f q =>
  mI ρ _ _ (fun ds q => ⟨q.1, compD_mono mg mt me f _ _ _ q.2⟩) q
theorem fe_comp {elt tg iter : Expr} {ifs : List Expr} {scope : Scope} {own : List (Str × Nat)} {tI : DA} {g : DG} {tt : DB} {te : DT} (hc : X.calm = true) (hN : X.N.Nodup) (hi : DI X e M tg iter tI) (ok : BlkOk X.N X.env.scope scope own)
    (hg : ∀ (s : Shared) (H : Hp) (C : Addr) (cl : List (Str × Addr)) (fp : List Addr), GT (X.blk s H scope (compEnvC scope cl C X.env) fp) e M (own.map (·.2)) tg g)
    (ht : ∀ (s : Shared) (H : Hp) (C : Addr) (cl : List (Str × Addr)) (fp : List Addr), DTs (X.blk s H scope (compEnvC scope cl C X.env) fp) e M ifs tt)
    (he : ∀ (s : Shared) (H : Hp) (C : Addr) (cl : List (Str × Addr)) (fp : List Addr), DE (X.blk s H scope (compEnvC scope cl C X.env) fp) e M elt te) (hs : ∀ x, foldedSetIterable iter X.env x = pure x := by intro _; rfl) :
    FE X e M (.ListComp elt [⟨tg, iter, ifs, 0⟩] scope pos) (tComp tI g tt te (own.map (·.2))) :=
  have mg := (hg ⟨X.s_0.heap, X.s_0.gens, X.s_0.drawn, X.s_0.toks, X.s_0.os⟩ X.H_0 0 [] []).mono
  have mt := (ht ⟨X.s_0.heap, X.s_0.gens, X.s_0.drawn, X.s_0.toks, X.s_0.os⟩ X.H_0 0 [] []).mono
  have me := (he ⟨X.s_0.heap, X.s_0.gens, X.s_0.drawn, X.s_0.toks, X.s_0.os⟩ X.H_0 0 [] []).mono
  ⟨pe_imp (pe_lc hc hN hi.pi ok (fun s H C cl fp => (hg s H C cl fp).pg) (fun s H C cl fp => (ht s H C cl fp).pt) (fun s H C cl fp => (he s H C cl fp).pe) hs) (comp_core hi.mono mg mt me), tComp_mono hi.mono mg mt me⟩
/-- name = [..], the name's slot a value -/
theorem ds_setLc {i : Nat} {y : Str} {py spos : Pos} {elt tg iter : Expr} {ifs : List Expr} {scope : Scope} {own : List (Str × Nat)} {tI : DA} {g : DG} {tt : DB} {te : DT} (hc : X.calm = true) (hN : X.N.Nodup) (hy : X.N[i]? = some y) (hyl : X.env.scope.names.lookup y = some .local)
    (hsw : swapsWith (.ListComp elt [⟨tg, iter, ifs, 0⟩] scope pos) (some (.Name y py)) spos.line X.env = pure true) (hi : DI X e M tg iter tI) (ok : BlkOk X.N X.env.scope scope own)
    (hg : ∀ (s : Shared) (H : Hp) (C : Addr) (cl : List (Str × Addr)) (fp : List Addr), GT (X.blk s H scope (compEnvC scope cl C X.env) fp) e M (own.map (·.2)) tg g)
    (ht : ∀ (s : Shared) (H : Hp) (C : Addr) (cl : List (Str × Addr)) (fp : List Addr), DTs (X.blk s H scope (compEnvC scope cl C X.env) fp) e M ifs tt)
    (he : ∀ (s : Shared) (H : Hp) (C : Addr) (cl : List (Str × Addr)) (fp : List Addr), DE (X.blk s H scope (compEnvC scope cl C X.env) fp) e M elt te) (hm : md M i = .val ∨ md M i = .own := by first | exact .inl rfl | exact .inr rfl) (hs : ∀ x, foldedSetIterable iter X.env x = pure x := by intro _; rfl) :
    DS X e M (.Assign [.Name y py] (.ListComp elt [⟨tg, iter, ifs, 0⟩] scope pos) spos) (fun d ρ => tComp tI g tt te (own.map (·.2)) ρ fun xs => d.nx (sv ρ i (some (.list xs)))) :=
  have mg := (hg ⟨X.s_0.heap, X.s_0.gens, X.s_0.drawn, X.s_0.toks, X.s_0.os⟩ X.H_0 0 [] []).mono
  have mt := (ht ⟨X.s_0.heap, X.s_0.gens, X.s_0.drawn, X.s_0.toks, X.s_0.os⟩ X.H_0 0 [] []).mono
  have me := (he ⟨X.s_0.heap, X.s_0.gens, X.s_0.drawn, X.s_0.toks, X.s_0.os⟩ X.H_0 0 [] []).mono
  ⟨ps_imp (ps_setLc hc hN hy hyl hsw hi.pi ok (fun s H C cl fp => (hg s H C cl fp).pg) (fun s H C cl fp => (ht s H C cl fp).pt) (fun s H C cl fp => (he s H C cl fp).pe) hs) fun E σ H ⟨gg, F, ρ, d, s, q, h⟩ =>
    comp_core hi.mono mg mt me σ H _ ⟨gg, F, ρ, s, tComp_mono hi.mono mg mt me ρ _ _ (fun xs hx F' H' p vs t hp hf hh r => by
      rcases hm with hm | hm
      · have t' : Stp gg F H (upd F' p (.lst vs)) H' := t.freeze hp hf hh
        exact h.nx gg _ H' _ _ ((s.step t').setv hm (show Rp X.K _ (.list xs) (.ref p) from ⟨p, vs, rfl, upd_same, r.mono (.new hf)⟩)) hx
      · exact h.nx gg F' H' _ _ (s.setm t hp (by rw [hm]; exact ⟨p, vs, xs, rfl, rfl, hh, r, hf, s.old hp, s.nmem hp⟩)) hx) q⟩,
    fun d d' ρ j q => tComp_mono hi.mono mg mt me ρ _ _ (fun _ q => j.nx _ q) q⟩
end

end PP

set_option Elab.async false
set_option linter.all false
set_option maxRecDepth 100000
set_option maxHeartbeats 400000
namespace PP
open PySem PySem.Spec PyProof.Rows L2
/-! ### a list of ours changes -/
section
variable {X : Cx} {e : Ent} {M : List Md} {a b : Expr} {ta tb : DT} {pos p1 p2 : Pos}
theorem SR.ownAt {K : PySem.W.Frag} {g : Rg} {F H : Hp} {σ : L2.St} {ρ : En} (s : SR K e M g F H σ ρ) {i : Nat} {d : D} (h : gt ρ i = some d) (hm : md M i = .own) :
    ∃ p vs ds, d = .list ds ∧ σ[i]? = some (some (.ref p)) ∧ H p = some (.lst vs) ∧ RpL K F ds vs ∧ F p = none ∧ e.H p = none ∧ ¬ g.mem p := by
  obtain ⟨v, h1, h2⟩ := s.slot i d h
  rw [hm] at h2
  obtain ⟨p, vs, ds, e1, e2, h3, h4, h5, h6, h7⟩ := h2
  subst e1
  exact ⟨p, vs, ds, e2, h1, h3, h4, h5, h6, h7⟩
theorem SR.putL {K : PySem.W.Frag} {g : Rg} {F H : Hp} {σ : L2.St} {ρ : En} (s : SR K e M g F H σ ρ) {i : Nat} {d : D} {ds : List D} {vs : List V} {p : Addr} (hm : md M i = .own) (h : gt ρ i = some d) (hσ : σ[i]? = some (some (.ref p))) (f : F p = none) (n : e.H p = none) (m : ¬ g.mem p)
    (r : RpL K F ds vs) : SR K e M g F (upd H p (.lst vs)) σ (sv ρ i (some (.list ds))) :=
  s.poke (by rw [hm]; rfl) h hσ f n m (by rw [hm]; exact ⟨p, vs, ds, rfl, rfl, upd_same, r, f, n, m⟩)
/-- x.append(e) -/
def tApp (i : Nat) (te : DT) : DTS := fun d ρ => match gt ρ i with | some (.list xs) => te ρ fun y => xs.length < sizeLine ∧ d.nx (sv ρ i (some (.list (xs ++ [y])))) | _ => False
theorem tApp_mono {i : Nat} (m : Mono ta) : MonoS (tApp i ta) := fun d d' ρ j q => by
  unfold tApp at q ⊢
  split at q
  · exact m ρ _ _ (fun y q => ⟨q.1, j.nx _ q.2⟩) q
  · exact q.elim
theorem ds_append {i : Nat} {y : Str} {spos : Pos} (hN : X.N[i]? = some y) (hv : Vis X.env.scope y) (ha : DE X e M a ta) (hm : md M i = .own := by rfl) (hd : (y == ("__debug__" : Str)) = false := by decide) (hcd : (y == ("__classdict__" : Str)) = false := by decide)
    (h1 : starEach [a] X.env = (false, eval a X.env) :: starEach [] X.env := by rfl)
    (hE : ∀ {to : TE} {t : TA}, PE X (.Name y p1) to → PA X [a] t → PE X (.Call (.Attribute (.Name y p1) "append" p2) [a] [] pos) (tBM X.K "list" rAppend to t) := by
      intro to t h h'; exact pe_bm PySem.F.plainAttrs_list PySem.F.slot_list_append PySem.F.type_list_append mt_append h h')
    (hs : swapsWith (.Call (.Attribute (.Name y p1) "append" p2) [a] [] pos) none spos.line X.env = pure false := by rfl) : DS X e M (.Expr (.Call (.Attribute (.Name y p1) "append" p2) [a] [] pos) spos) (tApp i ta) :=
  ⟨ps_imp (ps_expr (hE (pe_var hN hv hd hcd) (pa_cons ha.pe pa_nil h1)) hs) fun E σ H ⟨g, F, ρ, d, s, q, h⟩ => by
    unfold tApp at q
    split at q
    · rename_i xs hx
      obtain ⟨p, vs, ds, e2, h1, h3, h4, h5, h6, h7⟩ := s.ownAt hx hm
      cases e2
      refine ⟨_, h1, .inl ⟨rfl, vs, .inl (.inl h3)⟩, g, F, ρ, s, ha.mono ρ _ _ (fun y ⟨hl, hn⟩ F' H' v t r => ?_) q⟩
      exact ⟨p, vs, v, rfl, rfl, t.keep _ _ h3 h7, by rw [h4.length]; exact hl, h.nx g F' _ σ _ ((s.step t).putL hm hx h1 (t.no h3 h5) h6 h7 ((h4.mono t.mono).append (.cons r .nil))) hn⟩
    · exact q.elim, tApp_mono ha.mono⟩
/-- x.extend(e) -/
def tExt (i : Nat) (te : DT) : DTS := fun d ρ => match gt ρ i with | some (.list xs) => te ρ fun y => (match y with | .list ys => xs.length + ys.length ≤ sizeLine ∧ d.nx (sv ρ i (some (.list (xs ++ ys)))) | _ => False) | _ => False
theorem tExt_mono {i : Nat} (m : Mono ta) : MonoS (tExt i ta) := fun d d' ρ j q => by
  unfold tExt at q ⊢
  split at q
  · refine m ρ _ _ (fun y q => ?_) q
    split at q
    · exact ⟨q.1, j.nx _ q.2⟩
    · exact q.elim
  · exact q.elim
theorem ds_extend {i : Nat} {y : Str} {spos : Pos} (hN : X.N[i]? = some y) (hv : Vis X.env.scope y) (ha : DE X e M a ta) (hm : md M i = .own := by rfl) (hd : (y == ("__debug__" : Str)) = false := by decide) (hcd : (y == ("__classdict__" : Str)) = false := by decide)
    (h1 : starEach [a] X.env = (false, eval a X.env) :: starEach [] X.env := by rfl)
    (hE : ∀ {to : TE} {t : TA}, PE X (.Name y p1) to → PA X [a] t → PE X (.Call (.Attribute (.Name y p1) "extend" p2) [a] [] pos) (tBM X.K "list" rExtend to t) := by
      intro to t h h'; exact pe_bm PySem.F.plainAttrs_list PySem.F.slot_list_extend PySem.F.type_list_extend mt_extend h h')
    (hs : swapsWith (.Call (.Attribute (.Name y p1) "extend" p2) [a] [] pos) none spos.line X.env = pure false := by rfl) : DS X e M (.Expr (.Call (.Attribute (.Name y p1) "extend" p2) [a] [] pos) spos) (tExt i ta) :=
  ⟨ps_imp (ps_expr (hE (pe_var hN hv hd hcd) (pa_cons ha.pe pa_nil h1)) hs) fun E σ H ⟨g, F, ρ, d, s, q, h⟩ => by
    unfold tExt at q
    split at q
    · rename_i xs hx
      obtain ⟨p, vs, ds, e2, h1, h3, h4, h5, h6, h7⟩ := s.ownAt hx hm
      cases e2
      refine ⟨_, h1, .inl ⟨rfl, vs, .inl (.inl h3)⟩, g, F, ρ, s, ha.mono ρ _ _ (fun y hy F' H' v t r => ?_) q⟩
      split at hy
      · obtain ⟨b, zs, rfl, hb, rb⟩ := r
        exact ⟨p, b, vs, zs, rfl, rfl, t.keep _ _ h3 h7, t.sub _ _ hb, by rw [h4.length, rb.length]; exact hy.1, h.nx g F' _ σ _ ((s.step t).putL hm hx h1 (t.no h3 h5) h6 h7 ((h4.mono t.mono).append rb)) hy.2⟩
      · exact hy.elim
    · exact q.elim, tExt_mono ha.mono⟩
/-- z = x.pop() -/
def tPop (i j : Nat) : DTS := fun d ρ => match gt ρ i with | some (.list xs) => (match xs[xs.length - 1]? with | some y => d.nx (sv (sv ρ i (some (.list xs.dropLast))) j (some y)) | none => False) | _ => False
theorem ds_pop {i j : Nat} {y z : Str} {p3 spos : Pos} (hNd : X.N.Nodup) (hN : X.N[i]? = some y) (hv : Vis X.env.scope y) (hj : X.N[j]? = some z) (hx : Loc X.env.scope z) (hm : md M i = .own := by rfl) (hm2 : md M j = .val := by rfl) (hd : (y == ("__debug__" : Str)) = false := by decide) (hcd : (y == ("__classdict__" : Str)) = false := by decide)
    (hE : ∀ {to : TE}, PE X (.Name y p1) to → PE X (.Call (.Attribute (.Name y p1) "pop" p2) [] [] pos) (tBM0 X.K "list" rPop to) := by
      intro to h; exact pe_bm0 PySem.F.plainAttrs_list PySem.F.slot_list_pop PySem.F.type_list_pop mt_pop h)
    (hs : swapsWith (.Call (.Attribute (.Name y p1) "pop" p2) [] [] pos) (some (.Name z p3)) spos.line X.env = pure false := by rfl)
    (hf : X.fn z = true ∨ X.env.scope.names.lookup z = some .local := by first | exact .inl rfl | exact .inr rfl | assumption) : DS X e M (.Assign [.Name z p3] (.Call (.Attribute (.Name y p1) "pop" p2) [] [] pos) spos) (tPop i j) :=
  ⟨ps_imp (L2.ps_set hNd hj hx (hE (pe_var hN hv hd hcd)) hs hf) fun E σ H ⟨g, F, ρ, d, s, q, h⟩ => by
    unfold tPop at q
    split at q
    · rename_i xs hx
      split at q
      · rename_i w hw
        obtain ⟨p, vs, ds, e2, h1, h3, h4, h5, h6, h7⟩ := s.ownAt hx hm
        cases e2
        obtain ⟨v, hv, rv⟩ := h4.get hw
        exact ⟨_, h1, .inl ⟨rfl, vs, .inl (.inl h3)⟩, p, vs, v, rfl, rfl, h3, by rw [h4.length]; exact hv, h.nx g F _ _ _ ((s.putL hm hx h1 h5 h6 h7 h4.dropLast).setv hm2 rv) q⟩
      · exact q.elim
    · exact q.elim, fun d d' ρ k q => by
    unfold tPop at q ⊢
    split at q
    · split at q
      · exact k.nx _ q
      · exact q.elim
    · exact q.elim⟩
/-- x[k] = e -/
def tPut (i : Nat) (te tk : DT) : DTS := fun d ρ => match gt ρ i with | some (.list xs) => te ρ fun y => tk ρ fun k => (match k with | .int n => (match ixN xs.length n with | some j => d.nx (sv ρ i (some (.list (xs.set j y)))) | none => False) | _ => False) | _ => False
theorem ds_put {i : Nat} {y : Str} {spos : Pos} (hN : X.N[i]? = some y) (hv : Vis X.env.scope y) (ha : DE X e M a ta) (hb : RE X e M b tb) (hm : md M i = .own := by rfl) (hd : (y == ("__debug__" : Str)) = false := by decide) (hcd : (y == ("__classdict__" : Str)) = false := by decide)
    (hE : ∀ {to ti te : TE}, PE X (.Name y p1) to → PE X b ti → PE X a te → PS X (.Assign [.Subscript (.Name y p1) b p2] a spos) (tAsg te (gSub to ti rSetL)) := by
      intro to ti te h1 h2 h3; exact ps_asg h3 (pg_sub h1 h2 set_list)) : DS X e M (.Assign [.Subscript (.Name y p1) b p2] a spos) (tPut i ta tb) :=
  ⟨ps_imp (hE (pe_var hN hv hd hcd) hb.pe ha.pe) fun E σ H ⟨g, F, ρ, d, s, q, h⟩ => by
    unfold tPut at q
    split at q
    · rename_i xs hx
      obtain ⟨p, vs, ds, e2, h1, h3, h4, h5, h6, h7⟩ := s.ownAt hx hm
      cases e2
      refine ⟨g, F, ρ, s, ha.mono ρ _ _ (fun y hy F' H' v t r => ⟨_, h1, g, F', ρ, s.step t, hb.mono ρ _ _ (fun k hk F2 H2 u t2 r2 => ?_) hy⟩) q⟩
      have t12 := t.trans t2
      split at hk
      · split at hk
        · rename_i n _ j hj
          exact ⟨p, vs, n, j, rfl, r2.int, t12.keep _ _ h3 h7, by rw [h4.length]; exact hj, h.nx g F2 _ σ _ ((s.step t12).putL hm hx h1 (t12.no h3 h5) h6 h7 ((h4.mono t12.mono).set j (r.mono t2.mono))) hk⟩
        · exact hk.elim
      · exact hk.elim
    · exact q.elim, fun d d' ρ k q => by
    unfold tPut at q ⊢
    split at q
    · refine ha.mono ρ _ _ (fun y q => hb.mono ρ _ _ (fun k' q => ?_) q) q
      split at q
      · split at q
        · exact k.nx _ q
        · exact q.elim
      · exact q.elim
    · exact q.elim⟩
end
end PP

set_option Elab.async false
set_option linter.all false
set_option maxRecDepth 100000
set_option maxHeartbeats 1000000
namespace PP
open PySem PySem.Spec PyProof.Rows L2

/-! ### a def's promise by its body -/
def startD (n : Nat) (ds : List D) : En := ds.map some ++ List.replicate (n - ds.length) none
def Md.par : Md → Bool
  | .val => true | .bor => true | .dk => true | .ex => true | _ => false
theorem gt_eq : ∀ (ρ : En) (i : Nat), gt ρ i = (ρ[i]?).join
  | [], i => by simp [gt]
  | x :: r, 0 => by simp [gt]
  | x :: r, i + 1 => by simp [gt, gt_eq r i]
theorem gt_start {n : Nat} {ds : List D} {i : Nat} {d : D} (h : gt (startD n ds) i = some d) : ds[i]? = some d := by
  rw [gt_eq] at h
  unfold startD at h
  by_cases hi : i < ds.length
  · rw [List.getElem?_append_left (by simpa using hi), List.getElem?_map] at h
    cases q : ds[i]? with
    | none => rw [q] at h; cases h
    | some x => rw [q] at h; cases h; rfl
  · rw [List.getElem?_append_right (by simpa using hi), List.getElem?_replicate] at h
    split at h <;> cases h
theorem ArgsOk.at {K : PySem.W.Frag} {g : Rg} {F H : Hp} : ∀ {ms : List Md} {ds : List D} {vs : List V}, ArgsOk K g F H ms ds vs → vs.length = ds.length ∧ ms.length = ds.length ∧ ∀ (i : Nat) d, ds[i]? = some d → ∃ v m, vs[i]? = some v ∧ ms[i]? = some m ∧ ArgOk K g F H m d v
  | [], _, _, ⟨h, h'⟩ => by subst h h'; exact ⟨rfl, rfl, fun i d z => by simp at z⟩
  | m :: ms, _, _, ⟨d, dr, v, vr, e1, e2, h, r⟩ => by
    subst e1 e2
    obtain ⟨l1, l2, f⟩ := ArgsOk.at r
    refine ⟨by simp [l1], by simp [l2], fun i d' z => ?_⟩
    cases i with
    | zero => simp at z; subst z; exact ⟨v, m, rfl, rfl, h⟩
    | succ i => simpa using f i d' (by simpa using z)
theorem solo_of {M : List Md} (h : soloM M = true) : True := trivial
theorem SR.begin {K : PySem.W.Frag} {M ms : List Md} {N : List Str} {g : Rg} {F H : Hp} {ds : List D} {vs : List V} (bs : Bs g F H) (a : ArgsOk K g F H ms ds vs) (hM : M.take ms.length = ms) (hp : ms.all Md.par = true) (hn : ms.length ≤ N.length) (hso : soloM M = true) :
    SR K ⟨g, F, H, F⟩ M g F H (L2.start N vs) (startD N.length ds) := by
  obtain ⟨l1, l2, f⟩ := a.at
  have hmd : ∀ i m, ms[i]? = some m → md M i = m := fun i m h => by
    unfold md
    rw [List.getD_eq_getElem?_getD]
    have : M[i]? = some m := by
      rw [← hM, List.getElem?_take] at h
      split at h
      · exact h
      · cases h
    rw [this]; rfl
  refine ⟨bs, bs.refl, .inl rfl, by unfold L2.start startD; simp [l1], fun i d h => ?_, fun i j v w p hij h1 h2 h3 h4 h5 h6 => ?_, .refl _, solo_of hso⟩
  · have hd := gt_start h
    obtain ⟨v, m, h1, h2, h3⟩ := f i d hd
    refine ⟨v, ?_, ?_⟩
    · unfold L2.start
      rw [List.getElem?_append_left (by rw [List.length_map]; exact (List.getElem?_eq_some_iff.mp h1).1), List.getElem?_map, h1]
      rfl
    · rw [hmd i m h2]
      have hm : m.par = true := List.all_eq_true.mp hp m (List.mem_of_getElem? h2)
      cases m with
      | val => exact h3
      | dk => exact h3
      | ex => exact h3
      | bor => obtain ⟨p, vs, ds, a1, a2, a3, a4, a5⟩ := h3; exact ⟨p, vs, ds, a1, a2, a3, a5, a4⟩
      | own => cases hm
      | od => cases hm
      | oo => cases hm
      | ob _ _ => cases hm
  · cases q : gt (startD N.length ds) i with
    | none => exact absurd q h1
    | some d =>
      have hd := gt_start q
      obtain ⟨v, m, h1, h2, h3⟩ := f i d hd
      rw [hmd i m h2] at h5
      have hm : m.par = true := List.all_eq_true.mp hp m (List.mem_of_getElem? h2)
      cases m <;> first | exact h5 | exact absurd hm (by decide) | cases hm
section
variable {P : Program} {w : World} {K : PySem.W.Frag} {mg : Str → Option Value} {base : Heap}
theorem fnD {x qual : Str} {st : Stmt} {f : Addr} {fd : FuncData} {N ps : List Str} {M ms : List Md} {k : Nat} {kf : KF} {t : DTS} (F : Fun K x qual st f fd) (S : FnScope N ps (defScope st)) (hM : M.take ms.length = ms) (hp : ms.all Md.par = true) (hms : ms.length = ps.length) (hn : ps.length ≤ N.length) (hso : soloM M = true)
    (bd : ∀ (cdv : Value) (A : Around) (outer : List Env) (s : Shared) (H : Hp) (E : XK) (e : Ent), Room k (A.deeper (envOfC qual (defScope st) s.heap.objs.size f cdv)) → (A.deeper (envOfC qual (defScope st) s.heap.objs.size f cdv)).guards = some [] →
      DSs (cxOf CX0 P w K mg base N qual (defScope st) f cdv A outer s H E).nox e M (defBody st) t)
    (sp : ∀ ds (Q : D → Prop), kf ds Q → t { nx := fun _ => Q .none, rt := Q } (startD N.length ds)) : FnG P w K mg base CX0 (k + 1) f fd ps (spD K ms kf) := by
  refine fnG_of F S (fun vs H Q E ⟨g, F, ds, bs, a, _⟩ => ?_) fun cdv A outer s H vs Q E hr hg h => ?_
  · rw [a.len, hms]
  · obtain ⟨g, F0, ds, bs, a, q⟩ := h
    have D := bd cdv A outer s H E ⟨g, F0, H, F0⟩ hr hg
    refine ⟨_, D.ps.nox, g, F0, _, _, SR.begin bs a hM hp (by omega) hso, sp ds _ q, ?_⟩
    exact ⟨fun g' F' H' σ' ρ' s' q' => q' F' H' .non s'.stp rfl, fun F' H' d v t' r q' => q' F' H' v t' r, fun _ _ _ _ _ _ z => z.elim, fun _ _ _ _ _ _ z => z.elim, fun _ _ _ _ _ _ _ _ _ z => z.elim⟩
end
theorem FnG.of {P : Program} {w : World} {K : PySem.W.Frag} {mg : Str → Option Value} {base : Heap} {CX : CXT} {k : Nat} {f : Addr} {fd : FuncData} {ps : List Str} {sp : Sp} (F : FnOk P w K mg base CX k f fd ps sp) : FnG P w K mg base CX k f fd ps sp :=
  ⟨F.len, fun A o s H ar us vs Q E r _ e b v q => F.run A o s H ar us vs Q E r e b v q⟩

/-! ### what all the facts about the top say -/
/-- names: a def of the text -/
structure Has (K : PySem.W.Frag) (mg : Str → Option Value) (x : Str) (st : Stmt) (ps : List Str) (f : Addr) (fd : FuncData) : Prop where
  F : Fun K x x st f fd
  b : Binds K fd ps []
  m : mg x = some (.ref f)
end PP

set_option Elab.async false
set_option linter.all false
set_option maxRecDepth 100000
set_option maxHeartbeats 1000000
namespace PP
open PySem PySem.Spec PyProof.Rows L2

/-! ### what is stored into a slot -/
def PutOk (K : PySem.W.Frag) (m : Md) (F H F' H' : Hp) (d : D) (v : V) : Prop := match m with
  | .val => Rp K F' d v
  | .ex => ExM K F' d v
  | .own => ∃ p vs ds, v = .ref p ∧ d = .list ds ∧ H p = none ∧ F' p = none ∧ H' p = some (.lst vs) ∧ RpL K F' ds vs
  | _ => False
def rdP (K : PySem.W.Frag) (e : Ent) (M : List Md) (m : Md) (t : DT) : TE := fun σ H Q => ∃ g F ρ, SR K e M g F H σ ρ ∧ t ρ fun d => ∀ F' H' v, Stp g F H F' H' → PutOk K m F H F' H' d v → Q v H'
structure SE (X : Cx) (e : Ent) (M : List Md) (m : Md) (x : Expr) (t : DT) : Prop where
  pe : PE X x (rdP X.K e M m t)
  mono : Mono t
section
variable {K : PySem.W.Frag} {e : Ent} {M : List Md} {g : Rg} {F H F' H' : Hp} {σ : L2.St} {ρ : En}
theorem SR.put (s : SR K e M g F H σ ρ) (t : Stp g F H F' H') {i : Nat} {m : Md} {d : D} {v : V} (hm : md M i = m) (ok : PutOk K m F H F' H' d v) : SR K e M g F' H' (σ.set i (some v)) (sv ρ i (some d)) := by
  subst hm
  cases q : md M i with
  | val => rw [q] at ok; exact (s.step t).setv q ok
  | ex => rw [q] at ok; exact (s.step t).setx q ok
  | own =>
    rw [q] at ok
    obtain ⟨p, vs, ds, e1, e2, h1, h2, h3, r⟩ := ok
    subst e1 e2
    exact s.setm t h1 (by rw [q]; exact ⟨p, vs, ds, rfl, rfl, h3, r, h2, s.old h1, s.nmem h1⟩)
  | bor => rw [q] at ok; exact False.elim ok
  | dk => rw [q] at ok; exact False.elim ok
  | od => rw [q] at ok; exact False.elim ok
  | oo => rw [q] at ok; exact False.elim ok
  | ob _ _ => rw [q] at ok; exact False.elim ok
end
section
variable {X : Cx} {e : Ent} {M : List Md} {a b c : Expr} {xs : List Expr} {ta tb tc : DT} {tA : DA} {pos p1 p2 p3 p4 : Pos}
theorem DE.se (h : DE X e M a ta) : SE X e M .val a ta := ⟨h.pe, h.mono⟩
theorem FE.se (h : FE X e M a tA) : SE X e M .own a (tFz tA) :=
  ⟨pe_imp h.pe fun σ H Q ⟨g, F, ρ, sr, q⟩ => ⟨g, F, ρ, sr, h.mono ρ _ _ (fun ds k F' H' p vs s n f hp r => k F' H' (.ref p) s ⟨p, vs, ds, rfl, rfl, n, f, hp, r⟩) q⟩, fun ρ Q Q' f q => h.mono ρ _ _ (fun ds k => f _ k) q⟩
def dSet (i : Nat) (t : DT) : DTS := fun d ρ => t ρ fun x => d.nx (sv ρ i (some x))
theorem ds_st {i : Nat} {m : Md} {y : Str} (hN : X.N.Nodup) (hm : md M i = m) (ha : SE X e M m a ta) (hi : X.N[i]? = some y := by rfl) (hx : Loc X.env.scope y := by first | exact .inl rfl | exact .inr rfl) (hs : swapsWith a (some (.Name y p2)) pos.line X.env = pure false := by rfl)
    (hf : X.fn y = true ∨ X.env.scope.names.lookup y = some .local := by first | exact .inl rfl | exact .inr rfl | assumption) : DS X e M (.Assign [.Name y p2] a pos) (dSet i ta) :=
  ⟨ps_imp (L2.ps_set hN hi hx ha.pe hs hf) fun E σ H ⟨g, F, ρ, d, s, q, h⟩ => ⟨g, F, ρ, s, ha.mono ρ _ _ (fun x hx F' H' v t r => h.nx g F' H' _ _ (s.put t hm r) hx) q⟩, fun d d' ρ i q => ha.mono ρ _ _ (fun _ q => i.nx _ q) q⟩
/-- x, y = a, b -/
def dPar (i j : Nat) (ta tb : DT) : DTS := fun d ρ => ta ρ fun x => tb ρ fun y => d.nx (sv (sv ρ i (some x)) j (some y))
theorem ds_par {i j : Nat} {m n : Md} {x y : Str} {kt k2 : Nat} (hc : X.calm = true) (hN : X.N.Nodup) (hm : md M i = m) (hn : md M j = n) (ha : SE X e M m a ta) (hb : SE X e M n b tb) (hi : X.N[i]? = some x := by rfl) (hj : X.N[j]? = some y := by rfl) (hij : i ≠ j := by decide)
    (hx : X.env.scope.names.lookup x = some .local := by rfl) (hy : X.env.scope.names.lookup y = some .local := by rfl)
    (ea : starEach [a, b] X.env = (false, eval a X.env) :: starEach [b] X.env := by rfl) (eb : starEach [b] X.env = (false, eval b X.env) :: starEach [] X.env := by rfl)
    (hw : swappedStores [.Tuple [.Name x p1, .Name y p2] kt p3] (.Tuple [a, b] k2 p4) X.env = pure (some [x, y]) := by rfl)
    (hs : swapsWithSole [.Tuple [.Name x p1, .Name y p2] kt p3] (.Tuple [a, b] k2 p4) pos.line X.env = pure false := by rfl) :
    DS X e M (.Assign [.Tuple [.Name x p1, .Name y p2] kt p3] (.Tuple [a, b] k2 p4) pos) (dPar i j ta tb) :=
  ⟨ps_imp (L2.ps_par hc hN hi hj hij hx hy (pa_cons ha.pe (pa_cons hb.pe pa_nil eb) ea) hw hs) fun E σ H ⟨g, F, ρ, d, s, q, h⟩ => ⟨g, F, ρ, s, ha.mono ρ _ _ (fun x hx F1 H1 v t1 r1 => ⟨g, F1, ρ, s.step t1, hb.mono ρ _ _ (fun y hy F2 H2 w t2 r2 =>
    ⟨v, w, rfl, h.nx g F2 H2 _ _ ((s.put t1 hm r1).put t2 hn r2) hy⟩) hx⟩) q⟩, fun d d' ρ k q => ha.mono ρ _ _ (fun x q => hb.mono ρ _ _ (fun y q => k.nx _ q) q) q⟩

/-! ### short words -/
theorem dv (i : Nat) {y : Str} (hN : X.N[i]? = some y := by rfl) (hv : Vis X.env.scope y := by first | exact Or.inl rfl | exact Or.inr (Or.inl rfl) | exact Or.inr (Or.inr rfl)) (hm : md M i = .val := by rfl) (hd : (y == ("__debug__" : Str)) = false := by decide) (hcd : (y == ("__classdict__" : Str)) = false := by decide) :
    DE X e M (.Name y pos) (tV i) := de_var hN hv hm hd hcd
theorem rv (i : Nat) {y : Str} (hN : X.N[i]? = some y := by rfl) (hv : Vis X.env.scope y := by first | exact Or.inl rfl | exact Or.inr (Or.inl rfl) | exact Or.inr (Or.inr rfl)) (hm : md M i ≠ .dk := by decide) (hm2 : (md M i).opq = false := by decide) (hd : (y == ("__debug__" : Str)) = false := by decide) (hcd : (y == ("__classdict__" : Str)) = false := by decide) :
    RE X e M (.Name y pos) (tV i) := re_var hN hv hm hm2 hd hcd
theorem gn (i : Nat) {y : Str} {L : List Nat} (hN : X.N.Nodup) (hi : X.N[i]? = some y := by rfl) (hx : Loc X.env.scope y := by first | exact .inl rfl | exact .inr rfl) (hm : md M i = .val := by rfl) (hL : i ∈ L := by decide)
    (hf : X.fn y = true ∨ X.env.scope.names.lookup y = some .local := by first | exact .inl rfl | exact .inr rfl | assumption) : GT X e M L (.Name y pos) (gN i) := gt_name hN hi hx hm hL hf
/-- a def as callers see it -/
structure Cl (P : Program) (w : World) (K : PySem.W.Frag) (mg : Str → Option Value) (base : Heap) (k : Nat) (x : Str) (ps : List Str) (ms : List Md) (kf : KF) : Prop where
  ex : ∃ f fd, mg x = some (.ref f) ∧ PySem.W.keepIn K (.ref f) = true ∧ Binds K fd ps [] ∧ FnG P w K mg base CX0 k f fd ps (spD K ms kf)
  mo : MonoC kf
theorem cl {k : Nat} {y : Str} {ps : List Str} {kf : KF} {ms : List Md} {tr : DA} (C : Cl X.prog X.w X.K X.mg X.base k y ps ms kf) (hr : Room k X.A) (hgd : X.A.guards = some []) (ha : GA X e M ms (a :: xs) tr)
    (hg : Gl X y := by rfl) (hdb : (y == ("__debug__" : Str)) = false := by decide) (he : starEach (a :: xs) X.env = (false, eval a X.env) :: starEach xs X.env := by rfl)
    (hpl : (backTo pos (starEach xs X.env)).any (·.1) = false := by rfl) : DE X e M (.Call (.Name y p1) (a :: xs) [] pos) (tCl kf tr) := by
  obtain ⟨f, fd, h1, h2, h3, h4⟩ := C.ex
  exact de_call h4 hr hgd hg h1 h2 h3 C.mo ha hdb he hpl
theorem gdk (i : Nat) {y : Str} {ms : List Md} {tr : DA} (hr : GA X e M ms xs tr) (hN : X.N[i]? = some y := by rfl) (hv : Vis X.env.scope y := by first | exact Or.inl rfl | exact Or.inr (Or.inl rfl) | exact Or.inr (Or.inr rfl)) (hm : md M i = .dk := by rfl) (hd : (y == ("__debug__" : Str)) = false := by decide) (hcd : (y == ("__classdict__" : Str)) = false := by decide)
    (hs : starEach (.Name y pos :: xs) X.env = (false, eval (.Name y pos) X.env) :: starEach xs X.env := by rfl) : GA X e M (.dk :: ms) (.Name y pos :: xs) (tConsA (tDk i) tr) := ga_dk hN hv hr hm hd hcd hs
end
/-- a def that stands behind the top -/
structure Hd (K : PySem.W.Frag) (mg : Str → Option Value) (x : Str) (st : Stmt) (ps : List Str) : Prop where
  ex : ∃ f fd, Fun K x x st f fd ∧ Binds K fd ps [] ∧ mg x = some (.ref f)
section
variable {P : Program} {w : World} {K : PySem.W.Frag} {mg : Str → Option Value} {base : Heap}
theorem clD {x : Str} {st : Stmt} {N ps : List Str} {M ms : List Md} {k : Nat} {kf : KF} (h : Hd K mg x st ps) (S : FnScope N ps (defScope st)) (mo : MonoC kf)
    (hM : M.take ms.length = ms) (hp : ms.all Md.par = true) (hms : ms.length = ps.length) (hn : ps.length ≤ N.length)
    (bd : ∃ t : DTS, (∀ (f : Addr) (cdv : Value) (A : Around) (outer : List Env) (s : Shared) (H : Hp) (E : XK) (e : Ent), Room k (A.deeper (envOfC x (defScope st) s.heap.objs.size f cdv)) → (A.deeper (envOfC x (defScope st) s.heap.objs.size f cdv)).guards = some [] →
      DSs (cxOf CX0 P w K mg base N x (defScope st) f cdv A outer s H E).nox e M (defBody st) t) ∧
      (∀ ds (Q : D → Prop), kf ds Q → t { nx := fun _ => Q .none, rt := Q } (startD N.length ds))) (hso : soloM M = true := by rfl) : Cl P w K mg base (k + 1) x ps ms kf := by
  obtain ⟨f, fd, F, b, m⟩ := h.ex
  obtain ⟨t, d, sp⟩ := bd
  exact ⟨⟨f, fd, m, F.kp, b, fnD F S hM hp hms hn hso (fun cdv A outer s H E e hr hg => d f cdv A outer s H E e hr hg) sp⟩, mo⟩
end
end PP

set_option Elab.async false
set_option linter.all false
set_option maxRecDepth 100000
set_option maxHeartbeats 1000000
namespace PySem
open Sem (wp)
open AutoSeq1 (wpAny_loadPart')
/-- enumerate of a tuple, made -/
theorem pp_enumT (l : Addr) (items : Array Value) (n : Nat) (dct : Option Addr) (sl : Array (Option Value)) :
    Meets (Builtin.«enumerate.__new__» ⟨[.type "enumerate", .ref l], []⟩)
      (fun _ R s => s.heap.get? l = some { cls := .type "tuple", dict := dct, data := .seq items n, slots := sl } ∧
        R (.ok (.ret (.ref (s.heap.push { cls := .type "tuple_iterator", data := .fields #[.ref l, .int 0 0] }).objs.size)))
          { s with heap := (s.heap.push { cls := .type "tuple_iterator", data := .fields #[.ref l, .int 0 0] }).push { cls := .type "enumerate", data := .fields #[.none, .bool false, .ref s.heap.objs.size, rawInt 0, .none, .none] } }) := by
  refine .of_wp fun prog w A R s h => ?_
  obtain ⟨hp, g, d, tk, os⟩ := s
  obtain ⟨hl, h⟩ := h
  have hsub := sub_enumerate
  have hT : Heap.IsTuple (Shared.heap ⟨hp, g, d, tk, os⟩) l items := ⟨_, hl, rfl, n, rfl⟩
  wp_walk using wpAny_loadPart' hl
  refine wpAny_stack_any fun st => wpAny_pure ?_
  split
  · rename_i c _ _ _ _ _
    cases (c == Value.type "enumerate") <;>
    · wp_walk using wpAny_loadPart' hl, wpAny_pyIter_tuple hT
      exact ⟨_, rfl, h⟩
  · wp_walk using wpAny_loadPart' hl, wpAny_pyIter_tuple hT
    exact ⟨_, rfl, h⟩
theorem pp_call_enumT {prog : Program} {w : World} {A : Around} {E : Value → Shared → Prop} {s : Shared} {l : Addr} {items : Array Value} {Q : Value → Shared → Prop} (hT : s.heap.IsTuple l items)
    (h : ∀ h', IsEnum h' (s.heap.objs.size + 1) s.heap.objs.size 0 .none → h'.IsTupleIter s.heap.objs.size l 0 →
      (∀ b o, s.heap.get? b = some o → h'.get? b = some o) → Q (.ref (s.heap.objs.size + 1)) { s with heap := h' }) :
    wpAny (model prog w) A (call (.type "enumerate") [.ref l]) Q E s := by
  obtain ⟨⟨c, dct, dt, sl⟩, hl, hc, n, hd⟩ := hT
  obtain rfl : c = .type "tuple" := hc
  obtain rfl : dt = .seq items n := hd
  refine callType_new F.called_enumerate (by decide) (F.typeCall_enumerate_1 _) (F.newCall_enumerate_1 _)
    (fun obj => F.args_object_init_2 obj _) F.entry_enumerate_new (pp_enumT l items n dct sl) ⟨hl, ?_⟩
  have z : (s.heap.push { cls := .type "tuple_iterator", data := .fields #[.ref l, .int 0 0] }).objs.size = s.heap.objs.size + 1 :=
    Heap.size_push ..
  show _ ∧ _
  rw [z]
  have he := Heap.get?_push_size (s.heap.push { cls := .type "tuple_iterator", data := .fields #[.ref l, .int 0 0] })
    (o := { cls := .type "enumerate", data := .fields #[.none, .bool false, .ref s.heap.objs.size, rawInt 0, .none, .none] }) rfl
  rw [z] at he
  exact ⟨⟨_, he, rfl⟩, h _ he ⟨{ cls := .type "tuple_iterator", data := .fields #[.ref l, .int 0 0] }, Heap.get?_push_of_some _ (Heap.get?_push_size _ rfl), rfl, rfl⟩
    fun b o x => Heap.get?_push_of_some _ (Heap.get?_push_of_some _ x)⟩
end PySem
namespace PP
open PySem PySem.Spec PyProof.Rows L2
/-- enumerate(tuple) -/
def ItT (K : PySem.W.Frag) (a : Addr) : It :=
  ⟨fun i H => ∃ xs x, SqT K H a xs ∧ xs[i]? = some x,
    fun i H v H' => ∃ T x o, v = .ref T ∧ H T = none ∧ H' = upd H T (.frz o (.tup [.int (i : Nat), x])) ∧ (o.cls = Value.type "tuple" ∧ o.dict = none) ∧ ∀ xs, SqT K H a xs → xs[i]? = some x,
    fun i H => ∃ xs, SqT K H a xs ∧ xs.length ≤ i⟩
theorem turn_enT {P : Program} {w : World} {K : PySem.W.Frag} {elts : List Expr} {kk : Nat} {tpos : Pos} (a e it : Addr) :
    Turn P w K (.Tuple elts kk tpos) (ItT K a) [e, it] e (fun i h => (∃ old, IsEnum h e it ((i : Nat) : Int) old) ∧ h.IsTupleIter it a i ∧ e ≠ it) where
  mem := List.mem_cons_self
  obj := by
    rintro i h ⟨⟨old, he⟩, ⟨o, ho, hc, hd⟩, _⟩ b hb
    rcases List.mem_cons.mp hb with z | z
    · subst z; exact ⟨_, he, fun v q => nomatch q⟩
    · rw [List.mem_singleton.mp z]; exact ⟨o, ho, fun v q => by rw [hd] at q; cases q⟩
  keep := by
    rintro i h h' ⟨⟨old, he⟩, hi, hne⟩ k
    exact ⟨⟨old, k e (by simp) _ he⟩, hi.at fun o q => k it (by simp) o q, hne⟩
  item := by
    rintro X rfl rfl rfl hc i pins s σ H E I hf ⟨⟨old, he⟩, hit, hne⟩ ⟨xs, x, hq, hx⟩
    obtain ⟨its, rv, tp, hz⟩ := I.tuple hq
    obtain ⟨u, hu, ru⟩ := rv.get hx
    have tp' : s.heap.IsTuple a its.toArray := tp
    have le : e < s.heap.objs.size := Heap.lt_size he
    have li : it < s.heap.objs.size := by obtain ⟨_, q, _⟩ := hit; exact Heap.lt_size q
    have cl : ∀ {b o}, s.heap.get? b = some o → o.cls ≠ .type "tuple" → b ≠ a := fun {b o} q nq z => by
      subst z
      obtain ⟨o', q', c', _⟩ := tp'
      rw [q] at q'; cases q'; exact nq c'
    have ea : e ≠ a := cl he (by show Value.type "enumerate" ≠ Value.type "tuple"; decide)
    have ia : it ≠ a := by
      obtain ⟨o, q, c, _⟩ := id hit
      exact cl q (by rw [c]; show Value.type "tuple_iterator" ≠ Value.type "tuple"; decide)
    have hlt : i < its.toArray.size := by
      have := (List.getElem?_eq_some_iff.mp hu).1
      simpa using this
    refine wpAny_pyNext_enum_itemD (Draws.tuple (A := X.A.in1) (show X.A.in1.handled = none from I.ok.hd hc) it a (Ne.symm ia) its.toArray) he (And.intro hit tp') hlt hne (by simp [hne, ea]) ?_
    intro y h' tk hy ho st hT hsz hk
    obtain rfl : u = y := by
      have : its.toArray[i]? = some u := by simpa using hu
      rw [this] at hy; cases hy; rfl
    refine ⟨_, rfl, wpAny_letOwnedTupleGo_enum (s := { s with heap := h', toks := tk + 1 }) ho ?_⟩
    intro h2 he' sb
    have hT2 : h2.get? s.heap.objs.size = some { cls := .type "tuple", data := .seq #[.int i tk, u] } := (sb.2 _ (Nat.ne_of_gt le)).trans hT
    have nw : ObjOk X.prog X.w (upd H s.heap.objs.size (.frz { cls := .type "tuple", data := .seq #[.int i tk, u] } (.tup [.int (i : Nat), x]))) h2 s.heap.objs.size (.frz { cls := .type "tuple", data := .seq #[.int i tk, u] } (.tup [.int (i : Nat), x])) :=
      ⟨hT2, by show 2 ≤ sizeLine; decide, [.int i tk, u], .cons ⟨_, rfl⟩ (.cons ru .nil), ⟨_, hT2, rfl, _, rfl⟩⟩
    have I1 : Inv X pins σ _ { s with heap := h2, toks := tk + 1 } := I.turnedNew (ch := [e, it]) (fun b ob hb q => by
      have n1 : b ≠ e := fun z => hb (by simp [z])
      have n2 : b ≠ it := fun z => hb (by simp [z])
      exact (sb.2 b n1).trans (hk b ob n1 n2 q)) hf (Nat.le_refl _) nw
    refine ⟨.ref s.heap.objs.size, _, I1, rfl, ⟨_, x, _, rfl, I.hok.fresh (Nat.le_refl _), rfl, ⟨rfl, rfl⟩, ?_⟩, ⟨⟨u, ?_⟩, ?_, hne⟩, ?_⟩
    · intro ys hy'
      rw [I.tuple_inj hy' hq]; exact hx
    · have e1 : ((i + 1 : Nat) : Int) = (i : Int) + 1 := by omega
      rw [e1]; exact he'
    · exact st.1.at fun o q => (sb.2 it (Ne.symm hne)).trans q
    · intro b hb
      have lb : b < s.heap.objs.size := by
        rcases List.mem_cons.mp hb with z | z
        · rw [z]; exact le
        · rw [List.mem_singleton.mp z]; exact li
      rw [upd_ne (Nat.ne_of_lt lb)]
      exact (hf b hb).1
  done := by
    rintro X rfl rfl rfl hc i pins s σ H E I hf ⟨⟨old, he⟩, hit, hne⟩ ⟨xs, hq, hx⟩
    obtain ⟨its, rv, tp, hz⟩ := I.tuple hq
    have tp' : s.heap.IsTuple a its.toArray := tp
    obtain ⟨f0, f1, f2, f3, f4, f5⟩ := hf it (by simp)
    have hl := rv.length
    have ia : it ≠ a := by
      obtain ⟨o, q, c, _⟩ := id hit
      intro z
      subst z
      obtain ⟨o', q', c', _⟩ := tp'
      rw [q] at q'; cases q'
      rw [c] at c'
      exact absurd (Value.type.inj c') (by decide)
    have hT : s.TypeIs (.ref e) "enumerate" := ⟨_, he, rfl⟩
    unfold pyNext
    refine wpAny_bind (wpAny_attempt (wpAny_callSpecial?_slot (name := Str.ofString "__next__") hT F.slot_enumerate_next
      (wpAny_call_entry F.slot_enumerate_next hT F.entry_enumerate_next ?_ (F.args_enumerate_next_1 _))))
    show wpAny _ _ (field (.ref e) 2 >>= _) _ _ _
    refine wpAny_bind (wpAny_field he rfl (x := .ref it) rfl (wpAny_bind (wpAny_nextOf_tuple_end (I.ok.hd hc) hit tp' (by simp; omega) ?_)))
    rintro h' x' eb ⟨o, ho, hcx⟩
    refine wpAny_bind (wpAny_isInstance (T := "StopIteration") (b := true) ⟨o, ho, hcx⟩ isSubtype_stop (wpAny_pure ⟨rfl, ?_⟩))
    exact I.turned (t' := s.toks) (fun b o hb q => eb b o hb q) f0 f1 f3 f4 f5
  self := by
    rintro A i s Q E ⟨⟨_, he⟩, _⟩ h
    exact wpAny_pyIter_enum he h
section
variable {X : Cx} {e : Ent} {M : List Md} {a : Expr} {ta : DT} {p pos tpos : Pos} {elts : List Expr} {kk : Nat}
def iEnA (K : PySem.W.Frag) (ta : TA) : TI := fun σ H R => ta σ H fun vs H1 =>
  ∃ b xs, vs = [.ref b] ∧ ((SqL K H1 b xs ∧ R (Ite K b) H1) ∨ (SqT K H1 b xs ∧ R (ItT K b) H1))
theorem pi_enA {tA : TA} (hg : Gl X "enumerate") (hm : X.mg "enumerate" = none) (ha : PA X [a] tA) (hs : starEach [a] X.env = [(false, eval a X.env)] := by rfl) :
    PI X (.Tuple elts kk tpos) (.Call (.Name "enumerate" p) [a] [] pos) (iEnA X.K tA) := by
  constructor
  intro pins s σ H R I h
  refine Call_ (ld_blt I hg hm boot_enumerate (PyProof.Rows.callWith_type1 (thn (ha.run pos pins s σ H _ I h) ?_) hs rfl))
  rintro us s1 ⟨vs, H1, I1, r1, b, xs, rfl, q⟩
  obtain rfl := r1.ref1
  have le : ∀ b, b ∈ [s1.heap.objs.size + 1, s1.heap.objs.size] → s1.heap.objs.size ≤ b := fun b hb => by
    rcases List.mem_cons.mp hb with z | z
    · rw [z]; exact Nat.le_add_right _ _
    · rw [List.mem_singleton.mp z]; exact Nat.le_refl _
  rcases q with ⟨hq, q⟩ | ⟨hq, q⟩
  · obtain ⟨its, rv, p', hz⟩ := I1.list hq
    refine call_enumerate_list p'.isList fun h' he hit hsz hk => wpAny_pyIter_enum he ?_
    exact ⟨_, _, _, _, H1, rfl, I1.kept (t' := s1.toks) hk, turn_enum b (s1.heap.objs.size + 1) s1.heap.objs.size, ⟨⟨.none, he⟩, hit, Nat.succ_ne_self _⟩,
      fun b hb => I1.fpOk (le b hb) (I1.hok.fresh (le b hb)), q⟩
  · obtain ⟨its, rv, p', hz⟩ := I1.tuple hq
    refine pp_call_enumT (show s1.heap.IsTuple b its.toArray from p') fun h' he hit hk => wpAny_pyIter_enum he ?_
    exact ⟨_, _, _, _, H1, rfl, I1.kept (t' := s1.toks) hk, turn_enT b (s1.heap.objs.size + 1) s1.heap.objs.size, ⟨⟨.none, he⟩, hit, Nat.succ_ne_self _⟩,
      fun b hb => I1.fpOk (le b hb) (I1.hok.fresh (le b hb)), q⟩
/-- the pairs -/
def enD (ds : List D) : List D := (List.range ds.length).map fun i => PyData.tuple [.int (i : Nat), ds.getD i .none]
theorem enD_get {ds : List D} {i : Nat} {d : D} (h : (enD ds)[i]? = some d) : ∃ x, ds[i]? = some x ∧ d = .tuple [.int (i : Nat), x] := by
  unfold enD at h
  by_cases hi : i < ds.length
  · rw [List.getElem?_map, List.getElem?_range hi] at h
    cases h
    exact ⟨ds[i], by simp [hi], by simp [hi]⟩
  · rw [List.getElem?_eq_none (by simpa using hi)] at h; cases h
theorem enD_len (ds : List D) : (enD ds).length = ds.length := by simp [enD]
theorem wk_enT {K : PySem.W.Frag} {F : Hp} {a : Addr} {xs : List V} {ds : List D} (h : FrT F a xs) (r : RpL K F ds xs) : Wk K (ItT K a) (enD ds) F := fun g F' H' bs l i => by
  have hq : SqT K H' a xs := bs.sub.sqT (l.frT h)
  have hl := r.length
  rw [enD_len]
  refine ⟨fun hi => ?_, fun hi => ⟨xs, hq, by omega⟩⟩
  have hx : i < xs.length := by omega
  refine ⟨⟨xs, xs[i], hq, by simp [hx]⟩, fun v H2 ⟨T, x, o, e1, nT, e2, oc, y⟩ => ?_⟩
  subst e1 e2
  refine ⟨upd F' T (.frz o (.tup [.int (i : Nat), x])), bs.alloc nT _, fun d hd => ?_⟩
  obtain ⟨z, h1, rfl⟩ := enD_get hd
  obtain ⟨v, h2, h3⟩ := (r.mono l).get h1
  have := y xs hq
  rw [h2] at this; cases this
  exact ⟨T, _, rfl, FrT.new oc.1 oc.2, _, _, rfl, rfl, _, _, rfl, h3.mono (.new (bs.sub.none nT)), rfl⟩
def tEnI (t : DT) : DA := fun ρ Q => t ρ fun d => match d with | .tuple ds => Q (enD ds) | _ => False
theorem di_enum (hg : Gl X "enumerate") (hm : X.mg "enumerate" = none) (ha : DE X e M a ta) (hs : starEach [a] X.env = [(false, eval a X.env)] := by rfl) : DI X e M (.Tuple elts kk tpos) (.Call (.Name "enumerate" p) [a] [] pos) (tEnI ta) :=
  ⟨pi_imp (pi_enA hg hm (pa_cons ha.pe pa_nil hs) hs) fun σ H R ⟨g, F, ρ, s, q⟩ => ⟨g, F, ρ, s, ha.mono ρ _ _ (fun d hd F' H' v t r => by
    split at hd
    · obtain ⟨p, vs, rfl, hp, rl⟩ := r
      exact ⟨p, vs, rfl, .inr ⟨t.sub.sqT hp, hd F' H' _ t (wk_enT hp rl)⟩⟩
    · exact hd.elim) q⟩, fun ρ Q Q' f q => ha.mono ρ _ _ (fun d q => by
    split at q
    · exact f _ q
    · exact q.elim) q⟩
end
end PP

set_option Elab.async false
set_option linter.all false
set_option maxRecDepth 100000
set_option maxHeartbeats 1000000
namespace PySem
open Sem (wp)
open AutoSeq1
theorem pp_extT (l : Addr) (xs : Array Value) (n : Nat) (b : Addr) (ys : Array Value) (n2 : Nat) (dd : Option Addr) (sl : Array (Option Value))
    (h0 : ¬(!xs.isEmpty && Builtin.List.listTooLong (xs.size + ys.size)) = true) (h1 : xs.size ≤ sizeLine) (h2 : xs.size + ys.size ≤ sizeLine + 1) :
    Meets (Builtin.«list.extend» ⟨[.ref l, .ref b], []⟩) (fun _ R s =>
      s.heap.get? l = some { cls := .type "list", dict := none, data := .seq xs n, slots := #[] } ∧
      s.heap.get? b = some { cls := .type "tuple", dict := dd, data := .seq ys n2, slots := sl } ∧
      R (.ok (.ret Value.none)) { s with heap := s.heap.update l (Obj.mapSeq fun x => x ++ ys), toks := s.toks }) := by
  refine .of_wp fun prog w A R s h => ?_
  obtain ⟨hp, g, d, tk, os⟩ := s
  obtain ⟨hl, hb, h⟩ := h
  have f1 := idx_int
  have f2 := sub_tuple_tuple
  have f3 := sub_list_list
  have f4 := sub_tuple_list
  have f5 := sub_list_tuple
  have hz' : (xs ++ ys).size ≤ sizeLine + 1 := by rw [Array.size_append]; exact h2
  wp_walk using (wpAny_updateSeq hl rfl (hz := h1) (_hz' := hz')), wpAny_loadPart' hl, wpAny_loadPart' hb
  exact ⟨_, rfl, h⟩
end PySem
namespace PP
open PySem PySem.Spec PyProof.Rows L2
def rExtT (K : PySem.W.Frag) : V → List V → Hp → VK → Prop := fun x vs H Q => ∃ l b xs zs, x = .ref l ∧ vs = [.ref b] ∧ H l = some (.lst xs) ∧ SqT K H b zs ∧ xs.length + zs.length ≤ sizeLine ∧ Q .non (upd H l (.lst (xs ++ zs)))
theorem mt_extT {X : Cx} : MtM X "list.extend" (rExtT X.K) := by
  intro pins s σ H x vs v us Q I rx rv h
  obtain ⟨l, b, xs, zs, rfl, rfl, hH, hB, hz, q⟩ := h
  cases rx
  obtain ⟨u, rfl, ru⟩ := rv.one
  cases ru
  obtain ⟨z, its, n, r, hl, e⟩ := I.lstM hH
  obtain ⟨its2, r2, ⟨⟨c, dd, dt, sl⟩, e2, hc, n2, hd⟩, _⟩ := I.tuple hB
  obtain rfl : c = .type "tuple" := hc
  obtain rfl : dt = .seq its2.toArray n2 := hd
  have l2 := r2.length
  have sz : its.toArray.size + its2.toArray.size ≤ sizeLine := by rw [List.size_toArray, List.size_toArray]; omega
  have long : ¬ (!its.toArray.isEmpty && Builtin.List.listTooLong (its.toArray.size + its2.toArray.size)) = true := by
    rw [notLongL sz, Bool.and_false]; exact Bool.false_ne_true
  refine call_meets F.slot_list_extend ⟨_, e, rfl⟩ F.entry_list_extend (F.args_list_extend_2 _ _)
    (pp_extT l its.toArray n b its2.toArray n2 dd sl long (by rw [List.size_toArray]; omega) (by omega)) ⟨e, e2, ?_⟩
  exact ⟨.non, _, I.lset (its' := its ++ its2) hH e (by simp) (r.append r2) (by rw [List.length_append]; omega), rfl, q⟩
section
variable {X : Cx} {e : Ent} {M : List Md} {a b : Expr} {ta tb : DT} {pos p1 p2 p3 : Pos}
/-- x.extend(list or tuple) -/
def dExt (i : Nat) (te : DT) : DTS := fun d ρ => match gt ρ i with
  | some (.list xs) => te ρ fun y => (match y with
    | .list ys => xs.length + ys.length ≤ sizeLine ∧ d.nx (sv ρ i (some (.list (xs ++ ys))))
    | .tuple ys => xs.length + ys.length ≤ sizeLine ∧ d.nx (sv ρ i (some (.list (xs ++ ys))))
    | _ => False)
  | _ => False
theorem dExt_mono {i : Nat} (m : Mono ta) : MonoS (dExt i ta) := fun d d' ρ j q => by
  unfold dExt at q ⊢
  split at q
  · refine m ρ _ _ (fun y q => ?_) q
    split at q
    · exact ⟨q.1, j.nx _ q.2⟩
    · exact ⟨q.1, j.nx _ q.2⟩
    · exact q.elim
  · exact q.elim
theorem mtm_or {id : String} {r r' : V → List V → Hp → VK → Prop} (h : MtM X id r) (h' : MtM X id r') : MtM X id (fun x xs H Q => r x xs H Q ∨ r' x xs H Q) := by
  intro pins s σ H x vs v us Q I rx rv q
  rcases q with q | q
  · exact h pins s σ H x vs v us Q I rx rv q
  · exact h' pins s σ H x vs v us Q I rx rv q
theorem ds_ext (i : Nat) {y : Str} {spos : Pos} (ha : DE X e M a ta) (hm : md M i = .own := by rfl) (hN : X.N[i]? = some y := by rfl) (hv : Vis X.env.scope y := by first | exact Or.inl rfl | exact Or.inr (Or.inl rfl) | exact Or.inr (Or.inr rfl)) (hd : (y == ("__debug__" : Str)) = false := by decide) (hcd : (y == ("__classdict__" : Str)) = false := by decide)
    (h1 : starEach [a] X.env = (false, eval a X.env) :: starEach [] X.env := by rfl)
    (hE : ∀ {to : TE} {t : TA}, PE X (.Name y p1) to → PA X [a] t → PE X (.Call (.Attribute (.Name y p1) "extend" p2) [a] [] pos) (tBM X.K "list" (fun x xs H Q => rExtend x xs H Q ∨ rExtT X.K x xs H Q) to t) := by
      intro to t h h'; exact pe_bm PySem.F.plainAttrs_list PySem.F.slot_list_extend PySem.F.type_list_extend (mtm_or mt_extend mt_extT) h h')
    (hs : swapsWith (.Call (.Attribute (.Name y p1) "extend" p2) [a] [] pos) none spos.line X.env = pure false := by rfl) : DS X e M (.Expr (.Call (.Attribute (.Name y p1) "extend" p2) [a] [] pos) spos) (dExt i ta) :=
  ⟨ps_imp (ps_expr (hE (pe_var hN hv hd hcd) (pa_cons ha.pe pa_nil h1)) hs) fun E σ H ⟨g, F, ρ, d, s, q, h⟩ => by
    unfold dExt at q
    split at q
    · rename_i xs hx
      obtain ⟨p, vs, ds, e2, h1, h3, h4, h5, h6, h7⟩ := s.ownAt hx hm
      cases e2
      refine ⟨_, h1, .inl ⟨rfl, vs, .inl (.inl h3)⟩, g, F, ρ, s, ha.mono ρ _ _ (fun y hy F' H' v t r => ?_) q⟩
      split at hy
      · obtain ⟨b, zs, rfl, hb, rb⟩ := r
        exact .inl ⟨p, b, vs, zs, rfl, rfl, t.keep _ _ h3 h7, t.sub _ _ hb, by rw [h4.length, rb.length]; exact hy.1, h.nx g F' _ σ _ ((s.step t).putL hm hx h1 (t.no h3 h5) h6 h7 ((h4.mono t.mono).append rb)) hy.2⟩
      · obtain ⟨b, zs, rfl, hb, rb⟩ := r
        exact .inr ⟨p, b, vs, zs, rfl, rfl, t.keep _ _ h3 h7, t.sub.sqT hb, by rw [h4.length, rb.length]; exact hy.1, h.nx g F' _ σ _ ((s.step t).putL hm hx h1 (t.no h3 h5) h6 h7 ((h4.mono t.mono).append rb)) hy.2⟩
      · exact hy.elim
    · exact q.elim, dExt_mono ha.mono⟩
/-- z.append(x.pop(e)) -/
def dAppPop (i j : Nat) (tk : DT) : DTS := fun d ρ => match gt ρ i, gt ρ j with
  | some (.list xs), some (.list zs) => tk ρ fun k => (match k with
    | .int n => (0 ≤ n ∧ n < xs.length ∧ xs.length ≤ 1000 ∧ zs.length < 1000) ∧ (match xs[n.toNat]? with | some y => d.nx (sv (sv ρ i (some (.list (xs.eraseIdx n.toNat)))) j (some (.list (zs ++ [y])))) | none => False)
    | _ => False)
  | _, _ => False
theorem gt_sv_ne {ρ : En} {i j : Nat} {d : Option D} (h : j ≠ i) : gt (sv ρ i d) j = gt ρ j := by rw [gt_sv, if_neg h]
theorem ds_appPop (i j : Nat) {x z : Str} {p4 p5 spos : Pos} (hij : j ≠ i := by decide) (hb : RE X e M b tb) (hm : md M i = .own := by rfl) (hm2 : md M j = .own := by rfl) (hN : X.N[i]? = some x := by rfl) (hN2 : X.N[j]? = some z := by rfl)
    (hv : Vis X.env.scope x := by first | exact Or.inl rfl | exact Or.inr (Or.inl rfl) | exact Or.inr (Or.inr rfl)) (hv2 : Vis X.env.scope z := by first | exact Or.inl rfl | exact Or.inr (Or.inl rfl) | exact Or.inr (Or.inr rfl))
    (hd : (x == ("__debug__" : Str)) = false := by decide) (hcd : (x == ("__classdict__" : Str)) = false := by decide) (hd2 : (z == ("__debug__" : Str)) = false := by decide) (hcd2 : (z == ("__classdict__" : Str)) = false := by decide)
    (h1 : starEach [b] X.env = (false, eval b X.env) :: starEach [] X.env := by rfl)
    (hP : ∀ {to : TE} {t : TA}, PE X (.Name x p1) to → PA X [b] t → PE X (.Call (.Attribute (.Name x p1) "pop" p2) [b] [] p3) (tBM X.K "list" rPopAt to t) := by
      intro to t h h'; exact pe_bm PySem.F.plainAttrs_list PySem.F.slot_list_pop PySem.F.type_list_pop mt_popAt h h')
    (h2 : starEach [.Call (.Attribute (.Name x p1) "pop" p2) [b] [] p3] X.env = (false, eval (.Call (.Attribute (.Name x p1) "pop" p2) [b] [] p3) X.env) :: starEach [] X.env := by rfl)
    (hE : ∀ {to : TE} {t : TA}, PE X (.Name z p4) to → PA X [.Call (.Attribute (.Name x p1) "pop" p2) [b] [] p3] t → PE X (.Call (.Attribute (.Name z p4) "append" p5) [.Call (.Attribute (.Name x p1) "pop" p2) [b] [] p3] [] pos) (tBM X.K "list" rAppend to t) := by
      intro to t h h'; exact pe_bm PySem.F.plainAttrs_list PySem.F.slot_list_append PySem.F.type_list_append mt_append h h')
    (hs : swapsWith (.Call (.Attribute (.Name z p4) "append" p5) [.Call (.Attribute (.Name x p1) "pop" p2) [b] [] p3] [] pos) none spos.line X.env = pure false := by rfl) :
    DS X e M (.Expr (.Call (.Attribute (.Name z p4) "append" p5) [.Call (.Attribute (.Name x p1) "pop" p2) [b] [] p3] [] pos) spos) (dAppPop i j tb) :=
  ⟨ps_imp (ps_expr (hE (pe_var hN2 hv2 hd2 hcd2) (pa_cons (hP (pe_var hN hv hd hcd) (pa_cons hb.pe pa_nil h1)) pa_nil h2)) hs) fun E σ H ⟨g, F, ρ, d, s, q, h⟩ => by
    unfold dAppPop at q
    split at q
    · rename_i xs zs hx hz
      obtain ⟨p, vs, ds, e2, a1, a3, a4, a5, a6, a7⟩ := s.ownAt hx hm
      cases e2
      obtain ⟨p', vs', ds', e2, b1, b3, b4, b5, b6, b7⟩ := s.ownAt hz hm2
      cases e2
      have pp : p' ≠ p := fun z => by
        subst z
        exact s.apart i j p' (Ne.symm hij) (by rw [hm]; rfl) (by rw [hm2]; rfl) (by rw [hx]; simp) (by rw [hz]; simp) a1 b1
      refine ⟨_, b1, .inl ⟨rfl, vs', .inl (.inl b3)⟩, _, a1, .inl ⟨rfl, vs, .inl (.inl a3)⟩, g, F, ρ, s, hb.mono ρ _ _ (fun k hk F' H' v t r => ?_) q⟩
      split at hk
      · rename_i n
        obtain ⟨⟨n0, n1, n2, n3⟩, hk⟩ := hk
        split at hk
        · rename_i y hy
          obtain ⟨w, hw, rw'⟩ := a4.get hy
          have L1 := a4.length
          have L2 := b4.length
          have s2 := (s.step t).putL hm hx a1 (t.no a3 a5) a6 a7 ((a4.mono t.mono).eraseIdx n.toNat)
          have nz : n = (n.toNat : Int) := (Int.toNat_of_nonneg n0).symm
          refine ⟨p, vs, n, n.toNat, w, rfl, by rw [r.int], t.keep _ _ a3 a7, by omega, by omega, (ixN_seq (by unfold ixN; rw [if_pos n0, if_pos (by omega)])).1, hw, ?_⟩
          refine ⟨p', vs', w, rfl, rfl, by rw [upd_ne pp]; exact t.keep _ _ b3 b7, ?_, ?_⟩
          · exact Nat.lt_of_le_of_lt (show vs'.length ≤ 1000 by omega) (by decide)
          · exact h.nx g F' _ σ _ (s2.putL hm2 (by rw [gt_sv_ne hij]; exact hz) b1 (t.no b3 b5) b6 b7 ((b4.mono t.mono).append (.cons (rw'.mono t.mono) .nil))) hk
        · exact hk.elim
      · exact hk.elim
    · exact q.elim, fun d d' ρ k q => by
    unfold dAppPop at q ⊢
    split at q
    · refine hb.mono ρ _ _ (fun k' q => ?_) q
      split at q
      · refine ⟨q.1, ?_⟩
        have q := q.2
        split at q
        · exact k.nx _ q
        · exact q.elim
      · exact q.elim
    · exact q.elim⟩
end
end PP

set_option Elab.async false
set_option linter.all false
set_option maxRecDepth 100000
set_option maxHeartbeats 1000000
namespace PP
open PySem PySem.Spec PyProof.Rows L2
/-- rows of ints: by their first difference, then the shorter one -/
def lxB : List Int → List Int → Bool
  | _, [] => false
  | [], _ :: _ => true
  | a :: r, b :: q => if a = b then lxB r q else decide (a < b)
theorem lxB_asym : ∀ x y : List Int, lxB x y = true → lxB y x = false
  | _, [], h => by simp [lxB] at h
  | [], _ :: _, _ => rfl
  | a :: r, b :: q, h => by
    unfold lxB at h ⊢
    by_cases e : a = b
    · rw [if_pos e] at h
      rw [if_pos e.symm]
      exact lxB_asym r q h
    · rw [if_neg e] at h
      rw [if_neg fun z => e z.symm]
      have := of_decide_eq_true h
      exact decide_eq_false (by omega)
theorem lxB_tr : ∀ x y z : List Int, lxB y x = false → lxB z y = false → lxB z x = false
  | [], _, z, _, _ => by cases z <;> simp_all [lxB]
  | a :: r, [], _, h, _ => by simp [lxB] at h
  | a :: r, b :: q, [], _, h => by simp [lxB] at h
  | a :: r, b :: q, c :: p, h1, h2 => by
    unfold lxB at h1 h2 ⊢
    by_cases e : b = a
    · rw [if_pos e] at h1
      by_cases e2 : c = b
      · rw [if_pos e2] at h2
        rw [if_pos (e2.trans e)]
        exact lxB_tr r q p h1 h2
      · rw [if_neg e2] at h2
        rw [if_neg (by omega)]
        have := of_decide_eq_false h2
        exact decide_eq_false (by omega)
    · rw [if_neg e] at h1
      have h1 := of_decide_eq_false h1
      by_cases e2 : c = b
      · rw [if_neg (by omega)]
        exact decide_eq_false (by omega)
      · rw [if_neg e2] at h2
        have := of_decide_eq_false h2
        rw [if_neg (by omega)]
        exact decide_eq_false (by omega)
theorem lxB_swo {α : Type} (k : α → List Int) : SrtO.Swo fun x y => lxB (k x) (k y) := ⟨fun x y => lxB_asym _ _, fun x y z => lxB_tr _ _ _⟩
section
variable {prog : Program} {w : World} {A : Around} {E : Value → Shared → Prop} {s : Shared} {Q : Bool → Shared → Prop}
theorem lx_lex {b fin : Bool} {xs ys : List Value} {ns ms : List Int} (i : Nat) (hx : IntsAre xs ns) (hy : IntsAre ys ms) (hf : fin = decide (ns.length < ms.length)) (h : Q (lxB ns ms) s) : PySem.W.KatLex prog w A b fin Q (xs.zip ys) i s := by
  induction hx generalizing ys ms i with
  | nil =>
    cases hy with
    | nil =>
      rw [hf]
      exact PySem.W.kat_nil h
    | cons q u hy =>
      rw [hf]
      exact PySem.W.kat_nil h
  | @cons p t xs ns hx ih =>
    cases hy with
    | nil =>
      rw [hf]
      exact PySem.W.kat_nil h
    | @cons q u ys ms hy =>
      show PySem.W.KatLex prog w A b fin Q ((Value.int p t, Value.int q u) :: xs.zip ys) i s
      refine PySem.W.kat_cons (wpAny_eqBool_int ?_)
      have hf' : fin = decide (ns.length < ms.length) := by rw [hf]; exact decide_eq_decide.mpr (by simp)
      by_cases e : p = q
      · subst e
        rw [beq_self_eq_true]
        unfold lxB at h
        rw [if_pos rfl] at h
        exact PySem.W.kat_yes (ih (i + 1) hy hf' h)
      · rw [show (p == q) = false from beq_eq_false_iff_ne.mpr e]
        unfold lxB at h
        rw [if_neg e] at h
        exact PySem.W.kat_no (TS.oneLt_ints _ h)
end
/-- what is sorted: rows of at least one int each -/
def RowsOk (h : Heap) (vs : List Value) : Prop := ∀ v, v ∈ vs → ∃ ns, TS.TupInts h v ns ∧ ns ≠ []
def rowKey (h : Heap) (v u : Value) : Bool := lxB (TS.intsOf h v) (TS.intsOf h u)
theorem RowsOk.firsts {h : Heap} : ∀ vs : List Value, RowsOk h vs → ∃ fs, PySem.W.KatTups h vs fs ∧ fs.length = vs.length ∧ ∀ f, f ∈ fs → ∃ n t, f = Value.int n t
  | [], _ => ⟨[], PySem.W.KatTups.nil, rfl, fun f hf => by simp at hf⟩
  | v :: vs, x => by
    obtain ⟨fs, k, hl, hi⟩ := RowsOk.firsts vs fun u hu => x u (List.mem_cons_of_mem _ hu)
    obtain ⟨ns, ⟨a, xs, rfl, ⟨o, ho, hc, n, hdt⟩, i⟩, hn⟩ := x v (List.mem_cons_self ..)
    obtain ⟨y, ys, e⟩ : ∃ y ys, xs.toList = y :: ys := by
      cases q : xs.toList with
      | nil =>
        rw [q] at i
        cases i
        exact absurd rfl hn
      | cons y ys => exact ⟨y, ys, rfl⟩
    obtain ⟨m, t, hy⟩ := i.all y (by rw [e]; exact List.mem_cons_self ..)
    refine ⟨y :: fs, PySem.W.KatTups.cons ho hc hdt ?_ k, by simp [hl], ?_⟩
    · have z := congrArg (fun l : List Value => l[0]?) e
      simpa using z
    · intro f hf
      rcases List.mem_cons.mp hf with rfl | hf
      · exact ⟨m, t, hy⟩
      · exact hi f hf
theorem rows_sortable {prog : Program} {w : World} {A : Around} {s : Shared} {a : Addr} {vs : List Value} (k : Value → List Int) (h0 : 0 < vs.length) (hp : ∀ v ∈ vs, TS.TupInts s.heap v (k v) ∧ k v ≠ []) (ha : ∀ o, s.heap.get? a = some o → o.cls ≠ .type "tuple") :
    SrtO.SortableO prog w A s a vs fun v u => lxB (k v) (k u) := by
  intro h' keep
  have hp' : ∀ v ∈ vs, TS.TupInts h' v (k v) ∧ k v ≠ [] := fun v hm => ⟨(hp v hm).1.keeps fun b o e c => keep b o (fun z => by subst z; exact ha o e c) e, (hp v hm).2⟩
  obtain ⟨fs, h1, h2, h3⟩ := RowsOk.firsts vs fun v hm => ⟨_, hp' v hm⟩
  refine ⟨tuples' true, fun Q E hq => ?_, fun p q hm hm' => ?_⟩
  · refine PySem.W.kat_kind (T := .type "int") h1 (by omega) (fun f hm => ?_) (by rfl) ?_
    · obtain ⟨x, t, rfl⟩ := h3 f hm
      exact PySem.W.Looks.now
    · have e : (Value.type "int" != Value.type "tuple") = true := by first | decide +kernel | rfl | decide
      rw [e]
      exact hq
  · obtain ⟨⟨a1, xs, e1, ⟨o1, ho1, _, n1, hd1⟩, i1⟩, _⟩ := hp' _ hm
    obtain ⟨⟨a2, ys, e2, ⟨o2, ho2, _, n2, hd2⟩, i2⟩, _⟩ := hp' _ hm'
    show wpAny (model prog w) A (keyLt' (tuples' true) p.1 q.1) (fun r s' => s' = _ ∧ r = lxB (k p.1) (k q.1)) (fun _ _ => False) _
    generalize k p.1 = ns at i1 ⊢
    generalize k q.1 = ms at i2 ⊢
    rw [e1, e2]
    refine PySem.W.kat_lt ho1 hd1 ho2 hd2 (lx_lex 0 i1 i2 ?_ ⟨rfl, rfl⟩)
    have l1 := i1.length
    have l2 := i2.length
    rw [Array.length_toList] at l1 l2
    exact decide_eq_decide.mpr (by omega)
theorem lxB_total : ∀ x y : List Int, lxB x y = false → lxB y x = false → x = y
  | [], [], _, _ => rfl
  | [], _ :: _, h, _ => by simp [lxB] at h
  | _ :: _, [], _, h => by simp [lxB] at h
  | a :: r, b :: q, h1, h2 => by
    unfold lxB at h1 h2
    by_cases e : a = b
    · rw [if_pos e] at h1
      rw [if_pos e.symm] at h2
      rw [e, lxB_total r q h1 h2]
    · rw [if_neg e] at h1
      rw [if_neg fun z => e z.symm] at h2
      have := of_decide_eq_false h1
      have := of_decide_eq_false h2
      omega
def Asc (l : List (List Int)) : Prop := l.Pairwise fun a b => lxB b a = false
theorem asc_uniq : ∀ {l m : List (List Int)}, l.Perm m → Asc l → Asc m → l = m
  | [], m, h, _, _ => (List.Perm.eq_nil h.symm).symm
  | x :: l, [], h, _, _ => absurd h.length_eq (by simp)
  | x :: l, y :: m, h, hl, hm => by
    have h1 : lxB y x = false := by
      rcases List.mem_cons.mp (h.mem_iff.mpr (List.mem_cons_self (a := y) (l := m))) with e | hy
      · rw [e]; exact (lxB_swo id).refl x
      · exact (List.pairwise_cons.mp hl).1 y hy
    have h2 : lxB x y = false := by
      rcases List.mem_cons.mp (h.mem_iff.mp (List.mem_cons_self (a := x) (l := l))) with e | hx
      · rw [e]; exact (lxB_swo id).refl y
      · exact (List.pairwise_cons.mp hm).1 x hx
    have e : x = y := lxB_total x y h2 h1
    subst e
    rw [asc_uniq h.cons_inv (List.pairwise_cons.mp hl).2 (List.pairwise_cons.mp hm).2]
def srtR (ks : List (List Int)) : List (List Int) := ks.mergeSort fun a b => !lxB b a
theorem srtR_perm (ks : List (List Int)) : (srtR ks).Perm ks := List.mergeSort_perm ks _
theorem srtR_asc (ks : List (List Int)) : Asc (srtR ks) := by
  have h := List.pairwise_mergeSort (le := fun a b => !lxB b a) (fun a b c h1 h2 => by
    have h1 : lxB b a = false := by simpa using h1
    have h2 : lxB c b = false := by simpa using h2
    simpa using lxB_tr _ _ _ h1 h2) (fun a b => by
    cases q : lxB b a with
    | false => rfl
    | true => rw [lxB_asym _ _ q]; rfl) ks
  exact h.imp fun {a b} z => by simpa using z
theorem srtR_eq {ks js : List (List Int)} (h : js.Perm ks) (a : Asc js) : js = srtR ks := asc_uniq (h.trans (srtR_perm ks).symm) a (srtR_asc ks)
def RowAt (K : PySem.W.Frag) (H : Hp) (x : V) (n : List Int) : Prop := ∃ t, x = V.ref t ∧ SqT K H t (n.map V.int)
def RowsP (P : V → List Int → Prop) : List V → List (List Int) → Prop
  | [], ks => ks = []
  | x :: xs, ks => ∃ n r, ks = n :: r ∧ P x n ∧ RowsP P xs r
/-- sorted(xs), xs rows of ints -/
def rSortedR (K : PySem.W.Frag) : List V → Hp → VK → Prop := fun vs H Q => ∃ (a : Addr) (xs : List V) (ks : List (List Int)) (P : V → List Int → Prop), vs = [V.ref a] ∧ SqL K H a xs ∧ RowsP P xs ks ∧ (∀ x n, P x n → RowAt K H x n) ∧ (∀ n ∈ ks, n ≠ []) ∧
  ∀ ys p, RowsP P ys (srtR ks) → H p = none → Q (.ref p) (upd H p (.lst ys))
theorem ints_inj : ∀ {n m : List Int}, n.map V.int = m.map V.int → n = m
  | [], [], _ => rfl
  | [], _ :: _, h => by simp at h
  | _ :: _, [], h => by simp at h
  | a :: r, b :: q, h => by
    simp only [List.map_cons, List.cons.injEq, V.int.injEq] at h
    rw [h.1, ints_inj h.2]
open Classical in
noncomputable def rowK (K : PySem.W.Frag) (H : Hp) (x : V) : List Int := if h : ∃ n, RowAt K H x n then h.choose else []
theorem rowK_eq {X : Cx} {pins : List (Addr × Obj)} {σ : L2.St} {s : Shared} {H : Hp} (I : L2.Inv X pins σ H s) {x : V} {n : List Int} (h : RowAt X.K H x n) : rowK X.K H x = n := by
  have e : ∃ n, RowAt X.K H x n := ⟨n, h⟩
  unfold rowK
  rw [dif_pos e]
  obtain ⟨t, q, ht⟩ := e.choose_spec
  obtain ⟨t', q', ht'⟩ := h
  rw [q] at q'
  cases q'
  exact ints_inj (I.tuple_inj ht ht')
theorem rowsP_map {P : V → List Int → Prop} {f : V → List Int} : ∀ {xs : List V}, (∀ x ∈ xs, P x (f x)) → RowsP P xs (xs.map f)
  | [], _ => rfl
  | x :: xs, h => ⟨_, _, rfl, h x List.mem_cons_self, rowsP_map fun y m => h y (List.mem_cons_of_mem _ m)⟩
theorem rowsP_k {X : Cx} {pins : List (Addr × Obj)} {σ : L2.St} {s : Shared} {H : Hp} (I : L2.Inv X pins σ H s) {P : V → List Int → Prop} (hP : ∀ x n, P x n → RowAt X.K H x n) : ∀ {xs : List V} {ks : List (List Int)}, RowsP P xs ks → ks = xs.map (rowK X.K H) ∧ ∀ x ∈ xs, P x (rowK X.K H x)
  | [], _, h => ⟨h, fun _ z => by simp at z⟩
  | x :: xs, _, ⟨n, r, e, h, t⟩ => by
    obtain ⟨e2, f⟩ := rowsP_k I hP t
    have q := rowK_eq I (hP _ _ h)
    refine ⟨by rw [e, e2, List.map_cons, q], fun y m => ?_⟩
    rcases List.mem_cons.mp m with z | m
    · rw [z, q]; exact h
    · exact f y m
theorem cr_sortedR {X : Cx} : CallR X (.builtin "sorted") (rSortedR X.K) := by
  intro pins s σ H vs us Q I r h
  obtain ⟨a, xs, ks, P, rfl, hs, hr, hP, hne, q⟩ := h
  obtain ⟨ek, hx'⟩ := rowsP_k I hP hr
  have hx : ∀ x ∈ xs, RowAt X.K H x (rowK X.K H x) := fun x m => hP _ _ (hx' x m)
  obtain ⟨its, rv, hl, hz⟩ := I.list hs
  obtain ⟨u, rfl, ru⟩ := vals1 r
  obtain rfl : u = Value.ref a := ru
  obtain ⟨e1, e2⟩ := refs_back rv fun x m => by
    obtain ⟨t, e, _⟩ := hx x m
    exact ⟨t, e⟩
  have T : ∀ v ∈ its, TS.TupInts s.heap v (rowK X.K H (backV v)) ∧ rowK X.K H (backV v) ≠ [] := fun v hv => by
    obtain ⟨t, rfl⟩ := e2 v hv
    have hm : V.ref t ∈ xs := by rw [e1]; exact List.mem_map.mpr ⟨_, hv, rfl⟩
    obtain ⟨t', e, ht⟩ := hx _ hm
    cases e
    obtain ⟨its2, r2, hT, _⟩ := I.tuple ht
    exact ⟨⟨t, its2.toArray, rfl, hT, r2.ints⟩, hne _ (by rw [ek]; exact List.mem_map.mpr ⟨_, hm, rfl⟩)⟩
  refine SrtO.sorted_ord (lxB_swo fun u => rowK X.K H (backV u)) hl.isList (by rw [← rv.length]; exact hz) (fun h2 h₁ a' ha kk => rows_sortable _ (by omega) (fun v hv => ⟨(T v hv).1.keeps fun b o e _ => (kk b o e).2, (T v hv).2⟩) fun o e c => ?_) fun out h1 h2 => ?_
  · have e' : some o = some (seqObj "list" its.toArray 0) := e.symm.trans ha
    cases e'
    exact absurd (Value.type.inj c) (by decide)
  · have h3 : ∀ u ∈ out, ∃ a, u = Value.ref a := fun u hu => e2 u (h2.perm.mem_iff.mp hu)
    obtain ⟨ep, he'⟩ := PyProof.Rows.sortedAll_at s.heap its out.toArray
    have hb : SrtO.Stb (fun x y => lxB (rowK X.K H x) (rowK X.K H y)) (out.map backV) xs := by
      rw [e1]
      exact SrtO.Stb.map (lxB_swo (rowK X.K H)) backV h2
    have pm := hb.perm
    have hs' : Asc ((out.map backV).map (rowK X.K H)) := List.pairwise_map.mpr (SrtO.srtd_map h1)
    have e3 := srtR_eq (ks := ks) (by rw [ek]; exact pm.map (rowK X.K H)) hs'
    refine ⟨.ref _, upd H (s.heap.objs.size + 1) (.lst (out.map backV)), I.laid (t' := s.toks) (fun _ _ => PyProof.Rows.sortedAll_old) (Nat.le_succ _) ⟨?_, out, ep, vals_back h3, he'⟩, rfl, q _ _ ?_ (I.hok.fresh (Nat.le_succ _))⟩
    · rw [hb.len]
      exact hz
    · rw [← e3]
      exact rowsP_map fun x m => hx' x (pm.mem_iff.mp m)
/-! ### in data -/
def rowD (n : List Int) : D := .tuple (n.map PyData.int)
def RowIn (K : PySem.W.Frag) (F : Hp) (x : V) (n : List Int) : Prop := Rp K F (rowD n) x
theorem RowIn.at {K : PySem.W.Frag} {F H : Hp} (l : Le F H) {x : V} {n : List Int} (h : RowIn K F x n) : RowAt K H x n := by
  obtain ⟨a, ys, e, h, r⟩ := h
  rw [RpL.ints_inv r] at h
  exact ⟨a, e, l.sqT h⟩
theorem RowsP.of {K : PySem.W.Frag} {F : Hp} : ∀ {ks : List (List Int)} {vs : List V}, RpL K F (ks.map rowD) vs → RowsP (RowIn K F) vs ks
  | [], _, h => by have h : _ = [] := h; subst h; rfl
  | n :: ks, _, ⟨x, xs, e, h, t⟩ => by
    subst e
    exact ⟨n, ks, rfl, h, RowsP.of t⟩
theorem RowsP.rp {K : PySem.W.Frag} {F : Hp} : ∀ {vs : List V} {ks : List (List Int)}, RowsP (RowIn K F) vs ks → RpL K F (ks.map rowD) vs
  | [], _, h => by have h : _ = [] := h; subst h; rfl
  | x :: xs, _, ⟨n, r, e, h, t⟩ => by
    subst e
    exact ⟨x, xs, rfl, h, RowsP.rp t⟩
def intsL : List D → Option (List Int)
  | [] => some []
  | .int i :: r => (intsL r).map (i :: ·)
  | _ :: _ => none
theorem intsL_map {ds : List D} {ns : List Int} (h : intsL ds = some ns) : ds = ns.map PyData.int := by
  induction ds generalizing ns with
  | nil => cases h; rfl
  | cons d ds ih =>
    cases d <;> first
      | (unfold intsL at h
         cases q : intsL ds with
         | none => rw [q] at h; cases h
         | some cs => rw [q] at h; cases h; rw [ih q]; rfl)
      | cases h
theorem intsL_of (ns : List Int) : intsL (ns.map PyData.int) = some ns := by
  induction ns with
  | nil => rfl
  | cons n ns ih => simp [intsL, ih]
section
variable {X : Cx} {e : Ent} {M : List Md} {a : Expr} {xs : List Expr} {tA : DA} {pos p : Pos}
/-- sorted of rows of ints: a new list -/
def kSortR : List D → (List D → Prop) → Prop := fun ds Q => ∃ ks : List (List Int), ds = [.list (ks.map rowD)] ∧ (∀ n ∈ ks, n ≠ []) ∧ Q ((srtR ks).map rowD)
theorem fe_sortR (hg : Gl X "sorted") (hm : X.mg "sorted" = none) (ha : AR X e M (a :: xs) tA) (he : starEach (a :: xs) X.env = (false, eval a X.env) :: starEach xs X.env := by rfl) (hpl : (backTo pos (starEach xs X.env)).any (·.1) = false := by rfl) :
    FE X e M (.Call (.Name "sorted" p) (a :: xs) [] pos) (fun ρ Q => tA ρ fun ds => kSortR ds Q) :=
  ⟨pe_imp (pe_callB cr_sortedR hg hm (by decide +kernel) ha.pa (he := he) (hpl := hpl)) fun σ H Q ⟨g, F, ρ, sr, q⟩ => ⟨g, F, ρ, sr, ha.mono ρ _ _ (fun ds hd F1 H1 vs s rv => by
    have bs := s.bs sr.bs
    obtain ⟨ks, rfl, hne, hd⟩ := hd
    obtain ⟨v, rfl, r⟩ := rv.one
    obtain ⟨p, vs, rfl, hp, m, r⟩ := r.lst bs
    exact ⟨p, vs, ks, RowIn X.K F1, rfl, .inl (.inl hp), .of r, fun x n h => h.at bs.sub, hne, fun ys l hy hn => hd F1 _ l ys (s.trans (bs.hide hn _)) (s.old hn) (s.sub.none hn) upd_same hy.rp⟩) q⟩,
    fun ρ Q Q' f q => ha.mono ρ _ _ (fun ds ⟨ks, h1, h2, q⟩ => ⟨ks, h1, h2, f _ q⟩) q⟩
/-- the ints, ascending -/
def srtI (ns : List Int) : List Int := ns.mergeSort fun a b => decide (a ≤ b)
theorem srtI_perm (ns : List Int) : (srtI ns).Perm ns := List.mergeSort_perm ns _
theorem srtI_asc (ns : List Int) : (srtI ns).Pairwise (· ≤ ·) := by
  have h := List.pairwise_mergeSort (le := fun a b : Int => decide (a ≤ b)) (fun a b c h1 h2 => by simp at *; omega) (fun a b => by simp; omega) ns
  exact h.imp fun {a b} z => by simpa using z
theorem int_uniq : ∀ {l m : List Int}, l.Perm m → l.Pairwise (· ≤ ·) → m.Pairwise (· ≤ ·) → l = m
  | [], m, h, _, _ => (List.Perm.eq_nil h.symm).symm
  | x :: l, [], h, _, _ => absurd h.length_eq (by simp)
  | x :: l, y :: m, h, hl, hm => by
    have h1 : x ≤ y := by
      rcases List.mem_cons.mp (h.mem_iff.mpr (List.mem_cons_self (a := y) (l := m))) with e | hy
      · omega
      · exact (List.pairwise_cons.mp hl).1 y hy
    have h2 : y ≤ x := by
      rcases List.mem_cons.mp (h.mem_iff.mp (List.mem_cons_self (a := x) (l := l))) with e | hx
      · omega
      · exact (List.pairwise_cons.mp hm).1 x hx
    have e : x = y := by omega
    subst e
    rw [int_uniq h.cons_inv (List.pairwise_cons.mp hl).2 (List.pairwise_cons.mp hm).2]
theorem srtI_eq {ks js : List Int} (h : js.Perm ks) (a : js.Pairwise (· ≤ ·)) : js = srtI ks := int_uniq (h.trans (srtI_perm ks).symm) a (srtI_asc ks)
def kSortI : List D → (List D → Prop) → Prop := fun ds Q => ∃ ks : List Int, ds = [.list (ks.map PyData.int)] ∧ Q ((srtI ks).map PyData.int)
theorem fe_sortI (hg : Gl X "sorted") (hm : X.mg "sorted" = none) (ha : AR X e M (a :: xs) tA) (he : starEach (a :: xs) X.env = (false, eval a X.env) :: starEach xs X.env := by rfl) (hpl : (backTo pos (starEach xs X.env)).any (·.1) = false := by rfl) :
    FE X e M (.Call (.Name "sorted" p) (a :: xs) [] pos) (fun ρ Q => tA ρ fun ds => kSortI ds Q) :=
  ⟨pe_imp (pe_callB cr_sortedI hg hm (by decide +kernel) ha.pa (he := he) (hpl := hpl)) fun σ H Q ⟨g, F, ρ, sr, q⟩ => ⟨g, F, ρ, sr, ha.mono ρ _ _ (fun ds hd F1 H1 vs s rv => by
    have bs := s.bs sr.bs
    obtain ⟨ks, rfl, hd⟩ := hd
    obtain ⟨v, rfl, r⟩ := rv.one
    obtain ⟨p, vs, rfl, hp, m, r⟩ := r.lst bs
    rw [RpL.ints_inv r] at hp
    exact ⟨p, ks, rfl, .inl (.inl hp), fun js l h1 h2 hn => by
      have e := srtI_eq h1 h2
      exact hd F1 _ l (js.map V.int) (s.trans (bs.hide hn _)) (s.old hn) (s.sub.none hn) upd_same (by rw [e]; exact RpL.ints _)⟩) q⟩,
    fun ρ Q Q' f q => ha.mono ρ _ _ (fun ds ⟨ks, h1, q⟩ => ⟨ks, h1, f _ q⟩) q⟩
end
end PP

set_option Elab.async false
set_option linter.all false
set_option maxRecDepth 100000
set_option maxHeartbeats 3200000
namespace PP
open PySem PySem.Spec PyProof.Rows L2
abbrev newSetO (w : World) : Obj := { cls := .type "set", dict := none, data := .set #[] 0 (.fresh 0 0 (!w.params.followText "set-order")) }
abbrev lstItO (l : Addr) : Obj := { cls := .type "list_iterator", data := .fields #[.ref l, .int 0 0] }
section
variable {P : Program} {w : World} {A : Around} {E : Value → Shared → Prop} {s : Shared}
/-- set(xs) of a list of ints, with its table -/
theorem pp_setL {l : Addr} {items : Array Value} {ns : List Int} {Q : Value → Shared → Prop} (free : A.handled = none) (hl : s.heap.IsList l items) (hit : IntsAre items.toList ns) (few : ns.length + 1 < scanBound)
    (go : ∀ (g : Heap) (tk c : Nat), SetR w g s.heap.objs.size (fun j => decide (j ∈ ns)) c → c ≤ ns.length → (∀ b o, s.heap.get? b = some o → g.get? b = some o) → Q (.ref s.heap.objs.size) { s with heap := g, toks := tk }) :
    wpAny (model P w) A (call (.type "set") [.ref l]) Q E s := by
  have sz : items.size = ns.length := by
    rw [← hit.length, Array.length_toList]
  have TC := F.called_set
  obtain ⟨m1, m2, isMro⟩ := TC.mro
  have x1 := TC.made
  have x2 := TC.sub
  have x3 := TC.notType
  have x4 := TC.canCreate
  have x5 := F.typeCall_set_1 (.ref l)
  refine wpAny_call (codeAny_of_tree (wpAny_pure ⟨Code.quiet_builtin _ (by decide +kernel), codeAny_builtin F.entry_type_call ?_⟩))
  rw [Around.under_plain (weight_type_call_type "set" [.ref l] []) rfl]
  repeat any_goals first | assumption | wp_step
  refine codeAny_mono (code_set_led1 (.ref l) (Q₁ := fun o t => o = .ref s.heap.objs.size ∧ t = { s with heap := s.heap.push (newSetO w) }) (E := E) ⟨rfl, rfl⟩) ?_
  rintro (e | f) t r
  · exact r
  cases f <;> first | exact r.elim | skip
  obtain ⟨e1, e2⟩ := r
  subst e1 e2
  have at0 : (s.heap.push (newSetO w)).get? s.heap.objs.size = some (newSetO w) := Heap.get?_push_size _ rfl
  have isT : Shared.TypeIs { s with heap := s.heap.push (newSetO w) } (.ref s.heap.objs.size) "set" := ⟨_, at0, rfl⟩
  have y1 := TC.init.lookup
  have y2 := TC.init.bind (.ref s.heap.objs.size)
  repeat any_goals first | assumption | wp_step
  have fin : ∀ r t, wants (fun v u => v = .none ∧ ∃ g tk c, u = { s with heap := g, toks := tk } ∧ SetR w g s.heap.objs.size (fun j => decide (j ∈ ns)) c ∧ c ≤ ns.length ∧ ∀ b o, s.heap.get? b = some o → g.get? b = some o) E r t → True := fun _ _ _ => trivial
  refine codeAny_mono (codeAny_call_builtin (R := wants (fun v u => v = .none ∧ ∃ g tk c, u = { s with heap := g, toks := tk } ∧ SetR w g s.heap.objs.size (fun j => decide (j ∈ ns)) c ∧ c ≤ ns.length ∧ ∀ b o, s.heap.get? b = some o → g.get? b = some o) E)
    TC.init.plain F.entry_set_init (check_set_init_1 isT ?_)) ?_
  · obtain ⟨⟨oc, od, oda, osl⟩, ho, hc, k, hd⟩ := hl
    simp only at hc hd
    subst hc hd
    have ho' : (s.heap.push (newSetO w)).get? l = some { cls := .type "list", dict := od, data := .seq items k, slots := osl } := Heap.get?_push_of_some _ ho
    have z1 := F.sub_list_set
    have z2 := F.sub_list_frozenset
    have z3 : (Value.type "list" == Value.type "dict") = false := by decide
    have isL : (s.heap.push (newSetO w)).IsList l items := ⟨_, ho', rfl, k, rfl⟩
    unfold Builtin.«set.__init__» noKeywords Builtin.Frozenset.updateFrom
    generalize hI : pyIter = it
    wp_walk
    subst hI
    refine wpAny_pyIter_list isL (wpAny_bind (wpAny_runValue ?_))
    have lt : l < s.heap.objs.size := Heap.lt_size ho
    have pz : (s.heap.push (newSetO w)).objs.size = s.heap.objs.size + 1 := Heap.size_push ..
    have n1 : l ≠ (s.heap.push (newSetO w)).objs.size := by rw [pz]; exact Nat.ne_of_lt (Nat.lt_succ_of_lt lt)
    have n2 : s.heap.objs.size ∉ [(s.heap.push (newSetO w)).objs.size, l] := by
      rw [pz]
      simp only [List.mem_cons, List.not_mem_nil, or_false, not_or]
      exact ⟨Nat.ne_of_lt (Nat.lt_succ_self _), Nat.ne_of_gt lt⟩
    refine set_update_ints ((Walks.list (by simp [free]) _ l n1 items).toS) s.heap.objs.size n2 ns sz few (fun i v hv => ?_) (items.size - 0) 0 _ (by omega) (Nat.zero_le _) ⟨⟨_, Heap.get?_push_size _ rfl, rfl, rfl⟩, isL.push _⟩ ?_ ?_
    · have li : i < ns.length := by rw [← sz]; exact (Array.getElem?_eq_some_iff.mp hv).1
      obtain ⟨t, e⟩ := IntsAre.int_at hit i v (by rw [Array.getElem?_toList]; exact hv)
      refine ⟨ns[i], t, List.getElem?_eq_getElem li, ?_⟩
      rw [e, List.getD_eq_getElem?_getD, List.getElem?_eq_getElem li]
      rfl
    · exact ⟨0, Nat.le_refl 0, setR_new_at (Heap.get?_push_of_some _ at0)⟩
    · rintro ⟨g, gs, dr, tk, os⟩ c mv hc R
      have e1 : gs = s.gens := mv.gens
      have e2 : dr = s.drawn := mv.drawn
      have e3 : os = s.os := mv.os
      subst e1 e2 e3
      refine wpAny_pure (wpAny_pure ⟨rfl, g, tk, c, rfl, R, by omega, fun b o e => ?_⟩)
      have lb : b < s.heap.objs.size := Heap.lt_size e
      refine mv.heap b o ?_ (Heap.get?_push_of_some _ (Heap.get?_push_of_some _ e))
      simp only [List.mem_cons, List.not_mem_nil, or_false, not_or, pz]
      exact ⟨Nat.ne_of_lt lb, Nat.ne_of_lt (Nat.lt_succ_of_lt lb)⟩
  · rintro (e | f) t r
    · exact r
    cases f <;> first | exact r.elim | skip
    obtain ⟨e1, g, tk, c, e2, R, hc, kp⟩ := r
    subst e1 e2
    repeat any_goals first | assumption | wp_step
    exact go _ _ _ R hc kp
end
theorem uniq_lt {ns ms : List Int} (h1 : ns.Pairwise (· < ·)) (h2 : ms.Pairwise (· < ·)) (h : ∀ k, k ∈ ns ↔ k ∈ ms) : ns = ms := by
  have n1 : ns.Nodup := h1.imp fun {a b} z => by omega
  have n2 : ms.Nodup := h2.imp fun {a b} z => by omega
  exact int_uniq ((List.perm_ext_iff_of_nodup n1 n2).mpr h) (h1.imp fun {a b} z => by omega) (h2.imp fun {a b} z => by omega)
/-- the ints, ascending, once each -/
def insI (k : Int) : List Int → List Int
  | [] => [k]
  | a :: r => if k < a then k :: a :: r else if k = a then a :: r else a :: insI k r
theorem mem_insI {k x : Int} : ∀ {l : List Int}, x ∈ insI k l ↔ x = k ∨ x ∈ l
  | [] => by simp [insI]
  | a :: r => by
    unfold insI
    split
    · simp
    · split
      · rename_i h
        subst h
        simp
      · rw [List.mem_cons, mem_insI, List.mem_cons]
        constructor
        · rintro (h | h | h)
          · exact .inr (.inl h)
          · exact .inl h
          · exact .inr (.inr h)
        · rintro (h | h | h)
          · exact .inr (.inl h)
          · exact .inl h
          · exact .inr (.inr h)
theorem insI_asc {k : Int} : ∀ {l : List Int}, l.Pairwise (· < ·) → (insI k l).Pairwise (· < ·)
  | [], _ => by simp [insI]
  | a :: r, h => by
    obtain ⟨h1, h2⟩ := List.pairwise_cons.mp h
    unfold insI
    split
    · rename_i c
      refine List.pairwise_cons.mpr ⟨fun x hx => ?_, h⟩
      rcases List.mem_cons.mp hx with e | hx
      · omega
      · have := h1 x hx
        omega
    · split
      · exact h
      · refine List.pairwise_cons.mpr ⟨fun x hx => ?_, insI_asc h2⟩
        rcases mem_insI.mp hx with e | hx
        · omega
        · exact h1 x hx
def setI (ns : List Int) : List Int := ns.foldr insI []
theorem mem_setI {k : Int} : ∀ {ns : List Int}, k ∈ setI ns ↔ k ∈ ns
  | [] => Iff.rfl
  | n :: ns => by
    show k ∈ insI n (setI ns) ↔ _
    rw [mem_insI, mem_setI, List.mem_cons]
theorem setI_asc : ∀ {ns : List Int}, (setI ns).Pairwise (· < ·)
  | [] => .nil
  | n :: ns => insI_asc (setI_asc (ns := ns))
theorem setI_nodup {ns : List Int} : (setI ns).Nodup := (setI_asc (ns := ns)).imp fun {a b} z => by omega
/-- set(xs), ints -/
def rSetIn (K : PySem.W.Frag) (w : World) : List V → Hp → VK → Prop := fun vs H Q => ∃ (a : Addr) (ns : List Int), vs = [V.ref a] ∧ SqL K H a (ns.map V.int) ∧ ns.length ≤ 4000 ∧
  ∀ p, H p = none → Q (.ref p) (upd H p (SetO w p (fun j => decide (j ∈ ns)) (setI ns).length))
theorem setR_card {w : World} {h : Heap} {a : Addr} {ns : List Int} {c : Nat} (R : SetR w h a (fun j => decide (j ∈ ns)) c) : c = (setI ns).length := by
  obtain ⟨o, es, ep, t, _, _, _, _, nd, hm, _, _, hn, _⟩ := R
  have pm : (es.toList.map keyOf).Perm (setI ns) := (List.perm_ext_iff_of_nodup nd setI_nodup).mpr fun k => by
    rw [← hm k, mem_setI]
    exact decide_eq_true_iff
  rw [← pm.length_eq, List.length_map, Array.length_toList]
  exact hn.symm
theorem cr_setL {X : Cx} (hc : X.calm = true) : CallR X (.type "set") (rSetIn X.K X.w) := by
  intro pins s σ H vs us Q I r h
  obtain ⟨a, ns, rfl, hs, hn, q⟩ := h
  obtain ⟨its, rv, hl, hz⟩ := I.list hs
  obtain ⟨u, rfl, ru⟩ := vals1 r
  obtain rfl : u = Value.ref a := ru
  refine pp_setL (ns := ns) (I.ok.hd hc) hl.isList (by simpa using rv.ints) (by unfold scanBound; omega) fun g tk c R hcn kp => ?_
  have ec := setR_card R
  subst ec
  exact ⟨.ref _, upd H s.heap.objs.size (SetO X.w s.heap.objs.size (fun j => decide (j ∈ ns)) (setI ns).length), I.laid (t' := tk) kp (Nat.le_refl _) (setO_new R), rfl, q _ (I.hok.fresh (Nat.le_refl _))⟩
section
variable {X : Cx} {e : Ent} {M : List Md} {a : Expr} {tA : DA} {pos p pos2 p2 : Pos}
/-- sorted(set(xs)), ints -/
def kSetI : List D → (List D → Prop) → Prop := fun ds Q => ∃ ks : List Int, ds = [.list (ks.map PyData.int)] ∧ ks.length ≤ 4000 ∧ (setI ks).length < 64 ∧ Q ((setI ks).map PyData.int)
theorem fe_sortSet (hc : X.calm = true) (hg : Gl X "sorted") (hm : X.mg "sorted" = none) (hg2 : Gl X "set") (hm2 : X.mg "set" = none) (ha : AR X e M [a] tA)
    (he2 : starEach [a] X.env = (false, eval a X.env) :: starEach [] X.env := by rfl)
    (he : starEach [.Call (.Name "set" p2) [a] [] pos2] X.env = (false, eval (.Call (.Name "set" p2) [a] [] pos2) X.env) :: starEach [] X.env := by rfl) :
    FE X e M (.Call (.Name "sorted" p) [.Call (.Name "set" p2) [a] [] pos2] [] pos) (fun ρ Q => tA ρ fun ds => kSetI ds Q) :=
  ⟨pe_imp (pe_callB (cr_sortedSet hc) hg hm (by decide +kernel) (pa_cons (pe_callTy (cr_setL hc) hg2 hm2 (by decide +kernel) ha.pa (he := he2) (hpl := by rfl)) pa_nil he) (he := he) (hpl := by rfl)) fun σ H Q ⟨g, F, ρ, sr, q⟩ => by
      refine ⟨g, F, ρ, sr, ha.mono ρ _ _ (fun ds hd F1 H1 vs s rv => ?_) q⟩
      have bs := s.bs sr.bs
      obtain ⟨ks, rfl, h1, h2, hd⟩ := hd
      obtain ⟨v, rfl, r⟩ := rv.one
      obtain ⟨p, vs, rfl, hp, m, r⟩ := r.lst bs
      rw [RpL.ints_inv r] at hp
      refine ⟨p, ks, rfl, .inl (.inl hp), h1, fun l hn => ?_⟩
      have b2 := bs.hide hn (SetO X.w l (fun j => decide (j ∈ ks)) (setI ks).length)
      refine ⟨l, _, _, rfl, upd_same, h2, fun ns q a1 a2 a3 hq => ?_⟩
      have e2 : ns = setI ks := uniq_lt a1 setI_asc fun k => by rw [a2 k, mem_setI]; exact decide_eq_true_iff
      subst e2
      have bs2 := b2.bs bs
      have st2 := (s.trans b2)
      exact hd F1 _ q _ (st2.trans (bs2.hide hq _)) (st2.old hq) (st2.sub.none hq) upd_same (RpL.ints _), fun ρ Q Q' f q => ha.mono ρ _ _ (fun ds ⟨ks, h1, h2, h3, q⟩ => ⟨ks, h1, h2, h3, f _ q⟩) q⟩
end
end PP

set_option Elab.async false
set_option linter.all false
set_option maxRecDepth 100000
set_option maxHeartbeats 1000000
namespace PP
open PySem PySem.Spec PyProof.Rows L2
section
variable {X : Cx} {e : Ent} {M : List Md} {a b : Expr} {ta tb : DT} {pos p1 p2 p3 spos : Pos}
def tIdx (ta tb : DT) : DT := fun ρ Q => ta ρ fun x => match x with
  | .list ds => tb ρ fun y => (match y with
    | .int k => ∃ (ns : List Int) (j : Nat), ds = ns.map PyData.int ∧ ns[j]? = some k ∧ (∀ m, m < j → ns[m]? ≠ some k) ∧ Q (.int (j : Nat))
    | _ => False)
  | _ => False
/-- xs.index(k), ints -/
theorem de_index (ha : RE X e M a ta) (hb : RE X e M b tb) (h1 : starEach [b] X.env = (false, eval b X.env) :: starEach [] X.env := by rfl)
    (hE : ∀ {to : TE} {t : TA}, PE X a to → PA X [b] t → PE X (.Call (.Attribute a "index" p1) [b] [] pos) (tBM X.K "list" (rIndex X.K) to t) := by
      intro to t h h'; exact pe_bm PySem.F.plainAttrs_list PySem.F.slot_list_index PySem.F.type_list_index mt_index h h') :
    DE X e M (.Call (.Attribute a "index" p1) [b] [] pos) (tIdx ta tb) :=
  ⟨pe_imp (hE ha.pe (pa_cons hb.pe pa_nil h1)) fun σ H Q ⟨g, F, ρ, s, q⟩ => ⟨g, F, ρ, s, ha.mono ρ _ _ (fun dx hx F1 H1 x s1 rx => by
    split at hx
    · rename_i ds
      obtain ⟨p, vs, rfl, hp, m, rl⟩ := rx.lst (s1.bs s.bs)
      refine ⟨.inl ⟨rfl, vs, .inl (.inl hp)⟩, g, F1, ρ, s.step s1, hb.mono ρ _ _ (fun dy hy F2 H2 y s2 ry => ?_) hx⟩
      split at hy
      · rename_i k
        obtain ⟨ns, j, e1, h1, h2, hq⟩ := hy
        subst e1
        have e3 := RpL.ints_inv rl
        subst e3
        obtain rfl : y = .int k := ry.int
        refine ⟨p, ns.map V.int, .int k, j, .int k, rfl, rfl, .inl (.inl (s2.keep _ _ hp m)), rfl, by simp [flatV], by rw [List.getElem?_map, h1]; rfl, by simp [eqV], fun i z hi hz => ?_, hq F2 H2 _ (s1.trans s2) rfl⟩
        rw [List.getElem?_map] at hz
        cases q : ns[i]? with
        | none => rw [q] at hz; cases hz
        | some w =>
          rw [q] at hz
          cases hz
          have := h2 i hi
          simp [eqV]
          intro z
          exact this (by rw [q, z])
      · exact hy.elim
    · exact hx.elim) q⟩, fun ρ Q Q' f q => ha.mono ρ _ _ (fun dx hx => by
    split at hx
    · refine hb.mono ρ _ _ (fun dy hy => ?_) hx
      split at hy
      · obtain ⟨ns, j, e1, h1, h2, hq⟩ := hy
        exact ⟨ns, j, e1, h1, h2, f _ hq⟩
      · exact hy.elim
    · exact hx.elim) q⟩

/-! ### short words for statements -/
theorem dr (i : Nat) {y : Str} (hN : X.N[i]? = some y := by rfl) (hv : Vis X.env.scope y := by first | exact Or.inl rfl | exact Or.inr (Or.inl rfl) | exact Or.inr (Or.inr rfl)) (hm : md M i = .own := by rfl) (hd : (y == ("__debug__" : Str)) = false := by decide) (hcd : (y == ("__classdict__" : Str)) = false := by decide) :
    DS X e M (.Return (some (.Name y p2)) pos) (fun d ρ => tV i ρ d.rt) := ds_retO hN hv hm hd hcd
theorem dapp (i : Nat) {y : Str} (ha : DE X e M a ta) (hN : X.N[i]? = some y := by rfl) (hv : Vis X.env.scope y := by first | exact Or.inl rfl | exact Or.inr (Or.inl rfl) | exact Or.inr (Or.inr rfl)) (hm : md M i = .own := by rfl) (hd : (y == ("__debug__" : Str)) = false := by decide) (hcd : (y == ("__classdict__" : Str)) = false := by decide)
    (h1 : starEach [a] X.env = (false, eval a X.env) :: starEach [] X.env := by rfl)
    (hE : ∀ {to : TE} {t : TA}, PE X (.Name y p1) to → PA X [a] t → PE X (.Call (.Attribute (.Name y p1) "append" p2) [a] [] pos) (tBM X.K "list" rAppend to t) := by
      intro to t h h'; exact pe_bm PySem.F.plainAttrs_list PySem.F.slot_list_append PySem.F.type_list_append mt_append h h')
    (hs : swapsWith (.Call (.Attribute (.Name y p1) "append" p2) [a] [] pos) none spos.line X.env = pure false := by rfl) : DS X e M (.Expr (.Call (.Attribute (.Name y p1) "append" p2) [a] [] pos) spos) (tApp i ta) := ds_append hN hv ha hm hd hcd h1 hE hs
theorem dpop (i j : Nat) {y z : Str} (hNd : X.N.Nodup) (hN : X.N[i]? = some y := by rfl) (hv : Vis X.env.scope y := by first | exact Or.inl rfl | exact Or.inr (Or.inl rfl) | exact Or.inr (Or.inr rfl)) (hj : X.N[j]? = some z := by rfl) (hx : Loc X.env.scope z := by first | exact .inl rfl | exact .inr rfl) (hm : md M i = .own := by rfl) (hm2 : md M j = .val := by rfl)
    (hd : (y == ("__debug__" : Str)) = false := by decide) (hcd : (y == ("__classdict__" : Str)) = false := by decide)
    (hE : ∀ {to : TE}, PE X (.Name y p1) to → PE X (.Call (.Attribute (.Name y p1) "pop" p2) [] [] pos) (tBM0 X.K "list" rPop to) := by
      intro to h; exact pe_bm0 PySem.F.plainAttrs_list PySem.F.slot_list_pop PySem.F.type_list_pop mt_pop h)
    (hs : swapsWith (.Call (.Attribute (.Name y p1) "pop" p2) [] [] pos) (some (.Name z p3)) spos.line X.env = pure false := by rfl)
    (hf : X.fn z = true ∨ X.env.scope.names.lookup z = some .local := by first | exact .inl rfl | exact .inr rfl | assumption) : DS X e M (.Assign [.Name z p3] (.Call (.Attribute (.Name y p1) "pop" p2) [] [] pos) spos) (tPop i j) := ds_pop hNd hN hv hj hx hm hm2 hd hcd hE hs hf
theorem dput (i : Nat) {y : Str} (ha : DE X e M a ta) (hb : RE X e M b tb) (hN : X.N[i]? = some y := by rfl) (hv : Vis X.env.scope y := by first | exact Or.inl rfl | exact Or.inr (Or.inl rfl) | exact Or.inr (Or.inr rfl)) (hm : md M i = .own := by rfl) (hd : (y == ("__debug__" : Str)) = false := by decide) (hcd : (y == ("__classdict__" : Str)) = false := by decide)
    (hE : ∀ {to ti te : TE}, PE X (.Name y p1) to → PE X b ti → PE X a te → PS X (.Assign [.Subscript (.Name y p1) b p2] a spos) (tAsg te (gSub to ti rSetL)) := by
      intro to ti te h1 h2 h3; exact ps_asg h3 (pg_sub h1 h2 set_list)) : DS X e M (.Assign [.Subscript (.Name y p1) b p2] a spos) (tPut i ta tb) := ds_put hN hv ha hb hm hd hcd hE
end
end PP

set_option Elab.async false
set_option linter.all false
set_option maxRecDepth 100000
set_option maxHeartbeats 1000000
namespace PP
open PySem PySem.Spec PyProof.Rows L2
/-! ### dicts as data -/
def kOf : D → Option Key
  | .int i => some (.inl i) | .str x => some (.inr x) | _ => none
theorem kOf_keyD (c : Key) : kOf (keyD c) = some c := by cases c <;> rfl
theorem kOf_eq {d : D} {c : Key} (h : kOf d = some c) : d = keyD c := by
  cases d <;> first
    | (cases h; rfl)
    | cases h
def dGet : List (D × D) → Key → Option D
  | [], _ => none
  | (k, d) :: r, c => if kOf k = some c then some d else dGet r c
def dPut (ks : List (D × D)) (c : Key) (d : D) : List (D × D) :=
  if (dGet ks c).isSome = true then ks.map (fun p => if kOf p.1 = some c then (p.1, d) else p) else ks ++ [(keyD c, d)]
section
variable {K : PySem.W.Frag} {F : Hp}
theorem RpK.len : ∀ {ks : List (D × D)} {ps : List (Key × V)}, RpK K F ks ps → ps.length = ks.length
  | [], _, h => by have h : _ = [] := h; subst h; rfl
  | (k, d) :: ks, _, ⟨c, x, r, e, _, _, t⟩ => by subst e; simp [t.len]
theorem RpK.get : ∀ {ks : List (D × D)} {ps : List (Key × V)} (c : Key), RpK K F ks ps → (valV ps c = none ∧ dGet ks c = none) ∨ ∃ v d, valV ps c = some v ∧ dGet ks c = some d ∧ Rp K F d v
  | [], _, c, h => by have h : _ = [] := h; subst h; exact .inl ⟨rfl, rfl⟩
  | (k, d) :: ks, _, c, ⟨b, x, r, e, hk, h, t⟩ => by
    subst e hk
    by_cases q : b = c
    · subst q
      exact .inr ⟨x, d, valV_pos rfl, by simp [dGet, kOf_keyD], h⟩
    · rw [valV_neg (p := (b, x)) q]
      have e2 : dGet ((keyD b, d) :: ks) c = dGet ks c := by
        simp only [dGet]
        rw [if_neg (by rw [kOf_keyD]; intro z; exact q (Option.some.inj z))]
      rw [e2]
      exact t.get c
theorem RpK.repl {d0 : D} {v0 : V} (c : Key) (h0 : Rp K F d0 v0) : ∀ {ks : List (D × D)} {ps : List (Key × V)}, RpK K F ks ps → RpK K F (ks.map fun p => if kOf p.1 = some c then (p.1, d0) else p) (ps.map fun p => if p.1 = c then (p.1, v0) else p)
  | [], _, h => by have h : _ = [] := h; subst h; rfl
  | (k, d) :: ks, _, ⟨b, x, r, e, hk, h, t⟩ => by
    subst e hk
    have ih := t.repl c h0
    by_cases q : b = c
    · subst q
      simp only [List.map_cons, kOf_keyD, if_true]
      exact ⟨b, v0, _, rfl, rfl, h0, ih⟩
    · have q2 : ¬ kOf (keyD b) = some c := by rw [kOf_keyD]; intro z; exact q (Option.some.inj z)
      simp only [List.map_cons, if_neg q, if_neg q2]
      exact ⟨b, x, _, rfl, rfl, h, ih⟩
theorem RpK.snoc {d0 : D} {v0 : V} (c : Key) (h0 : Rp K F d0 v0) : ∀ {ks : List (D × D)} {ps : List (Key × V)}, RpK K F ks ps → RpK K F (ks ++ [(keyD c, d0)]) (ps ++ [(c, v0)])
  | [], _, h => by have h : _ = [] := h; subst h; exact ⟨c, v0, [], rfl, rfl, h0, rfl⟩
  | (k, d) :: ks, _, ⟨b, x, r, e, hk, h, t⟩ => by
    subst e
    exact ⟨b, x, _, rfl, hk, h, t.snoc c h0⟩
theorem RpK.put {ks : List (D × D)} {ps : List (Key × V)} {d0 : D} {v0 : V} (c : Key) (h : RpK K F ks ps) (h0 : Rp K F d0 v0) : RpK K F (dPut ks c d0) (putK ps c v0) := by
  unfold dPut putK
  rw [valV_any]
  rcases h.get c with ⟨e1, e2⟩ | ⟨v, d, e1, e2, _⟩
  · rw [e1, e2]
    exact h.snoc c h0
  · rw [e1, e2]
    exact h.repl c h0
theorem keyD_kV {c : Key} {v : V} (h : Rp K F (keyD c) v) : v = kV c := by
  cases c with
  | inl i => exact h
  | inr x => exact h
end
theorem RdR.key {K : PySem.W.Frag} {g : Rg} {F H : Hp} {d : D} {v : V} {c : Key} (r : RdR K g F H d v) (h : kOf d = some c) : v = kV c := by
  rw [kOf_eq h] at r
  refine keyD_kV (K := K) (F := F) (r.rp ?_)
  cases c <;> rfl
section
variable {X : Cx} {e : Ent} {M : List Md} {a b : Expr} {ta tb : DT} {pos p1 p2 spos : Pos}
/-- d[k] -/
def tDg (ta tb : DT) : DT := fun ρ Q => ta ρ fun x => tb ρ fun y => match x with
  | .dict ks => (match kOf y with | some c => (match dGet ks c with | some d => Q d | none => False) | none => False)
  | _ => False
theorem de_dget (hu : X.A.units + 64 < cLine) (ha : RE X e M a ta) (hb : RE X e M b tb) (hs : NoSl b := by intro _ _; rfl) : DE X e M (.Subscript a b pos) (tDg ta tb) :=
  ⟨pe_imp (pe_dget (by omega) ha.pe hb.pe hs) fun σ H Q ⟨g, F, ρ, s, q⟩ => ⟨g, F, ρ, s, ha.mono ρ _ _ (fun dx hx F1 H1 x s1 rx => ⟨g, F1, ρ, s.step s1, hb.mono ρ _ _ (fun dy hy F2 H2 y s2 ry => by
    split at hy
    · rename_i ks
      split at hy
      · rename_i c hc
        obtain ⟨p, ps, rfl, hp, m, rl⟩ := rx.dct (s1.bs s.bs)
        rcases rl.get c with ⟨_, e2⟩ | ⟨v, d, e1, e2, r⟩
        · rw [e2] at hy; exact hy.elim
        · rw [e2] at hy
          exact ⟨p, v, rfl, .inl ⟨ps, c, .inl (s2.keep _ _ hp m), ry.key hc, e1.symm⟩, hy F2 H2 v (s1.trans s2) (r.mono s2.mono)⟩
      · exact hy.elim
    · exact hy.elim) hx⟩) q⟩, fun ρ Q Q' f q => ha.mono ρ _ _ (fun x q => hb.mono ρ _ _ (fun y q => by
    split at q
    · split at q
      · split at q
        · exact f _ q
        · exact q.elim
      · exact q.elim
    · exact q.elim) q) q⟩
/-- k in d, k not in d -/
def tDi (n : Bool) (tb ta : DT) : DT := fun ρ Q => tb ρ fun y => ta ρ fun x => match x with
  | .dict ks => (match kOf y with | some c => Q (.bool (if n then !(dGet ks c).isSome else (dGet ks c).isSome)) | none => False)
  | _ => False
theorem tDi_mono {n : Bool} (hb : Mono tb) (ha : Mono ta) : Mono (tDi n tb ta) := fun ρ Q Q' f q => hb ρ _ _ (fun y q => ha ρ _ _ (fun x q => by
    split at q
    · split at q
      · exact f _ q
      · exact q.elim
    · exact q.elim) q) q
theorem RpK.some {K : PySem.W.Frag} {F : Hp} {ks : List (D × D)} {ps : List (Key × V)} (h : RpK K F ks ps) (c : Key) : (valV ps c).isSome = (dGet ks c).isSome := by
  rcases h.get c with ⟨e1, e2⟩ | ⟨v, d, e1, e2, _⟩ <;> rw [e1, e2] <;> rfl
theorem di_core {n : Bool} (hb : RE X e M b tb) (ha : RE X e M a ta) : ∀ σ H Q, rdE X.K e M (tDi n tb ta) σ H Q → rdR X.K e M tb σ H fun y H1 => rdR X.K e M ta σ H1 fun x H2 => ∃ p o, x = .ref p ∧ DGet H2 p y o ∧ Q (.bl (if n then !o.isSome else o.isSome)) H2 := fun σ H Q ⟨g, F, ρ, s, q⟩ =>
  ⟨g, F, ρ, s, hb.mono ρ _ _ (fun dy hy F1 H1 y s1 ry => ⟨g, F1, ρ, s.step s1, ha.mono ρ _ _ (fun dx hx F2 H2 x s2 rx => by
    split at hx
    · rename_i ks
      split at hx
      · rename_i c hc
        obtain ⟨p, ps, rfl, hp, m, rl⟩ := rx.dct (s2.bs (s1.bs s.bs))
        refine ⟨p, valV ps c, rfl, .inl ⟨ps, c, .inl hp, ry.key hc, rfl⟩, ?_⟩
        rw [rl.some c]
        exact hx F2 H2 _ (s1.trans s2) rfl
      · exact hx.elim
    · exact hx.elim) hy⟩) q⟩
theorem de_din (hu : X.A.units + 64 < cLine) (hb : RE X e M b tb) (ha : RE X e M a ta) (hm : behindInMarks .In a = false := by rfl) : DE X e M (.Compare b [.In] [a] pos) (tDi false tb ta) :=
  ⟨pe_imp (pe_cmp (pc_din (by omega) hb.pe ha.pe) hm) fun σ H Q h => di_core (n := false) hb ha σ H Q h, tDi_mono hb.mono ha.mono⟩
theorem de_dnotIn (hu : X.A.units + 64 < cLine) (hb : RE X e M b tb) (ha : RE X e M a ta) (hm : behindInMarks .NotIn a = false := by rfl) : DE X e M (.Compare b [.NotIn] [a] pos) (tDi true tb ta) :=
  ⟨pe_imp (pe_cmp (pc_dnotin (by omega) hb.pe ha.pe) hm) fun σ H Q h => di_core (n := true) hb ha σ H Q h, tDi_mono hb.mono ha.mono⟩
theorem tst_core {t : DT} (m : Mono t) : ∀ σ H Q, rdB X.K e M (tTst t) σ H Q → rdE X.K e M t σ H fun v H1 => ∃ k, v = V.bl k ∧ Q k H1 := fun σ H Q ⟨g, F, ρ, s, q⟩ => ⟨g, F, ρ, s, m ρ _ _ (fun d hd F' H' v st r => by
    split at hd
    · rename_i k
      have r : v = .bl k := r
      exact ⟨k, r, hd F' H' st⟩
    · exact hd.elim) q⟩
theorem dc_din (hu : X.A.units + 64 < cLine) (hb : RE X e M b tb) (ha : RE X e M a ta) (hm : behindInMarks .In a = false := by rfl) : DC X e M (.Compare b [.In] [a] pos) (tTst (tDi false tb ta)) :=
  ⟨pt_imp (pt_cmp (pc_din (by omega) hb.pe ha.pe) hm) fun σ H Q h => di_core (n := false) hb ha σ H _ (tst_core (tDi_mono hb.mono ha.mono) σ H Q h), tTst_mono (tDi_mono hb.mono ha.mono)⟩
theorem dc_dnotIn (hu : X.A.units + 64 < cLine) (hb : RE X e M b tb) (ha : RE X e M a ta) (hm : behindInMarks .NotIn a = false := by rfl) : DC X e M (.Compare b [.NotIn] [a] pos) (tTst (tDi true tb ta)) :=
  ⟨pt_imp (pt_cmp (pc_dnotin (by omega) hb.pe ha.pe) hm) fun σ H Q h => di_core (n := true) hb ha σ H _ (tst_core (tDi_mono hb.mono ha.mono) σ H Q h), tTst_mono (tDi_mono hb.mono ha.mono)⟩
/-- x = {} -/
theorem ds_dnew (i : Nat) {y : Str} (hN : X.N.Nodup) (hi : X.N[i]? = some y := by rfl) (hx : Loc X.env.scope y := by first | exact .inl rfl | exact .inr rfl) (hm : md M i = .od := by rfl) (hs : swapsWith (.Dict [] [] p1) (some (.Name y p2)) pos.line X.env = pure false := by rfl)
    (hf : X.fn y = true ∨ X.env.scope.names.lookup y = some .local := by first | exact .inl rfl | exact .inr rfl | assumption) : DS X e M (.Assign [.Name y p2] (.Dict [] [] p1) pos) (fun d ρ => d.nx (sv ρ i (some (.dict [])))) :=
  ⟨ps_imp (L2.ps_set hN hi hx pe_dnewK hs hf) fun E σ H ⟨g, F, ρ, d, s, q, h⟩ => fun p hp =>
    h.nx g F _ _ _ (s.setm (s.bs.hide hp _) hp (by rw [hm]; exact ⟨p, [], [], rfl, rfl, upd_same, rfl, s.bs.sub.none hp, s.old hp, s.nmem hp⟩)) q, fun d d' ρ i q => i.nx _ q⟩
theorem SR.odAt {K : PySem.W.Frag} {g : Rg} {F H : Hp} {σ : L2.St} {ρ : En} (s : SR K e M g F H σ ρ) {i : Nat} {d : D} (h : gt ρ i = some d) (hm : md M i = .od) :
    ∃ p ps ks, d = .dict ks ∧ σ[i]? = some (some (.ref p)) ∧ H p = some (.dK ps) ∧ RpK K F ks ps ∧ F p = none ∧ e.H p = none ∧ ¬ g.mem p := by
  obtain ⟨v, h1, h2⟩ := s.slot i d h
  rw [hm] at h2
  obtain ⟨p, ps, ks, e1, e2, h3, h4, h5, h6, h7⟩ := h2
  subst e1
  exact ⟨p, ps, ks, e2, h1, h3, h4, h5, h6, h7⟩
/-- x[k] = e -/
def dDput (i : Nat) (te tk : DT) : DTS := fun d ρ => te ρ fun y => match gt ρ i with
  | some (.dict ks) => tk ρ fun k => (match kOf k with | some c => ks.length < sizeLine ∧ d.nx (sv ρ i (some (.dict (dPut ks c y)))) | none => False)
  | _ => False
theorem ds_dput (i : Nat) {y : Str} (hu : X.A.units + 64 < cLine) (ha : DE X e M a ta) (hb : RE X e M b tb) (hN : X.N[i]? = some y := by rfl) (hv : Vis X.env.scope y := by first | exact Or.inl rfl | exact Or.inr (Or.inl rfl) | exact Or.inr (Or.inr rfl)) (hm : md M i = .od := by rfl)
    (hd : (y == ("__debug__" : Str)) = false := by decide) (hcd : (y == ("__classdict__" : Str)) = false := by decide) (hs : swapsWith a (some (.Subscript (.Name y p1) b p2)) spos.line X.env = pure false := by rfl) :
    DS X e M (.Assign [.Subscript (.Name y p1) b p2] a spos) (dDput i ta tb) :=
  ⟨ps_imp (ps_dput (by omega) (pe_var hN hv hd hcd) hb.pe ha.pe hs) fun E σ H ⟨g, F, ρ, d, s, q, h⟩ => ⟨g, F, ρ, s, ha.mono ρ _ _ (fun x hx F1 H1 v t1 r1 => by
    split at hx
    · rename_i ks hk
      have s1 := s.step t1
      obtain ⟨p, ps, ks', e2, h1, h3, h4, h5, h6, h7⟩ := s1.odAt hk hm
      cases e2
      refine ⟨.ref p, h1, g, F1, ρ, s1, hb.mono ρ _ _ (fun k hk2 F2 H2 w t2 r2 => ?_) hx⟩
      split at hk2
      · rename_i c hc
        have kk := t2.keep _ _ h3 h7
        refine ⟨p, _, rfl, .inl ⟨ps, c, kk, r2.key hc, by rw [h4.len]; exact hk2.1, rfl⟩, ?_⟩
        have s2 := s1.step t2
        exact h.nx g F2 _ σ _ (s2.poke (by rw [hm]; rfl) hk h1 (t2.no h3 h5) h6 h7 (by rw [hm]; exact ⟨p, _, _, rfl, rfl, upd_same, (RpK.mono t2.mono h4).put c (r1.mono t2.mono), t2.no h3 h5, h6, h7⟩)) hk2.2
      · exact hk2.elim
    · exact hx.elim) q⟩, fun d d' ρ j q => ha.mono ρ _ _ (fun x q => by
    split at q
    · refine hb.mono ρ _ _ (fun k q => ?_) q
      split at q
      · exact ⟨q.1, j.nx _ q.2⟩
      · exact q.elim
    · exact q.elim) q⟩
end
end PP

set_option Elab.async false
set_option linter.all false
set_option maxRecDepth 100000
namespace PP
open PySem PySem.Spec PyProof.Rows L2
/-- the builtins' names stand free; sys is there -/
structure Nm (K : PySem.W.Frag) (mg : Str → Option Value) : Prop where
  free : ∀ y : Str, y ∈ (["len", "int", "abs", "tuple", "list", "max", "min", "range", "repr", "enumerate", "sorted", "set", "zip", "dict", "all", "any", "sum", "isinstance", "bool", "str"] : List Str) → mg y = none
namespace Nm
variable {K : PySem.W.Frag} {mg : Str → Option Value} (m : Nm K mg)
include m
theorem nlen : mg "len" = none := m.free _ (by decide)
theorem nint : mg "int" = none := m.free _ (by decide)
theorem nabs : mg "abs" = none := m.free _ (by decide)
theorem ntuple : mg "tuple" = none := m.free _ (by decide)
theorem nlist : mg "list" = none := m.free _ (by decide)
theorem nmax : mg "max" = none := m.free _ (by decide)
theorem nrange : mg "range" = none := m.free _ (by decide)
theorem nrepr : mg "repr" = none := m.free _ (by decide)
theorem nenumerate : mg "enumerate" = none := m.free _ (by decide)
theorem nsorted : mg "sorted" = none := m.free _ (by decide)
theorem nset : mg "set" = none := m.free _ (by decide)
theorem nall : mg "all" = none := m.free _ (by decide)
theorem nany : mg "any" = none := m.free _ (by decide)
theorem nisinstance : mg "isinstance" = none := m.free _ (by decide)
theorem nbool : mg "bool" = none := m.free _ (by decide)
theorem nstr : mg "str" = none := m.free _ (by decide)
theorem ndict : mg "dict" = none := m.free _ (by decide)
theorem nzip : mg "zip" = none := m.free _ (by decide)
end Nm
theorem _root_.L2.Room.un80 {k : Nat} {A : Around} (r : Room k A) : A.units + 80 < cLine := by have := r.un; omega
end PP

set_option Elab.async false
set_option linter.all false
set_option maxRecDepth 100000
set_option maxHeartbeats 2000000
namespace PP
open PySem PySem.Spec PyProof.Rows L2
theorem nat_ix {n : Int} {k : Nat} (h0 : 0 ≤ n) (h1 : n < k) : ∃ j : Nat, n = (j : Int) ∧ j < k := ⟨n.toNat, by omega, by omega⟩
theorem atI_at {xs : List D} {j : Nat} (h : j < xs.length) : atI xs (j : Int) = some xs[j] := by
  have e : xs[j]? = some xs[j] := List.getElem?_eq_getElem h
  unfold atI
  first
    | simp [ixN, h]
    | (split <;> simp_all)
/-- pick, of any items -/
def kPick : KF := fun ds Q => match ds with
  | [_, .list xs] => (0 < xs.length ∧ xs.length < 2 ^ 62) ∧ ∀ d ∈ xs, Q d
  | [_, .tuple xs] => (0 < xs.length ∧ xs.length < 2 ^ 62) ∧ ∀ d ∈ xs, Q d
  | _ => False
theorem kPick_mono : MonoC kPick := fun ds Q Q' f q => by
  unfold kPick at q ⊢
  split at q
  · exact ⟨q.1, fun d h => f _ (q.2 d h)⟩
  · exact ⟨q.1, fun d h => f _ (q.2 d h)⟩
  · exact q.elim
end PP
namespace PP
open PySem PySem.Spec PyProof.Rows L2
/-! ### loops, comprehensions: by what is left -/
theorem forD_step {tg : DG} {tb : DTS} {d : DEnds} (I : List D → En → Prop) {xs : List D} {ρ : En} (h0 : I xs ρ)
    (hs : ∀ x xs ρ (k : En → Prop), I (x :: xs) ρ → (∀ ρ', I xs ρ' → k ρ') → tg x ρ fun ρ' => tb { nx := k, ct := k, bk := d.nx, rt := d.rt, rs := d.rs } ρ') (hd : ∀ ρ, I [] ρ → d.nx ρ) : forD tg tb d xs ρ := by
  induction xs generalizing ρ with
  | nil => exact hd _ h0
  | cons x xs ih => exact hs x xs ρ _ h0 fun ρ' h => ih h
theorem compD_step {tg : DG} {tt : DB} {te : DT} {Q : List D → Prop} {ρ : En} (I : List D → List D → Prop) {xs acc : List D} (h0 : I xs acc)
    (hs : ∀ x xs acc (k : List D → Prop), I (x :: xs) acc → (∀ a, I xs a → k a) → tg x ρ fun ρ' => tt ρ' fun b => if b = true then te ρ' fun y => k (acc ++ [y]) else k acc) (hd : ∀ a, I [] a → Q a) : compD tg tt te Q ρ xs acc := by
  induction xs generalizing acc with
  | nil => exact hd _ h0
  | cons x xs ih => exact hs x xs acc (fun a => compD tg tt te Q ρ xs a) h0 fun a h => ih h
/-- item by item -/
def Al (R : D → D → Prop) : List D → List D → Prop
  | [], ys => ys = []
  | x :: xs, ys => ∃ y r, ys = y :: r ∧ R x y ∧ Al R xs r
theorem Al.len {R : D → D → Prop} : ∀ {xs ys : List D}, Al R xs ys → ys.length = xs.length
  | [], _, h => by have h : _ = [] := h; rw [h]
  | x :: xs, _, ⟨y, r, e, _, t⟩ => by rw [e, List.length_cons, List.length_cons, t.len]
theorem compD_rel {tg : DG} {te : DT} {Q : List D → Prop} {ρ : En} (R : D → D → Prop) {xs : List D} : ∀ {acc : List D}, (∀ x ∈ xs, ∀ k : D → Prop, (∀ y, R x y → k y) → tg x ρ fun ρ' => te ρ' k) → (∀ ys, Al R xs ys → Q (acc ++ ys)) → compD tg tYesD te Q ρ xs acc := by
  induction xs with
  | nil => intro acc _ hq; have := hq [] rfl; rw [List.append_nil] at this; exact this
  | cons x xs ih =>
    intro acc hs hq
    show tg x ρ fun ρ' => tYesD ρ' fun b => if b = true then te ρ' fun y => compD tg tYesD te Q ρ xs (acc ++ [y]) else compD tg tYesD te Q ρ xs acc
    exact hs x List.mem_cons_self (fun y => compD tg tYesD te Q ρ xs (acc ++ [y])) fun y hy => ih (fun z hz => hs z (List.mem_cons_of_mem _ hz)) fun ys h => by
      rw [List.append_assoc]
      exact hq (y :: ys) ⟨y, ys, rfl, hy, h⟩
theorem compD_map {tg : DG} {te : DT} {Q : List D → Prop} {ρ : En} (f : D → D) {xs : List D} (hs : ∀ x ∈ xs, ∀ k : D → Prop, k (f x) → tg x ρ fun ρ' => te ρ' k) (hq : Q (xs.map f)) : compD tg tYesD te Q ρ xs [] := by
  refine compD_rel (fun x y => y = f x) (fun x hx k hk => hs x hx k (hk _ rfl)) fun ys h => ?_
  have e : ys = xs.map f := by
    clear hs hq
    induction xs generalizing ys with
    | nil => exact h
    | cons x xs ih =>
      obtain ⟨y, r, e, ey, t⟩ := h
      rw [e, ey, ih _ t]; rfl
  rw [e]; exact hq
/-- kept where p, then f -/
theorem compD_filt {tg : DG} {tt : DB} {te : DT} {Q : List D → Prop} {ρ : En} (p : D → Bool) (f : D → D) {xs : List D} : ∀ {acc : List D}, (∀ x ∈ xs, ∀ (k : D → Prop) (k' : Prop), (p x = true → k (f x)) → (p x = false → k') → tg x ρ fun ρ' => tt ρ' fun b => if b = true then te ρ' k else k') → Q (acc ++ (xs.filter p).map f) → compD tg tt te Q ρ xs acc := by
  induction xs with
  | nil => intro acc _ hq; simp at hq; exact hq
  | cons x xs ih =>
    intro acc hs hq
    show tg x ρ fun ρ' => tt ρ' fun b => if b = true then te ρ' fun y => compD tg tt te Q ρ xs (acc ++ [y]) else compD tg tt te Q ρ xs acc
    refine hs x List.mem_cons_self (fun y => compD tg tt te Q ρ xs (acc ++ [y])) _ (fun hp => ?_) (fun hp => ?_)
    · refine ih (fun z hz => hs z (List.mem_cons_of_mem _ hz)) ?_
      rw [List.filter_cons_of_pos hp] at hq
      rw [List.append_assoc]
      exact hq
    · refine ih (fun z hz => hs z (List.mem_cons_of_mem _ hz)) ?_
      rw [List.filter_cons_of_neg (by rw [hp]; decide)] at hq
      exact hq
theorem Al.mono {R R' : D → D → Prop} (f : ∀ x y, R x y → R' x y) : ∀ {xs ys : List D}, Al R xs ys → Al R' xs ys
  | [], _, h => h
  | x :: xs, _, ⟨y, r, e, h, t⟩ => ⟨y, r, e, f _ _ h, t.mono f⟩
end PP
namespace PP
open PySem PySem.Spec PyProof.Rows L2
theorem kIx_l {xs : List D} {j : Nat} {Q : D → Prop} (h : j < xs.length) (q : Q xs[j]) : kIx (.list xs) (.int (j : Int)) Q := by
  simp only [kIx, atI_at h]; exact q
theorem kIx_t {xs : List D} {j : Nat} {Q : D → Prop} (h : j < xs.length) (q : Q xs[j]) : kIx (.tuple xs) (.int (j : Int)) Q := by
  simp only [kIx, atI_at h]; exact q
theorem cut_from {xs : List D} {k : Nat} (h : k ≤ xs.length) : cutD xs (some (k : Int)) none = xs.drop k := by
  unfold cutD
  rw [HT.sIx_nat, HT.sIx_none, Nat.min_eq_left h]
  exact List.take_of_length_le (by rw [List.length_drop]; omega)
theorem cut_to {xs : List D} {k : Nat} (h : k ≤ xs.length) : cutD xs none (some (k : Int)) = xs.take k := by
  unfold cutD
  rw [HT.sIx_nat, HT.sIx_none, Nat.min_eq_left h]
  simp
end PP
namespace PP
open PySem PySem.Spec PyProof.Rows L2
theorem memD_ints (k : Int) (ns : List Int) : memD (.int k) (ns.map PyData.int) = ns.any (· == k) := by
  unfold memD
  induction ns with
  | nil => rfl
  | cons n ns ih => simp_all [inV, vOf, eqV]
theorem flat_ints (ns : List Int) : (ns.map PyData.int).all flatD = true := by
  simp [flatD]
end PP

set_option Elab.async false
set_option linter.all false
set_option maxRecDepth 100000
set_option maxHeartbeats 2000000
namespace PP
open PySem PySem.Spec PyProof.Rows L2
/-- can be shown: at most c signs, at most k deep -/
structure Sw (c k : Nat) (d : D) : Prop where
  ok : d.showable = true
  dp : d.depth ≤ k
  ln : d.shown.length ≤ c
  ch : PyData.strOk d.shown = true
  nd : d.hasDict = false
theorem Sw.rpr {c k : Nat} {d : D} (h : Sw c k d) (hk : k ≤ 64) (hc : c ≤ sizeLine) : RprOk d := ⟨h.ok, Nat.le_trans h.dp hk, Nat.le_trans h.ln hc, h.nd⟩
theorem Sw.mono {c k c' k' : Nat} {d : D} (h : Sw c k d) (hc : c ≤ c') (hk : k ≤ k') : Sw c' k' d := ⟨h.ok, Nat.le_trans h.dp hk, Nat.le_trans h.ln hc, h.ch, h.nd⟩
theorem piled_le {c : Nat} : ∀ {ts : List Str}, (∀ t ∈ ts, t.length ≤ c) → piled ts ≤ (c + 2) * ts.length
  | [], _ => by simp [piled]
  | t :: ts, h => by
    have h1 := h t List.mem_cons_self
    have h2 := piled_le fun u hu => h u (List.mem_cons_of_mem t hu)
    rw [piled_cons, List.length_cons, Nat.mul_add]
    omega
theorem tup_len {c : Nat} {ts : List Str} (h : ∀ t ∈ ts, t.length ≤ c) : (tupleText ts).length ≤ (c + 2) * ts.length + 3 := by
  unfold tupleText
  rw [Str.length_append, Str.length_append]
  have e1 : ("(" : Str).length = 1 := by decide
  have e2 : ((if ts.length == 1 then ",)" else ")" : String) : Str).length ≤ 2 := by
    split
    · decide
    · decide
  have e3 : (Str.join ", " ts).length ≤ (c + 2) * ts.length := by
    cases ts with
    | nil => simp [Str.join]; decide
    | cons t r =>
      have := join_length_add (t :: r) (by simp)
      have := piled_le h
      omega
  omega
theorem strOk_add (a b : Str) : PyData.strOk (a ++ b) = (PyData.strOk a && PyData.strOk b) := by
  unfold PyData.strOk
  rw [Str.cps_append, Array.all_append]
theorem strOk_join : ∀ {ts : List Str}, (∀ t ∈ ts, PyData.strOk t = true) → PyData.strOk (Str.join ", " ts) = true
  | [], _ => by decide +kernel
  | [t], h => h t List.mem_cons_self
  | t :: u :: ts, h => by
    show PyData.strOk (t ++ ", " ++ Str.join ", " (u :: ts)) = true
    rw [strOk_add, strOk_add, h t List.mem_cons_self, strOk_join fun v hv => h v (List.mem_cons_of_mem _ hv)]
    decide +kernel
theorem tup_ok {ts : List Str} (h : ∀ t ∈ ts, PyData.strOk t = true) : PyData.strOk (tupleText ts) = true := by
  unfold tupleText
  rw [strOk_add, strOk_add, strOk_join h]
  split <;> decide +kernel
theorem shownAll_map : ∀ ds : List D, PyData.shownAll ds = ds.map PyData.shown
  | [] => rfl
  | d :: ds => by simp [PyData.shownAll, shownAll_map ds]
theorem showableAll_of : ∀ {ds : List D}, (∀ d ∈ ds, d.showable = true) → PyData.showableAll ds = true
  | [], _ => rfl
  | d :: ds, h => by simp [PyData.showableAll, h d List.mem_cons_self, showableAll_of fun e he => h e (List.mem_cons_of_mem _ he)]
theorem noDictAll : ∀ {ds : List D}, (∀ d ∈ ds, d.hasDict = false) → PyData.hasDictAll ds = false
  | [], _ => rfl
  | d :: ds, h => by simp [PyData.hasDictAll, h d List.mem_cons_self, noDictAll fun e he => h e (List.mem_cons_of_mem _ he)]
theorem depthAll_of {k : Nat} : ∀ {ds : List D}, (∀ d ∈ ds, d.depth ≤ k) → PyData.depthAll ds ≤ k
  | [], _ => by simp [PyData.depthAll]
  | d :: ds, h => by
    have := h d List.mem_cons_self
    have := depthAll_of fun e he => h e (List.mem_cons_of_mem d he)
    simp [PyData.depthAll]
    omega
theorem Sw.tup {c k : Nat} {ds : List D} (h : ∀ d ∈ ds, Sw c k d) : Sw ((c + 2) * ds.length + 3) (k + 1) (.tuple ds) := by
  refine ⟨by simp only [PyData.showable]; exact showableAll_of fun d hd => (h d hd).ok, ?_, ?_, ?_, ?_⟩
  · have := depthAll_of fun d hd => (h d hd).dp
    simp only [PyData.depth]
    omega
  · simp only [PyData.shown, shownAll_map]
    have := tup_len (c := c) (ts := ds.map PyData.shown) fun t ht => by
      obtain ⟨d, hd, rfl⟩ := List.mem_map.mp ht
      exact (h d hd).ln
    rwa [List.length_map] at this
  · simp only [PyData.shown, shownAll_map]
    exact tup_ok fun t ht => by
      obtain ⟨d, hd, rfl⟩ := List.mem_map.mp ht
      exact (h d hd).ch
  · simp only [PyData.hasDict]
    exact noDictAll fun d hd => (h d hd).nd
theorem Sw.int {i : Int} (h1 : -100 ≤ i) (h2 : i ≤ 100) : Sw 8 1 (.int i) := by
  have key : ∀ n : Fin 201, (PyData.int ((n.val : Int) - 100)).showable = true ∧ (PyData.int ((n.val : Int) - 100)).shown.length ≤ 8 ∧ PyData.strOk (PyData.int ((n.val : Int) - 100)).shown = true := by decide +kernel
  have e : i = (((i + 100).toNat : Nat) : Int) - 100 := by omega
  have := key ⟨(i + 100).toNat, by omega⟩
  rw [e]
  exact ⟨this.1, by simp [PyData.depth], this.2.1, this.2.2, rfl⟩
theorem Sw.bool (b : Bool) : Sw 8 1 (.bool b) := by
  cases b <;> exact ⟨by decide +kernel, by simp [PyData.depth], by decide +kernel, by decide +kernel, rfl⟩
end PP

set_option Elab.async false
set_option linter.all false
set_option maxRecDepth 100000
set_option maxHeartbeats 2000000
namespace PP
open PySem PySem.Spec PyProof.Rows L2
open Sem (wp)
section
variable {prog : Program} {w : World} {A : Around} {E : Value → Shared → Prop} {zc ti tu T i1 i2 : Addr} {fp1 fp2 : List Addr} {n1 n2 i : Nat} {P1 P2 : Nat → Value → Prop} {St1 St2 : Nat → Heap → Prop} {f : Bool} {oT : Obj}
/-- the next pair of a zip whose last pair is still held -/
theorem zh_item {s : Shared} {Q : Value → Shared → Prop} (S : ZipSep2 zc ti tu i1 i2 fp1 fp2) (D1 : Draws prog w A i1 fp1 n1 P1 St1) (D2 : Draws prog w A i2 fp2 n2 P2 St2)
    (hz : IsZipHeld s.heap zc ti tu T f) (hT : s.heap.get? T = some oT) (hI : IsTupOf2 s.heap ti (.ref i1) (.ref i2)) (st1 : St1 i s.heap) (st2 : St2 i s.heap) (l1 : i < n1) (l2 : i < n2)
    (go : ∀ x y g tk, P1 i x → P2 i y → IsZipHeld g zc ti tu T true → St1 (i + 1) g → St2 (i + 1) g → IsTupOf2 g s.heap.objs.size x y → g.objs.size = s.heap.objs.size + 1 →
      (∀ c o, c ≠ zc → c ≠ i1 → c ≠ i2 → s.heap.get? c = some o → g.get? c = some o) → Q (.ref s.heap.objs.size) { s with heap := g, toks := tk }) :
    wpAny (model prog w) A (Builtin.«zip.__next__» ⟨[.ref zc], []⟩) (fun fin t => ∃ v, fin = .done (.ret v) ∧ Q v t) E s := by
  obtain ⟨h0, gs, dr, tk0, os⟩ := s
  show wpAny _ _ (field (.ref zc) 2 >>= _) _ _ _
  refine wpAny_bind (wpAny_field hz rfl (x := .bool false) rfl ?_)
  show wpAny _ _ (field (.ref zc) 3 >>= _) _ _ _
  refine wpAny_bind (wpAny_field hz rfl (x := .ref ti) rfl (wpAny_bind (wpAny_seqItems hI rfl ?_)))
  show wpAny _ _ (Builtin.SmallTypes.ownedTupleIsFree (.ref zc) >>= _) _ _ _
  refine wpAny_bind (wpAny_tupleHeld_zip hz hT fun g1 hz1 b1 => ?_)
  simp only [Bool.false_eq_true, if_false]
  refine wpAny_bind ?_
  rw [← Array.forIn_toList]
  simp only [List.forIn_cons, List.forIn_nil]
  refine wpAny_bind (wpAny_bind (wpAny_holding ?_))
  show wpAny _ _ (Builtin.SmallTypes.nextOf (.ref i1) >>= _) _ _ ⟨g1, gs, dr, tk0, os⟩
  refine wpAny_bind (D1.item i _ _ _ l1 (D1.over st1 b1 S.zf1) fun x g2 tk1 px sn1 b2 => wpAny_pure (wpAny_pure ?_))
  refine wpAny_bind (wpAny_bind (wpAny_holding ?_))
  show wpAny _ _ (Builtin.SmallTypes.nextOf (.ref i2) >>= _) _ _ ⟨g2, gs, dr, tk1, os⟩
  replace b2 : Heap.SameBut i1 g1 g2 := b2
  refine wpAny_bind (D2.item i _ _ _ l2 (D2.over (D2.over st2 b1 S.zf2) b2 S.sep1_2) fun y g3 tk2 py sn2 b3 => wpAny_pure (wpAny_pure (wpAny_pure ?_)))
  replace b3 : Heap.SameBut i2 g2 g3 := b3
  show wpAny _ _ (newTuple [x, y] >>= _) _ _ _
  refine wpAny_bind (wpAny_newTuple (wpAny_pure ⟨_, rfl, ?_⟩))
  have sz : g3.objs.size = h0.objs.size := by rw [b3.1, b2.1, b1.1]
  have zz : IsZipHeld g3 zc ti tu T true := b3.extBut _ _ S.zi2 (b2.extBut _ _ S.zi1 hz1)
  have kp : ∀ c o, c ≠ zc → c ≠ i1 → c ≠ i2 → h0.get? c = some o → g3.get? c = some o := fun c o a1 a2 a3 e => b3.extBut _ _ a3 (b2.extBut _ _ a2 (b1.extBut _ _ a1 e))
  have s1 : St1 (i + 1) g3 := D1.over sn1 b3 S.sep2_1
  have top : IsTupOf2 (g3.push { cls := .type "tuple", data := .seq #[x, y] }) g3.objs.size x y := Heap.get?_push_size _ rfl
  have sz2 : (g3.push { cls := .type "tuple", data := .seq #[x, y] }).objs.size = g3.objs.size + 1 := Heap.size_push ..
  show Q (.ref g3.objs.size) _
  rw [sz] at top sz2 ⊢
  exact go x y _ _ px py (Heap.get?_push_of_some _ zz) (D1.frame _ _ _ s1 fun b _ o e => Heap.get?_push_of_some _ e) (D2.frame _ _ _ sn2 fun b _ o e => Heap.get?_push_of_some _ e) top sz2
    fun c o a1 a2 a3 e => Heap.get?_push_of_some _ (kp c o a1 a2 a3 e)
/-- its end -/
theorem zh_end {s : Shared} {Q : Fin → Shared → Prop} (S : ZipSep2 zc ti tu i1 i2 fp1 fp2) (D1 : Draws prog w A i1 fp1 n1 P1 St1) (D2 : Draws prog w A i2 fp2 n2 P2 St2)
    (hz : IsZipHeld s.heap zc ti tu T f) (hT : s.heap.get? T = some oT) (hI : IsTupOf2 s.heap ti (.ref i1) (.ref i2)) (st1 : St1 i s.heap) (st2 : St2 i s.heap) (h : i = n1 ∨ (i < n1 ∧ i = n2))
    (go : ∀ g tk e, (∀ c o, c ≠ zc → c ≠ i1 → c ≠ i2 → s.heap.get? c = some o → g.get? c = some o) → (∃ o, g.get? e = some o ∧ o.cls = .type "StopIteration") → E (.ref e) { s with heap := g, toks := tk }) :
    wpAny (model prog w) A (Builtin.«zip.__next__» ⟨[.ref zc], []⟩) Q E s := by
  obtain ⟨h0, gs, dr, tk0, os⟩ := s
  show wpAny _ _ (field (.ref zc) 2 >>= _) _ _ _
  refine wpAny_bind (wpAny_field hz rfl (x := .bool false) rfl ?_)
  show wpAny _ _ (field (.ref zc) 3 >>= _) _ _ _
  refine wpAny_bind (wpAny_field hz rfl (x := .ref ti) rfl (wpAny_bind (wpAny_seqItems hI rfl ?_)))
  show wpAny _ _ (Builtin.SmallTypes.ownedTupleIsFree (.ref zc) >>= _) _ _ _
  refine wpAny_bind (wpAny_tupleHeld_zip hz hT fun g1 hz1 b1 => ?_)
  simp only [Bool.false_eq_true, if_false]
  refine wpAny_bind ?_
  rw [← Array.forIn_toList]
  simp only [List.forIn_cons, List.forIn_nil]
  refine wpAny_bind (wpAny_bind (wpAny_holding ?_))
  show wpAny _ _ (Builtin.SmallTypes.nextOf (.ref i1) >>= _) _ _ ⟨g1, gs, dr, tk0, os⟩
  rcases h with rfl | ⟨lt, rfl⟩
  · refine wpAny_bind (D1.done _ _ _ (D1.over st1 b1 S.zf1) fun g2 e b2 he => ?_)
    exact go g2 tk0 e (fun c o a1 a2 _ x => b2 _ _ a2 (b1.extBut _ _ a1 x)) he
  · refine wpAny_bind (D1.item i _ _ _ lt (D1.over st1 b1 S.zf1) fun x g2 tk1 px sn1 b2 => wpAny_pure (wpAny_pure ?_))
    replace b2 : Heap.SameBut i1 g1 g2 := b2
    refine wpAny_bind (wpAny_bind (wpAny_holding ?_))
    show wpAny _ _ (Builtin.SmallTypes.nextOf (.ref i2) >>= _) _ _ ⟨g2, gs, dr, tk1, os⟩
    refine wpAny_bind (D2.done _ _ _ (D2.over (D2.over st2 b1 S.zf2) b2 S.sep1_2) fun g3 e b3 he => ?_)
    exact go g3 tk1 e (fun c o a1 a2 a3 x => b3 _ _ a3 (b2.extBut _ _ a2 (b1.extBut _ _ a1 x))) he
theorem pn_item {s : Shared} {Q : Option Value → Shared → Prop} (S : ZipSep2 zc ti tu i1 i2 fp1 fp2) (D1 : Draws prog w A.in1 i1 fp1 n1 P1 St1) (D2 : Draws prog w A.in1 i2 fp2 n2 P2 St2)
    (hz : IsZipHeld s.heap zc ti tu T f) (hT : s.heap.get? T = some oT) (hI : IsTupOf2 s.heap ti (.ref i1) (.ref i2)) (st1 : St1 i s.heap) (st2 : St2 i s.heap) (l1 : i < n1) (l2 : i < n2)
    (go : ∀ x y g tk, P1 i x → P2 i y → IsZipHeld g zc ti tu T true → St1 (i + 1) g → St2 (i + 1) g → IsTupOf2 g s.heap.objs.size x y → g.objs.size = s.heap.objs.size + 1 →
      (∀ c o, c ≠ zc → c ≠ i1 → c ≠ i2 → s.heap.get? c = some o → g.get? c = some o) → Q (some (.ref s.heap.objs.size)) { s with heap := g, toks := tk }) : wpAny (model prog w) A (pyNext (.ref zc)) Q E s := by
  have ty : s.TypeIs (.ref zc) "zip" := ⟨_, hz, rfl⟩
  have body := zh_item (A := A.in1) (Q := fun v t => wpAny (model prog w) A (pure (some v)) Q E t) (E := fun _ _ => False) S D1 D2 hz hT hI st1 st2 l1 l2 fun x y g tk a1 a2 a3 a4 a5 a6 a7 a8 => wpAny_pure (go x y g tk a1 a2 a3 a4 a5 a6 a7 a8)
  unfold pyNext
  refine wpAny_bind (wpAny_attempt (wpAny_callSpecial?_slot (name := Str.ofString "__next__") ty F.slot_zip_next (wpAny_call_entry F.slot_zip_next ty F.entry_zip_next ?_ (F.args_zip_next_1 _))))
  exact wpAny_mono body (fun _ _ x => x) fun _ _ x => x.elim
theorem pn_end {s : Shared} {Q : Option Value → Shared → Prop} (S : ZipSep2 zc ti tu i1 i2 fp1 fp2) (D1 : Draws prog w A.in1 i1 fp1 n1 P1 St1) (D2 : Draws prog w A.in1 i2 fp2 n2 P2 St2)
    (hz : IsZipHeld s.heap zc ti tu T f) (hT : s.heap.get? T = some oT) (hI : IsTupOf2 s.heap ti (.ref i1) (.ref i2)) (st1 : St1 i s.heap) (st2 : St2 i s.heap) (h : i = n1 ∨ (i < n1 ∧ i = n2))
    (go : ∀ g tk, (∀ c o, c ≠ zc → c ≠ i1 → c ≠ i2 → s.heap.get? c = some o → g.get? c = some o) → Q none { s with heap := g, toks := tk }) : wpAny (model prog w) A (pyNext (.ref zc)) Q E s := by
  have ty : s.TypeIs (.ref zc) "zip" := ⟨_, hz, rfl⟩
  unfold pyNext
  refine wpAny_bind (wpAny_attempt (wpAny_callSpecial?_slot (name := Str.ofString "__next__") ty F.slot_zip_next (wpAny_call_entry F.slot_zip_next ty F.entry_zip_next (zh_end S D1 D2 hz hT hI st1 st2 h fun g tk e kp he => ?_) (F.args_zip_next_1 _))))
  obtain ⟨o, ho, hc⟩ := he
  exact wpAny_bind (wpAny_isInstance (T := "StopIteration") (b := true) ⟨o, ho, hc⟩ isSubtype_stop (wpAny_pure (go g tk kp)))
end
/-- zip over any two sources, as the argument of dict() -/
theorem pairZ {prog : Program} {w : World} {zc ti tu i1 i2 : Addr} {fp1 fp2 : List Addr} {n1 n2 : Nat} {P1 P2 : Nat → Value → Prop} {St1 St2 : Nat → Heap → Prop} (S : ZipSep2 zc ti tu i1 i2 fp1 fp2)
    (D1 : ∀ A : Around, A.handled = none → Draws prog w A.in1 i1 fp1 n1 P1 St1) (D2 : ∀ A : Around, A.handled = none → Draws prog w A.in1 i2 fp2 n2 P2 St2)
    (L1 : ∀ i h, St1 i h → ∀ b ∈ fp1, ∃ o, h.get? b = some o) (L2 : ∀ i h, St2 i h → ∀ b ∈ fp2, ∃ o, h.get? b = some o) (A0 : Around) (h0 : A0.handled = none) :
    PairArg prog w "zip" zc (zc :: ti :: tu :: (fp1 ++ fp2)) [zc, tu, i1, i2] (min n1 n2) (fun i k v => P1 i k ∧ P2 i v)
      (fun h => IsZip h zc ti tu .none ∧ IsTupOf2 h ti (.ref i1) (.ref i2) ∧ (∃ a b, IsTupOf2 h tu a b) ∧ St1 0 h ∧ St2 0 h) := by
  have m1 : i1 ∈ zc :: ti :: tu :: (fp1 ++ fp2) := by simp [S.mem1]
  have m2 : i2 ∈ zc :: ti :: tu :: (fp1 ++ fp2) := by simp [S.mem2]
  refine { type := fun s ok => ⟨_, ok.1, rfl⟩, notDict := by decide, keep := ?_, there := ?_, sub := ?_, noKeys := ?_, iter := ?_ }
  · rintro h h' ⟨a1, a2, ⟨a, b, a3⟩, a4, a5⟩ kp
    exact ⟨kp _ _ a1, kp _ _ a2, ⟨a, b, kp _ _ a3⟩, (D1 A0 h0).frame _ _ _ a4 fun b _ => kp b, (D2 A0 h0).frame _ _ _ a5 fun b _ => kp b⟩
  · rintro h ⟨a1, a2, ⟨a, b, a3⟩, a4, a5⟩ c hc
    rcases List.mem_cons.mp hc with e | hc
    · exact ⟨_, e ▸ a1⟩
    rcases List.mem_cons.mp hc with e | hc
    · exact ⟨_, e ▸ a2⟩
    rcases List.mem_cons.mp hc with e | hc
    · exact ⟨_, e ▸ a3⟩
    rcases List.mem_append.mp hc with hc | hc
    · exact L1 _ _ a4 _ hc
    · exact L2 _ _ a5 _ hc
  · intro b hb
    simp only [List.mem_cons, List.not_mem_nil, or_false] at hb
    rcases hb with e | e | e | e
    · simp [e]
    · simp [e]
    · exact e ▸ m1
    · exact e ▸ m2
  · intro A s Q E hA ok go
    exact getAttrOr_miss_zip ok.1 rfl rfl rfl zip_no_keys (by decide +kernel) hA go
  · rintro A s d Q E hA ⟨a1, a2, ⟨a, b, a3⟩, a4, a5⟩ hd off go
    have o1 : d ≠ zc := fun e => off (by simp [e])
    have o2 : d ≠ ti := fun e => off (by simp [e])
    have o3 : d ≠ tu := fun e => off (by simp [e])
    have o4 : d ≠ i1 := fun e => off (e ▸ m1)
    have o5 : d ≠ i2 := fun e => off (e ▸ m2)
    have o6 : ∀ c ∈ fp1, c ≠ d := fun c hc e => off (by simp [← e, hc])
    have o7 : ∀ c ∈ fp2, c ≠ d := fun c hc e => off (by simp [← e, hc])
    refine wpAny_pyIter_zip a1 (go zc [zc, tu, i1, i2] (fun i h => IsTupOf2 h ti (.ref i1) (.ref i2) ∧ St1 i h ∧ St2 i h ∧
      ((IsZip h zc ti tu .none ∧ ∃ a b, IsTupOf2 h tu a b) ∨ ∃ T f oT, IsZipHeld h zc ti tu T f ∧ h.get? T = some oT ∧ T ≠ zc ∧ T ≠ i1 ∧ T ≠ i2 ∧ T ≠ d)) s.heap s.toks ?_ ⟨a2, a4, a5, .inl ⟨a1, a, b, a3⟩⟩ (fun _ _ e => e) fun b hb => .inl hb)
    refine { off := ?_, frame := ?_, item := ?_, done := ?_ }
    · intro hm
      simp only [List.mem_cons, List.not_mem_nil, or_false] at hm
      rcases hm with e | e | e | e
      · exact o1 e
      · exact o3 e
      · exact o4 e
      · exact o5 e
    · rintro i h h' ⟨c1, c2, c3, c4⟩ kp
      refine ⟨kp _ _ o2.symm c1, (D1 A hA).frame _ _ _ c2 fun b hb o e => kp b o (o6 b hb) e, (D2 A hA).frame _ _ _ c3 fun b hb o e => kp b o (o7 b hb) e, ?_⟩
      rcases c4 with ⟨c4, x, y, c5⟩ | ⟨T, f, oT, c4, c5, r1, r2, r3, r4⟩
      · exact .inl ⟨kp _ _ o1.symm c4, x, y, kp _ _ o3.symm c5⟩
      · exact .inr ⟨T, f, oT, kp _ _ o1.symm c4, kp _ _ r4 c5, r1, r2, r3, r4⟩
    · rintro i t Q1 E1 hi ⟨c1, c2, c3, c4⟩ hdl go1
      have q1 : i < n1 := by omega
      have q2 : i < n2 := by omega
      have lt : ∀ {c o}, t.heap.get? c = some o → t.heap.objs.size ≠ c := fun e => Nat.ne_of_gt (Heap.lt_size e)
      obtain ⟨_, e1⟩ := (D1 A hA).live _ _ c2
      obtain ⟨_, e2⟩ := (D2 A hA).live _ _ c3
      rcases c4 with ⟨c4, x0, y0, c5⟩ | ⟨T, f, oT, c4, c5, r1, r2, r3, r4⟩
      · refine wpAny_pyNext_zipD2_item S (D1 A hA) (D2 A hA) c4 c1 c5 c2 c3 q1 q2 fun x y g tk px py b1 b2 b3 b4 b5 b6 b7 => ?_
        exact go1 t.heap.objs.size x y g tk ⟨px, py⟩ (.inl ⟨_, b5, rfl, _, rfl⟩) ⟨b7 _ _ S.TIz S.TITO S.TIi1 S.TIi2 c1, b3, b4, .inr ⟨_, false, _, b1, b5, lt c4, lt e1, lt e2, Nat.ne_of_gt hdl⟩⟩
          fun c o hc e => b7 c o (fun x => hc (by simp [x])) (fun x => hc (by simp [x])) (fun x => hc (by simp [x])) (fun x => hc (by simp [x])) e
      · refine pn_item S (D1 A hA) (D2 A hA) c4 c5 c1 c2 c3 q1 q2 fun x y g tk px py b1 b3 b4 b5 b6 b7 => ?_
        exact go1 t.heap.objs.size x y g tk ⟨px, py⟩ (.inl ⟨_, b5, rfl, _, rfl⟩) ⟨b7 _ _ S.TIz S.TIi1 S.TIi2 c1, b3, b4, .inr ⟨T, true, oT, b1, b7 _ _ r1 r2 r3 c5, r1, r2, r3, r4⟩⟩
          fun c o hc e => b7 c o (fun x => hc (by simp [x])) (fun x => hc (by simp [x])) (fun x => hc (by simp [x])) e
    · rintro t Q1 E1 ⟨c1, c2, c3, c4⟩ go1
      have en : min n1 n2 = n1 ∨ (min n1 n2 < n1 ∧ min n1 n2 = n2) := by omega
      rcases c4 with ⟨c4, x0, y0, c5⟩ | ⟨T, f, oT, c4, c5, r1, r2, r3, r4⟩
      · exact wpAny_pyNext_zipD2_end S (D1 A hA) (D2 A hA) c4 c1 c5 c2 c3 (Nat.min_le_left ..) (Nat.min_le_right ..) (by omega) fun g tk kp => go1 g tk fun c o hc e => kp c o (fun x => hc (by simp [x])) (fun x => hc (by simp [x])) (fun x => hc (by simp [x])) (fun x => hc (by simp [x])) e
      · exact pn_end S (D1 A hA) (D2 A hA) c4 c5 c1 c2 c3 en fun g tk kp => go1 g tk fun c o hc e => kp c o (fun x => hc (by simp [x])) (fun x => hc (by simp [x])) (fun x => hc (by simp [x])) e
end PP

set_option Elab.async false
set_option linter.all false
set_option maxRecDepth 100000
set_option maxHeartbeats 2000000
namespace PP
open PySem PySem.Spec PyProof.Rows L2
open Sem (wp)
theorem kv_zip {P : Program} {w : World} : ∀ {ks : List Key} {ys : List V} {us vs : List Value}, Vals (ks.map kV) us → Vals ys vs → KV (ks.zip ys) (ks.zip vs) ∧ ∀ (i : Nat) (u v : Value), us[i]? = some u → vs[i]? = some v → ∃ k, (ks.zip vs)[i]? = some (k, v) ∧ (mixKind P w).is k u = true
  | [], _, _, _, .nil, _ => ⟨.nil, fun i u v h => by simp at h⟩
  | k :: ks, [], _, _, .cons _ _, .nil => ⟨.nil, fun i u v _ h => by simp at h⟩
  | k :: ks, y :: ys, _, _, .cons r t, .cons r2 t2 => by
    obtain ⟨h1, h2⟩ := kv_zip (P := P) (w := w) t t2
    refine ⟨.cons ⟨rfl, r2⟩ h1, fun i u v e1 e2 => ?_⟩
    cases i with
    | zero =>
      simp at e1 e2
      subst e1 e2
      exact ⟨k, rfl, kV_is r⟩
    | succ i =>
      obtain ⟨c, e3, e4⟩ := h2 i u v (by simpa using e1) (by simpa using e2)
      exact ⟨c, by simpa using e3, e4⟩
theorem sepN (N l t : Nat) (h1 : l < N) (h2 : t < N) : ZipSep2 (N + 4) (N + 2) (N + 3) N (N + 1) [N, l] [N + 1, t] := by
  have a1 : (N + 2 : Nat) ≠ N + 4 := by omega
  have a2 : (N + 3 : Nat) ≠ N + 4 := by omega
  have a3 : (N + 2 : Nat) ≠ N + 3 := by omega
  have a4 : (N + 2 : Nat) ≠ N := by omega
  have a5 : (N + 2 : Nat) ≠ N + 1 := by omega
  have a6 : (N + 4 : Nat) ≠ N := by omega
  have a7 : (N + 4 : Nat) ≠ l := by omega
  have a8 : (N + 3 : Nat) ≠ N := by omega
  have a9 : (N + 3 : Nat) ≠ l := by omega
  have b1 : (N + 4 : Nat) ≠ N + 1 := by omega
  have b2 : (N + 4 : Nat) ≠ t := by omega
  have b3 : (N + 3 : Nat) ≠ N + 1 := by omega
  have b4 : (N + 3 : Nat) ≠ t := by omega
  have b5 : (N : Nat) ≠ N + 1 := by omega
  have b6 : (N : Nat) ≠ t := by omega
  have b7 : (N + 1 : Nat) ≠ N := by omega
  have b8 : (N + 1 : Nat) ≠ l := by omega
  exact ⟨a1, a2, a3, a4, List.mem_cons_self, List.not_mem_cons_of_ne_of_not_mem a6 (List.not_mem_cons_of_ne_of_not_mem a7 (by simp)), List.not_mem_cons_of_ne_of_not_mem a8 (List.not_mem_cons_of_ne_of_not_mem a9 (by simp)),
    a5, List.mem_cons_self, List.not_mem_cons_of_ne_of_not_mem b1 (List.not_mem_cons_of_ne_of_not_mem b2 (by simp)), List.not_mem_cons_of_ne_of_not_mem b3 (List.not_mem_cons_of_ne_of_not_mem b4 (by simp)),
    List.not_mem_cons_of_ne_of_not_mem b5 (List.not_mem_cons_of_ne_of_not_mem b6 (by simp)), List.not_mem_cons_of_ne_of_not_mem b7 (List.not_mem_cons_of_ne_of_not_mem b8 (by simp))⟩
/-- dict(zip(xs, t)), xs a list of keys, t a tuple: the pairs, later ones over earlier ones -/
def tDz (K : PySem.W.Frag) (ta : TA) : TE := fun σ H Q => ta σ H fun vs H1 => ∃ (l t : Addr) (ks : List Key) (ys : List V), vs = [.ref l, .ref t] ∧ SqL K H1 l (ks.map kV) ∧ SqT K H1 t ys ∧ ∀ p, H1 p = none → Q (.ref p) (upd H1 p (.dK (mergeK [] (ks.zip ys))))
theorem pe_dzip {X : Cx} {a b : Expr} {ta : TA} {p p2 pos pos2 : Pos} (hc : X.calm = true) (hg : Gl X "dict") (hm : X.mg "dict" = none) (hg2 : Gl X "zip") (hm2 : X.mg "zip" = none) (ha : PA X [a, b] ta)
    (hs : starEach [a, b] X.env = (false, eval a X.env) :: starEach [b] X.env := by rfl) (hpl : (backTo pos2 (starEach [b] X.env)).any (·.1) = false := by rfl)
    (na : starEach [.Call (.Name "zip" p2) [a, b] [] pos2] X.env = (false, eval (.Call (.Name "zip" p2) [a, b] [] pos2) X.env) :: starEach [] X.env := by rfl) :
    PE X (.Call (.Name "dict" p) [.Call (.Name "zip" p2) [a, b] [] pos2] [] pos) (tDz X.K ta) := by
  refine ⟨fun pins s σ H Q I h => ?_⟩
  refine Call_ (ld_blt I hg hm boot_dict (PyProof.Rows.callWith_type1 (PyProof.Rows.args_cons ?_ na) na rfl))
  refine Call_ (ld_blt I hg2 hm2 boot_zip (PyProof.Rows.callWith_type1 (thn (ha.run pos2 pins s σ H _ I h) ?_) hs hpl))
  rintro us s1 ⟨vs, H1, I1, r1, l, t, ks, ys, rfl, hq1, hq2, q⟩
  obtain ⟨u1, u2, rfl, e1, e2⟩ := vals2 r1
  obtain rfl : u1 = Value.ref l := e1
  obtain rfl : u2 = Value.ref t := e2
  obtain ⟨us1, rv1, pl, z1⟩ := I1.list hq1
  obtain ⟨us2, rv2, pt, z2⟩ := I1.tuple hq2
  have hl : s1.heap.IsList l us1.toArray := pl.isList
  have ht : s1.heap.IsTuple t us2.toArray := pt
  have ll : l < s1.heap.objs.size := pl.lt
  have lt : t < s1.heap.objs.size := by
    obtain ⟨o, ho, _⟩ := pt
    exact Heap.lt_size ho
  obtain ⟨rel, has⟩ := kv_zip (P := X.prog) (w := X.w) rv1 rv2
  have hd := I1.ok.hd hc
  refine zip_begins2 (begins_list l us1.toArray) (begins_tuple t us2.toArray) hl ht fun g hz hTI hTO g1 g2 gsz kp => PyProof.Rows.args_nil ?_
  have S : ZipSep2 (s1.heap.objs.size + 4) (s1.heap.objs.size + 2) (s1.heap.objs.size + 3) s1.heap.objs.size (s1.heap.objs.size + 1) [s1.heap.objs.size, l] [s1.heap.objs.size + 1, t] := sepN _ _ _ ll lt
  have ne1 : l ≠ s1.heap.objs.size := Nat.ne_of_lt ll
  have ne2 : t ≠ s1.heap.objs.size + 1 := Nat.ne_of_lt (Nat.lt_succ_of_lt lt)
  have PZ := pairZ (prog := X.prog) (w := X.w) S (fun A h0 => Draws.list (A := A.in1) (by simp [h0]) _ l ne1 us1.toArray) (fun A h0 => Draws.tuple (A := A.in1) (by simp [h0]) _ t ne2 us2.toArray) (fun i h st b hb => ?_) (fun i h st b hb => ?_) X.A hd
  rotate_left
  · obtain ⟨⟨o, ho, _⟩, ⟨o2, ho2, _⟩⟩ := st
    rcases List.mem_cons.mp hb with e | hb
    · exact ⟨o, e ▸ ho⟩
    · exact ⟨o2, (List.mem_singleton.mp hb) ▸ ho2⟩
  · obtain ⟨⟨o, ho, _⟩, ⟨o2, ho2, _⟩⟩ := st
    rcases List.mem_cons.mp hb with e | hb
    · exact ⟨o, e ▸ ho⟩
    · exact ⟨o2, (List.mem_singleton.mp hb) ▸ ho2⟩
  have n1 : us1.length = ks.length := by rw [← rv1.length, List.length_map]
  have n2 : us2.length = ys.length := rv2.length.symm
  refine PySem.call_dict_pairs (s := { s1 with heap := g }) (knd := mixKind X.prog X.w) (kvs := ks.zip us2) PZ hd ⟨hz, hTI, ⟨_, _, hTO⟩, ⟨⟨_, g1, rfl, rfl⟩, hl.at fun o e => kp _ _ e⟩, ⟨⟨_, g2, rfl, rfl⟩, ht.at fun o e => kp _ _ e⟩⟩ ⟨?_, ?_⟩ ?_ fun h' tk hd' k2 => ?_
  · rw [List.length_zip, List.size_toArray, List.size_toArray, n1]
  · rintro i key v ⟨e1, e2⟩
    exact has i key v (by simpa using e1) (by simpa using e2)
  · rw [List.size_toArray, List.size_toArray]
    omega
  · have big : (g.objs.size == sysModules) = false := beq_eq_false_iff_ne.mpr (Nat.ne_of_gt (by rw [gsz]; exact Nat.lt_of_lt_of_le I1.big (Nat.le_add_right _ _)))
    have hlen : (mergeK [] (ks.zip ys)).length ≤ sizeLine := by
      refine Nat.le_trans (length_mergeK _ []) ?_
      rw [List.length_nil, Nat.zero_add, List.length_zip]
      omega
    have old : ∀ c o, s1.heap.get? c = some o → h'.get? c = some o := fun c o e => by
      have lc : c < s1.heap.objs.size := Heap.lt_size e
      refine k2 c o ?_ (kp c o e)
      have f0 : ∀ j : Nat, c ≠ s1.heap.objs.size + j := fun j => Nat.ne_of_lt (Nat.lt_of_lt_of_le lc (Nat.le_add_right _ _))
      simp only [List.mem_cons, List.not_mem_nil, or_false, not_or]
      exact ⟨f0 4, f0 3, f0 0, f0 1⟩
    have fr : H1 g.objs.size = none := I1.hok.fresh (by omega)
    exact ⟨.ref g.objs.size, upd H1 g.objs.size (.dK (mergeK [] (ks.zip ys))), I1.laid (t' := tk) old (by omega) (show ObjOk X.prog X.w _ _ _ (.dK (mergeK [] (ks.zip ys))) from ⟨hlen, big, merged [] (ks.zip us2), KV.merge rel .nil, hd'⟩), rfl, q _ fr⟩
/-! ### in data -/
def mergeD (acc : List (D × D)) : List (Key × D) → List (D × D)
  | [] => acc
  | (c, d) :: r => mergeD (dPut acc c d) r
theorem RpK.merge {K : PySem.W.Frag} {F : Hp} : ∀ {cs : List Key} {ds : List D} {vs : List V} {acc : List (D × D)} {ps : List (Key × V)}, RpK K F acc ps → RpL K F ds vs → RpK K F (mergeD acc (cs.zip ds)) (mergeK ps (cs.zip vs))
  | [], _, _, _, _, h, _ => h
  | c :: cs, [], _, _, _, h, r => by have r : _ = [] := r; subst r; exact h
  | c :: cs, d :: ds, _, _, _, h, ⟨x, xs, e, r, t⟩ => by
    subst e
    exact RpK.merge (cs := cs) (h.put c r) t
theorem keys_map {K : PySem.W.Frag} {F : Hp} : ∀ {cs : List Key} {vs : List V}, RpL K F (cs.map keyD) vs → vs = cs.map kV
  | [], _, h => h
  | c :: cs, _, ⟨x, xs, e, h, t⟩ => by
    subst e
    rw [List.map_cons, ← keys_map t, keyD_kV h]
section
variable {X : Cx} {e : Ent} {M : List Md} {a b : Expr} {tA : DA} {pos p pos2 p2 : Pos}
def kDz : KC := fun ds Q => ∃ (cs : List Key) (ys : List D), ds = [.list (cs.map keyD), .tuple ys] ∧ Q (.dict (mergeD [] (cs.zip ys)))
theorem de_dzip (hc : X.calm = true) (hg : Gl X "dict") (hm : X.mg "dict" = none) (hg2 : Gl X "zip") (hm2 : X.mg "zip" = none) (ha : AR X e M [a, b] tA)
    (hs : starEach [a, b] X.env = (false, eval a X.env) :: starEach [b] X.env := by rfl) (hpl : (backTo pos2 (starEach [b] X.env)).any (·.1) = false := by rfl)
    (na : starEach [.Call (.Name "zip" p2) [a, b] [] pos2] X.env = (false, eval (.Call (.Name "zip" p2) [a, b] [] pos2) X.env) :: starEach [] X.env := by rfl) :
    DE X e M (.Call (.Name "dict" p) [.Call (.Name "zip" p2) [a, b] [] pos2] [] pos) (tCl kDz tA) :=
  ⟨pe_imp (pe_dzip hc hg hm hg2 hm2 ha.pa hs hpl na) fun σ H Q ⟨g, F, ρ, sr, q⟩ => ⟨g, F, ρ, sr, ha.mono ρ _ _ (fun ds hd F1 H1 vs s rv => by
    have bs := s.bs sr.bs
    obtain ⟨cs, ys, rfl, hd⟩ := hd
    obtain ⟨v, v', rfl, r, r'⟩ := rv.two
    obtain ⟨l, ks, rfl, hp, m, rl⟩ := r.lst bs
    obtain ⟨t, us, rfl, ht, ru⟩ := r'.tup
    rw [keys_map rl] at hp
    refine ⟨l, t, cs, us, rfl, .inl (.inl hp), bs.sub.sqT ht, fun z hn => ?_⟩
    have hf := bs.sub.none hn
    exact hd (upd F1 z (.dK (mergeK [] (cs.zip us)))) _ _ (s.trans (bs.alloc hn _)) ⟨z, _, rfl, upd_same, RpK.mono (.new hf) (RpK.merge rfl ru)⟩) q⟩,
    tCl_mono (fun ds Q Q' f ⟨cs, ys, h1, q⟩ => ⟨cs, ys, h1, f _ q⟩) ha.mono⟩
end
end PP

set_option Elab.async false
set_option linter.all false
set_option maxRecDepth 100000
set_option maxHeartbeats 3000000
namespace PP
theorem Nm.nmin {K : PySem.W.Frag} {mg : PySem.Str → Option PySem.Value} (m : Nm K mg) : mg "min" = none := m.free _ (by decide)
open PySem PySem.Spec PyProof.Rows L2
section
variable {X : Cx} {e : Ent} {M : List Md} {a b c : Expr} {xs : List Expr} {ta tb tc : DT} {tA : DA} {pos p p1 p2 p3 p4 p5 pos2 spos : Pos}
/-- min(i, j) -/
def kMin2 : KC := fun ds Q => match ds with
  | [.int i, .int j] => Q (.int (if j < i then j else i))
  | _ => False
theorem kMin2_mono : MonoC kMin2 := fun ds Q Q' f q => by
  unfold kMin2 at q ⊢
  split at q
  · exact f _ q
  · exact q.elim
theorem says_min2 : SaysC X (fun xs H Q => ∃ i j, xs = [.int i, .int j] ∧ Q (.int (if j < i then j else i)) H) kMin2 := by
  intro g F H ds vs Qv q bs rv hk k
  unfold kMin2 at hk
  split at hk
  · obtain ⟨v, v', rfl, r, r'⟩ := rv.two
    exact ⟨_, _, by rw [r.int, r'.int], k _ F H _ hk bs.refl rfl⟩
  · exact hk.elim
theorem de_min2 (hc : X.calm = true) (hg : Gl X "min") (hm : X.mg "min" = none) (ha : AR X e M (a :: xs) tA) (he : starEach (a :: xs) X.env = (false, eval a X.env) :: starEach xs X.env := by rfl) (hpl : (backTo pos (starEach xs X.env)).any (·.1) = false := by rfl) :
    DE X e M (.Call (.Name "min" p) (a :: xs) [] pos) (tCl kMin2 tA) := de_callB (call_min2 hc) says_min2 kMin2_mono hg hm (by decide +kernel) ha (he := he) (hpl := hpl)
theorem gt_lt : ∀ {ρ : En} {i : Nat} {d : D}, gt ρ i = some d → i < ρ.length
  | [], i, d, h => by simp [gt] at h
  | x :: r, 0, d, h => by simp
  | x :: r, i + 1, d, h => by
    have := gt_lt (ρ := r) (i := i) (d := d) (by simpa [gt] using h)
    simp
    omega
/-- x[i], x[j] = a pair -/
def dPut2 (i : Nat) (te tk tl : DT) : DTS := fun d ρ => match gt ρ i with
  | some (.list xs) => te ρ fun y => match y with
    | .tuple [u, w] => tk ρ fun k => match k with
      | .int n => (match ixN xs.length n with
        | some j => tl (sv ρ i (some (.list (xs.set j u)))) fun k2 => match k2 with
          | .int m => (match ixN xs.length m with
            | some j2 => d.nx (sv (sv ρ i (some (.list (xs.set j u)))) i (some (.list ((xs.set j u).set j2 w))))
            | none => False)
          | _ => False
        | none => False)
      | _ => False
    | _ => False
  | _ => False
theorem ds_put2 (i : Nat) {y : Str} {kt : Nat} (hc : X.calm = true) (ha : DE X e M a ta) (hb : RE X e M b tb) (hb2 : RE X e M c tc) (hN : X.N[i]? = some y := by rfl) (hv : Vis X.env.scope y := by first | exact Or.inl rfl | exact Or.inr (Or.inl rfl) | exact Or.inr (Or.inr rfl)) (hm : md M i = .own := by rfl) (hd : (y == ("__debug__" : Str)) = false := by decide) (hcd : (y == ("__classdict__" : Str)) = false := by decide)
    (hE : ∀ {to ti to2 ti2 te : TE}, PE X (.Name y p1) to → PE X b ti → PE X (.Name y p3) to2 → PE X c ti2 → PE X a te → PS X (.Assign [.Tuple [.Subscript (.Name y p1) b p2, .Subscript (.Name y p3) c p4] kt p5] a spos) (tAsg te (gTup X.K 2 (gCons (gSub to ti rSetL) (gCons (gSub to2 ti2 rSetL) gNil)))) := by
      intro to ti to2 ti2 te h1 h2 h3 h4 h5; exact ps_asg h5 (pg_tup (by first | rfl | assumption) (pgs_cons (pg_sub h1 h2 set_list) (pgs_cons (pg_sub h3 h4 set_list) pgs_nil)))) :
    DS X e M (.Assign [.Tuple [.Subscript (.Name y p1) b p2, .Subscript (.Name y p3) c p4] kt p5] a spos) (dPut2 i ta tb tc) :=
  ⟨ps_imp (hE (pe_var hN hv hd hcd) hb.pe (pe_var hN hv hd hcd) hb2.pe ha.pe) fun E σ H ⟨g, F, ρ, d, s, q, h⟩ => by
    unfold dPut2 at q
    split at q
    · rename_i xs hx
      refine ⟨g, F, ρ, s, ha.mono ρ _ _ (fun y hy F' H' v t r => ?_) q⟩
      split at hy
      · rename_i u w
        obtain ⟨tp, zs, rfl, hz, rz⟩ := r
        obtain ⟨vu, z1, rfl, ru, rz⟩ := rz
        obtain ⟨vw, z2, rfl, rw', rz⟩ := rz
        have rz : z2 = [] := rz
        subst rz
        have s1 := s.step t
        obtain ⟨p, vs, ds, e2, h1, h3, h4, h5, h6, h7⟩ := s1.ownAt hx hm
        cases e2
        refine ⟨tp, _, rfl, t.sub.sqT hz, rfl, ⟨_, _, rfl, .ref p, h1, g, F', ρ, s1, hb.mono ρ _ _ (fun k hk F2 H2 k' t2 r2 => ?_) hy⟩⟩
        split at hk
        · rename_i n
          split at hk
          · rename_i j hj
            have s2 := s1.step t2
            have x1 := t2.keep _ _ h3 h7
            have x5 := t2.no h3 h5
            refine ⟨p, vs, n, j, rfl, r2.int, x1, by rw [h4.length]; exact hj, _, _, rfl, .ref p, h1, ?_⟩
            have s3 := s2.putL (ds := xs.set j u) (vs := vs.set j vu) hm hx h1 x5 h6 h7 ((h4.mono t2.mono).set j (ru.mono t2.mono))
            refine ⟨g, F2, _, s3, hb2.mono _ _ _ (fun k2 hk2 F3 H3 k3 t3 r3 => ?_) hk⟩
            split at hk2
            · rename_i m
              split at hk2
              · rename_i j2 hj2
                have hx3 : gt (sv ρ i (some (.list (xs.set j u)))) i = some (.list (xs.set j u)) := by
                  rw [gt_sv, if_pos rfl]
                  have : i < ρ.length := gt_lt hx
                  rw [if_pos this]
                have y1 := t3.keep p _ upd_same h7
                have y5 := t3.no (o := .lst (vs.set j vu)) upd_same x5
                have s4 := s3.step t3
                have r4 : RpL X.K F3 ((xs.set j u).set j2 w) ((vs.set j vu).set j2 vw) := (((h4.mono t2.mono).set j (ru.mono t2.mono)).mono t3.mono).set j2 ((rw'.mono t2.mono).mono t3.mono)
                refine ⟨p, _, m, j2, rfl, r3.int, y1, by rw [List.length_set, h4.length]; exact hj2, ?_⟩
                exact ⟨rfl, h.nx g F3 _ σ _ (s4.putL hm hx3 h1 y5 h6 h7 r4) hk2⟩
              · exact hk2.elim
            · exact hk2.elim
          · exact hk.elim
        · exact hk.elim
      · exact hy.elim
    · exact q.elim, fun d d' ρ k q => by
    unfold dPut2 at q ⊢
    split at q
    · refine ha.mono ρ _ _ (fun y q => ?_) q
      split at q
      · refine hb.mono ρ _ _ (fun k' q => ?_) q
        split at q
        · split at q
          · refine hb2.mono _ _ _ (fun k2 q => ?_) q
            split at q
            · split at q
              · exact k.nx _ q
              · exact q.elim
            · exact q.elim
          · exact q.elim
        · exact q.elim
      · exact q.elim
    · exact q.elim⟩
/-- sorted(set(xs)), rows of ints of one length -/
def kSetR : List D → (List D → Prop) → Prop := fun ds Q => ∃ (ks : List (List Int)) (d : Nat) (B : Int), ds = [.list (ks.map rowD)] ∧ ks.length < 64 ∧ 1 ≤ d ∧ (∀ n ∈ ks, n.length = d ∧ TS.Bd B n) ∧ ∀ ms : List (List Int), ms.Nodup → (∀ n, n ∈ ms ↔ n ∈ ks) → ms.length < 64 → ms.Pairwise (fun n m => TS.code B n ≤ TS.code B m) → Q (ms.map rowD)
theorem rows_at {K : PySem.W.Frag} {F : Hp} : ∀ {ks : List (List Int)} {vs : List V}, RpL K F (ks.map rowD) vs → ∃ ps : List (Addr × List Int), vs = ps.map (fun p => V.ref p.1) ∧ ps.map (·.2) = ks ∧ ∀ p ∈ ps, FrT F p.1 (p.2.map V.int)
  | [], _, h => by have h : _ = [] := h; subst h; exact ⟨[], rfl, rfl, fun p z => (nomatch z)⟩
  | n :: ks, _, ⟨x, xs, e, h, t⟩ => by
    subst e
    obtain ⟨a, ys, rfl, h, r⟩ := h
    rw [RpL.ints_inv r] at h
    obtain ⟨ps, rfl, e2, hp⟩ := rows_at t
    exact ⟨(a, n) :: ps, rfl, by rw [List.map_cons, e2], fun p hp' => by
      rcases List.mem_cons.mp hp' with e | q
      · subst e; exact h
      · exact hp p q⟩
theorem rows_rp {K : PySem.W.Frag} {F : Hp} : ∀ {ps : List (Addr × List Int)}, (∀ p ∈ ps, FrT F p.1 (p.2.map V.int)) → RpL K F ((ps.map (·.2)).map rowD) (ps.map fun p => V.ref p.1)
  | [], _ => rfl
  | p :: ps, h => ⟨_, _, rfl, ⟨p.1, _, rfl, h p List.mem_cons_self, RpL.ints _⟩, rows_rp fun q hq => h q (List.mem_cons_of_mem _ hq)⟩
theorem fe_sortSetR (hc : X.calm = true) (hu : X.A.units + 64 < cLine) (hg : Gl X "sorted") (hm : X.mg "sorted" = none) (hg2 : Gl X "set") (hm2 : X.mg "set" = none) (ha : AR X e M [a] tA)
    (he2 : starEach [a] X.env = (false, eval a X.env) :: starEach [] X.env := by rfl)
    (he : starEach [.Call (.Name "set" p2) [a] [] pos2] X.env = (false, eval (.Call (.Name "set" p2) [a] [] pos2) X.env) :: starEach [] X.env := by rfl) :
    FE X e M (.Call (.Name "sorted" p) [.Call (.Name "set" p2) [a] [] pos2] [] pos) (fun ρ Q => tA ρ fun ds => kSetR ds Q) :=
  ⟨pe_imp (pe_callB (cr_sortedT hc) hg hm (by decide +kernel) (pa_cons (pe_callTy (cr_setOfT hc hu) hg2 hm2 (by decide +kernel) ha.pa (he := he2) (hpl := by rfl)) pa_nil he) (he := he) (hpl := by rfl)) fun σ H Q ⟨g, F, ρ, sr, q⟩ => by
      refine ⟨g, F, ρ, sr, ha.mono ρ _ _ (fun ds hd F1 H1 vs s rv => ?_) q⟩
      have bs := s.bs sr.bs
      obtain ⟨ks, d, B, rfl, h1, h2, h3, hd⟩ := hd
      obtain ⟨v, rfl, r⟩ := rv.one
      obtain ⟨p, vs, rfl, hp, m, r⟩ := r.lst bs
      obtain ⟨ps, rfl, e2, hps⟩ := rows_at r
      refine ⟨p, ps, rfl, .inl (.inl hp), fun p' hp' => bs.sub.sqT (hps p' hp'), by rw [← List.length_map (f := fun x : Addr × List Int => x.2), e2]; exact h1, fun l L hn hL1 hL2 => ?_⟩
      have b2 := bs.hide hn (SetTO X.prog X.w l L)
      have bs2 := b2.bs bs
      have st2 := s.trans b2
      refine ⟨l, L, d, B, rfl, upd_same, fun p' hp' => bs2.sub.sqT (hps p' (hL1 p' hp')), h2, fun p' hp' => h3 _ (by rw [← e2]; exact List.mem_map.mpr ⟨p', hL1 p' hp', rfl⟩), fun L' q' pm nd l6 so hq => ?_⟩
      have mem : ∀ n, n ∈ L'.map (·.2) ↔ n ∈ ks := fun n => by
        rw [← e2]
        constructor
        · intro h
          obtain ⟨p', hp', rfl⟩ := List.mem_map.mp h
          exact List.mem_map.mpr ⟨p', hL1 p' (pm.mem_iff.mp hp'), rfl⟩
        · intro h
          obtain ⟨p', hp', rfl⟩ := List.mem_map.mp h
          obtain ⟨p2, hp2, e⟩ := List.mem_map.mp (hL2 p' hp')
          exact List.mem_map.mpr ⟨p2, pm.mem_iff.mpr hp2, e⟩
      exact hd (L'.map (·.2)) nd mem (by rw [List.length_map]; exact l6) (List.pairwise_map.mpr so) F1 _ q' _ (st2.trans (bs2.hide hq _)) (st2.old hq) (st2.sub.none hq) upd_same (rows_rp fun p' hp' => hps p' (hL1 p' (pm.mem_iff.mp hp'))),
    fun ρ Q Q' f q => ha.mono ρ _ _ (fun ds ⟨ks, d, B, h1, h2, h3, h4, q⟩ => ⟨ks, d, B, h1, h2, h3, h4, fun ms a b c d => f _ (q ms a b c d)⟩) q⟩
end
end PP

set_option Elab.async false
set_option linter.all false
set_option maxRecDepth 100000
set_option maxHeartbeats 3000000
namespace PP
open PySem PySem.Spec PyProof.Rows L2
section
variable {X : Cx} {e : Ent} {M : List Md} {a : Expr} {xs : List Expr} {ta : DT} {pos p : Pos}
/-- (*a, ..) -/
def tStarD (ta : DT) (t : DA) : DA := fun ρ Q => ta ρ fun d => match d with | .tuple ds => t ρ fun es => Q (ds ++ es) | _ => False
theorem ae_star {tr : DA} (ha : DE X e M a ta) (hr : AE X e M xs tr) (hE : ∀ {te : TE} {t : TA}, PE X a te → PA X xs t → PA X (.Starred a p :: xs) (StX.tStar X.K te t) := by intro te t h1 h2; exact StX.pa_star h1 h2) : AE X e M (.Starred a p :: xs) (tStarD ta tr) :=
  ⟨pa_imp (hE ha.pe hr.pa) fun σ H Q ⟨g, F, ρ, sr, q⟩ => ⟨g, F, ρ, sr, ha.mono ρ _ _ (fun d hd F1 H1 v s1 r1 => by
    split at hd
    · obtain ⟨b, zs, rfl, hb, rb⟩ := r1
      exact ⟨b, zs, rfl, .inl (s1.sub.sqT hb), g, F1, ρ, sr.step s1, hr.mono ρ _ _ (fun ds hq F2 H2 vs s2 r2 => hq F2 H2 _ (s1.trans s2) ((rb.mono s2.mono).append r2)) hd⟩
    · exact hd.elim) q⟩, fun ρ Q Q' f q => ha.mono ρ _ _ (fun x q => by
    split at q
    · exact hr.mono ρ _ _ (fun xs q => f _ q) q
    · exact q.elim) q⟩
end
/-- a def that is never called -/
def kNo : KF := fun _ _ => False
theorem cl_no {P : Program} {w : World} {K : PySem.W.Frag} {mg : Str → Option Value} {base : Heap} {x : Str} {st : Stmt} {ps : List Str} {ms : List Md} {k : Nat} (h : Hd K mg x st ps) : Cl P w K mg base k x ps ms kNo := by
  obtain ⟨f, fd, F, b, m⟩ := h.ex
  refine ⟨⟨f, fd, m, F.kp, b, ⟨fun vs H Q E z => ?_, fun A outer s H ar us vs Q E _ _ _ _ _ z => ?_⟩⟩, fun ds Q Q' f q => q.elim⟩
  · obtain ⟨_, _, _, _, _, q⟩ := z; exact False.elim q
  · obtain ⟨_, _, _, _, _, q⟩ := z; exact False.elim q
end PP

set_option Elab.async false
set_option linter.all false
set_option maxRecDepth 100000
set_option maxHeartbeats 3000000
namespace PP
open PySem PySem.Spec PyProof.Rows L2
section
variable {prog : Program} {w : World} {A : Around} {E : Value → Shared → Prop} {s : Shared} {l : Addr} {vs : List Value}
theorem run_collect {Q : Value → Shared → Prop} (hl : IsTup s.heap l vs.toArray) (hz : vs.length ≤ sizeLine) (go : Q (.ref s.heap.objs.size) { s with heap := (s.heap.push { cls := Value.type "list", data := Data.seq ([] : List Value).toArray }).update s.heap.objs.size (Obj.mapSeq fun x => x ++ vs.toArray) }) :
    wpAny (model prog w) A (runValue (Code.builtin "proto.collect" { pos := [.ref l] })) Q E s := by
  obtain ⟨o, ho, hc, n, hd⟩ := hl
  refine wpAny_runValue (codeAny_builtin F.entry_proto_collect ?_)
  rw [Around.under_plainId F.plain_proto_collect]
  show wpAny _ _ (newList [] >>= _) _ _ _
  refine wpAny_bind (wpAny_newList ?_ (by simp))
  refine wpAny_pure ⟨Code.quiet_builtin _ (by decide +kernel), codeAny_builtin F.entry_list_iadd ?_⟩
  rw [Around.under_plainId F.plain_list_iadd]
  have ho' : (s.heap.push { cls := Value.type "list", data := Data.seq ([] : List Value).toArray }).get? l = some o := Heap.get?_push_of_some _ ho
  have hn : (s.heap.push { cls := Value.type "list", data := Data.seq ([] : List Value).toArray }).get? s.heap.objs.size = some { cls := Value.type "list", data := Data.seq ([] : List Value).toArray } := Heap.get?_push_size _ rfl
  show wpAny _ _ (Builtin.List.listExtendWith (.ref s.heap.objs.size) (.ref l) (.ref s.heap.objs.size)) _ _ _
  generalize hh : (s.heap.push { cls := Value.type "list", data := Data.seq ([] : List Value).toArray }) = h1 at *
  exact wpAny_extend_seq (prog := prog) (w := w) (A := A) (s := { s with heap := h1 }) (R := fun r s' => match r with | Except.ok (Flow.ret v) => Q v s' | Except.ok _ => False | Except.error e => E e s') (T := "tuple") s.heap.objs.size l (.ref s.heap.objs.size) 0 (.inr rfl) hn ho' hc hd go (by simpa using hz)
/-- the items of a tuple, by way of a new list -/
theorem collect_tup {Q : List Value → Shared → Prop} (hl : IsTup s.heap l vs.toArray) (hz : vs.length ≤ sizeLine) (go : Q vs { s with heap := (s.heap.push { cls := Value.type "list", data := Data.seq ([] : List Value).toArray }).update s.heap.objs.size (Obj.mapSeq fun x => x ++ vs.toArray) }) :
    wpAny (model prog w) A (collect (.ref l)) Q E s := by
  unfold PySem.collect
  refine wpAny_bind (run_collect hl hz ?_)
  have hn : (s.heap.push { cls := Value.type "list", data := Data.seq ([] : List Value).toArray }).get? s.heap.objs.size = some { cls := Value.type "list", data := Data.seq ([] : List Value).toArray } := Heap.get?_push_size _ rfl
  obtain ⟨k, hk⟩ : ∃ k, ((s.heap.push { cls := Value.type "list", data := Data.seq ([] : List Value).toArray }).update s.heap.objs.size (Obj.mapSeq fun x => x ++ vs.toArray)).get? s.heap.objs.size = some { cls := Value.type "list", data := Data.seq vs.toArray k } := by
    have h := Heap.get?_update_self (Obj.mapSeq fun x => x ++ vs.toArray) hn rfl
    exact ⟨if (([] : List Value).toArray ++ vs.toArray).size == ([] : List Value).toArray.size then 0 else 1, by rw [h]; simp [Obj.mapSeq]⟩
  refine wpAny_bind (wpAny_load hk ?_)
  exact wpAny_pure (by simpa using go)
/-- sorted of a tuple -/
theorem sorted_tup {ltv : Value → Value → Bool} {Q : Value → Shared → Prop} (sw : SrtO.Swo ltv) (hl : IsTup s.heap l vs.toArray) (hz : vs.length ≤ sizeLine)
    (so : 2 ≤ vs.length → ∀ (h₁ : Heap) (a : Addr), h₁.get? a = some (seqObj "list" vs.toArray 0) → (∀ (b : Addr) (o : Obj), s.heap.get? b = some o → b ≠ a ∧ h₁.get? b = some o) → SrtO.SortableO prog w A.in1.in1 { s with heap := h₁ } a vs ltv)
    (go : ∀ out : List Value, SrtO.Srtd ltv out → SrtO.Stb ltv out vs → Q (.ref (s.heap.objs.size + 1)) { s with heap := sortedAll s.heap vs out.toArray }) :
    wpAny (model prog w) A (call (.builtin "sorted") [.ref l]) Q E s := by
  refine wpAny_call (codeAny_of_tree (wpAny_pure ⟨Code.quiet_builtin _ (by decide +kernel), codeAny_builtin entry_sorted ?_⟩))
  rw [Around.under_plainId plain_sorted]
  show wpAny _ _ (collect (.ref l) >>= _) _ _ _
  refine wpAny_bind (collect_tup hl hz ?_)
  show wpAny _ _ (newList vs >>= _) _ _ _
  refine wpAny_bind (wpAny_newList ?_ hz)
  have h2s : ((s.heap.push { cls := Value.type "list", data := Data.seq ([] : List Value).toArray }).update s.heap.objs.size (Obj.mapSeq fun x => x ++ vs.toArray)).objs.size = s.heap.objs.size + 1 := by
    rw [Heap.size_update, Heap.size_push]
  have e3 : ∀ out, sortedAll s.heap vs out = sortedHeap (((s.heap.push { cls := Value.type "list", data := Data.seq ([] : List Value).toArray }).update s.heap.objs.size (Obj.mapSeq fun x => x ++ vs.toArray)).push { cls := Value.type "list", data := Data.seq vs.toArray }) (s.heap.objs.size + 1) vs out := fun out => rfl
  have old : ∀ (b : Addr) (o : Obj), s.heap.get? b = some o → ((s.heap.push { cls := Value.type "list", data := Data.seq ([] : List Value).toArray }).update s.heap.objs.size (Obj.mapSeq fun x => x ++ vs.toArray)).get? b = some o := fun b o h => by
    have lt := Heap.lt_size h
    rw [Heap.get?_update_ne _ _ _ _ (Nat.ne_of_lt lt)]
    exact Heap.get?_push_of_some _ h
  generalize ((s.heap.push { cls := Value.type "list", data := Data.seq ([] : List Value).toArray }).update s.heap.objs.size (Obj.mapSeq fun x => x ++ vs.toArray)) = h2 at *
  show wpAny _ _ (holding [.ref h2.objs.size] (call (.builtin "list.sort") [.ref h2.objs.size] []) >>= _) _ _ _
  rw [h2s]
  have hget : (h2.push { cls := Value.type "list", data := Data.seq vs.toArray }).get? (s.heap.objs.size + 1) = some (seqObj "list" vs.toArray 0) := by
    have := Heap.get?_push_size h2 (o := { cls := Value.type "list", data := Data.seq vs.toArray }) rfl
    rw [h2s] at this
    exact this
  refine wpAny_bind (wpAny_holding ?_)
  refine wpAny_call_entry PySem.F.slot_list_sort ⟨_, hget, rfl⟩ PySem.F.entry_list_sort ?_ (PySem.F.args_list_sort_1 _)
  have so2 : 2 ≤ vs.length → SrtO.SortableO prog w A.in1.in1 { s with heap := h2.push { cls := Value.type "list", data := Data.seq vs.toArray } } (s.heap.objs.size + 1) vs ltv := fun h => so h _ _ hget fun b o e => ⟨Nat.ne_of_lt (Nat.lt_succ_of_lt (Heap.lt_size e)), Heap.get?_push_of_some _ (old b o e)⟩
  refine SrtO.list_sort_ord (s := { s with heap := h2.push { cls := Value.type "list", data := Data.seq vs.toArray } }) sw hget hz so2 fun out a1 a2 => ?_
  have g := go out a1 a2
  rw [e3] at g
  exact ⟨_, rfl, wpAny_pure g⟩
end
end PP

set_option Elab.async false
set_option linter.all false
set_option maxRecDepth 100000
set_option maxHeartbeats 3000000
namespace PP
open PySem PySem.Spec PyProof.Rows L2
theorem ints_iv : ∀ {vs : List Value} {ns : List Int}, IntsAre vs ns → vs.map SrtO.iv = ns ∧ ∀ v ∈ vs, ∃ n t, v = Value.int n t
  | [], _, .nil => ⟨rfl, fun v h => nomatch h⟩
  | _ :: _, _, .cons n t h => by
    have ih := ints_iv h
    refine ⟨by rw [List.map_cons, ih.1]; rfl, fun v hv => ?_⟩
    rcases List.mem_cons.mp hv with e | hv
    · exact ⟨n, t, e⟩
    · exact ih.2 v hv
theorem ints_of : ∀ {vs : List Value}, (∀ v ∈ vs, ∃ n t, v = Value.int n t) → IntsAre vs (vs.map SrtO.iv)
  | [], _ => .nil
  | v :: vs, h => by
    obtain ⟨n, t, rfl⟩ := h v List.mem_cons_self
    exact .cons n t (ints_of fun u hu => h u (List.mem_cons_of_mem _ hu))
theorem iv_swo : SrtO.Swo SrtO.ltIv := ⟨fun x y h => by unfold SrtO.ltIv at *; simp at *; omega, fun x y z h1 h2 => by unfold SrtO.ltIv at *; simp at *; omega⟩
/-- sorted of a tuple of ints -/
def rSortedIT (K : PySem.W.Frag) : List V → Hp → VK → Prop := fun vs H Q => ∃ (a : Addr) (ns : List Int), vs = [V.ref a] ∧ SqT K H a (ns.map V.int) ∧ ∀ (ns' : List Int) (p : Addr), ns'.Perm ns → ns'.Pairwise (· ≤ ·) → H p = none → Q (.ref p) (upd H p (.lst (ns'.map V.int)))
theorem cr_sortedIT {X : Cx} : CallR X (.builtin "sorted") (rSortedIT X.K) := by
  intro pins s σ H vs us Q I r h
  obtain ⟨a, ns, rfl, hs, q⟩ := h
  obtain ⟨its, rv, hl, hz⟩ := I.tuple hs
  obtain ⟨u, rfl, ru⟩ := vals1 r
  obtain rfl : u = Value.ref a := ru
  have hi := rv.ints
  obtain ⟨i1, i2⟩ := ints_iv hi
  have lz : its.length ≤ sizeLine := by rw [← rv.length]; exact hz
  refine sorted_tup iv_swo hl lz (fun h2 h₁ a' ha kk => SrtO.ints_sortable hi h2) fun out h1 h2 => ?_
  have pm := h2.perm
  have o2 : ∀ v ∈ out, ∃ n t, v = Value.int n t := fun v hv => i2 v (pm.mem_iff.mp hv)
  obtain ⟨ep, he'⟩ := PyProof.Rows.sortedAll_at s.heap its out.toArray
  refine ⟨.ref _, upd H (s.heap.objs.size + 1) (.lst ((out.map SrtO.iv).map V.int)), I.laid (t' := s.toks) (fun _ _ => PyProof.Rows.sortedAll_old) (Nat.le_succ _) ⟨?_, out, ep, vals_ints (ints_of o2), he'⟩, rfl, q _ _ ?_ ?_ (I.hok.fresh (Nat.le_succ _))⟩
  · rw [List.length_map, List.length_map, pm.length_eq]
    exact lz
  · rw [← i1]
    exact pm.map _
  · refine List.pairwise_map.mpr (h1.imp fun {a b} z => ?_)
    unfold SrtO.ltIv at z
    simp at z
    exact z
section
variable {X : Cx} {e : Ent} {M : List Md} {a : Expr} {xs : List Expr} {tA : DA} {pos p : Pos}
def kSortIT : List D → (List D → Prop) → Prop := fun ds Q => ∃ ks : List Int, ds = [.tuple (ks.map PyData.int)] ∧ Q ((srtI ks).map PyData.int)
theorem fe_sortIT (hg : Gl X "sorted") (hm : X.mg "sorted" = none) (ha : AR X e M (a :: xs) tA) (he : starEach (a :: xs) X.env = (false, eval a X.env) :: starEach xs X.env := by rfl) (hpl : (backTo pos (starEach xs X.env)).any (·.1) = false := by rfl) :
    FE X e M (.Call (.Name "sorted" p) (a :: xs) [] pos) (fun ρ Q => tA ρ fun ds => kSortIT ds Q) :=
  ⟨pe_imp (pe_callB cr_sortedIT hg hm (by decide +kernel) ha.pa (he := he) (hpl := hpl)) fun σ H Q ⟨g, F, ρ, sr, q⟩ => ⟨g, F, ρ, sr, ha.mono ρ _ _ (fun ds hd F1 H1 vs s rv => by
    have bs := s.bs sr.bs
    obtain ⟨ks, rfl, hd⟩ := hd
    obtain ⟨v, rfl, r⟩ := rv.one
    obtain ⟨p, vs, rfl, hp, r⟩ := r.tup
    rw [RpL.ints_inv r] at hp
    exact ⟨p, ks, rfl, bs.sub.sqT hp, fun js l h1 h2 hn => by
      have e := srtI_eq h1 h2
      exact hd F1 _ l (js.map V.int) (s.trans (bs.hide hn _)) (s.old hn) (s.sub.none hn) upd_same (by rw [e]; exact RpL.ints _)⟩) q⟩,
    fun ρ Q Q' f q => ha.mono ρ _ _ (fun ds ⟨ks, h1, q⟩ => ⟨ks, h1, f _ q⟩) q⟩
end
end PP

set_option Elab.async false
set_option linter.all false
set_option maxRecDepth 100000
set_option maxHeartbeats 3000000
namespace PP
open PySem PySem.Spec PyProof.Rows L2
/-! ### deep data in a list -/
section
variable {K : PySem.W.Frag} {H : Hp}
mutual
theorem Rp.dp : ∀ (d : D) (v : V), Rp K H d v → d.hasDict = false → Dp K H v d
  | .none, _, h, _ => by have h : _ = V.non := h; subst h; exact .non
  | .bool b, _, h, _ => by have h : _ = V.bl b := h; subst h; exact .bl b
  | .int i, _, h, _ => by have h : _ = V.int i := h; subst h; exact .int i
  | .str x, _, h, _ => by have h : _ = V.str x := h; subst h; exact .str x
  | .list ds, _, ⟨a, xs, e1, h, q⟩, n => by
    subst e1
    exact .lst (.inl (.inl h)) (Rp.dpAll ds xs q (by simpa only [PyData.hasDict] using n))
  | .tuple ds, _, ⟨a, xs, e1, h, q⟩, n => by
    subst e1
    exact .tup h.sq (Rp.dpAll ds xs q (by simpa only [PyData.hasDict] using n))
  | .dict _, _, _, n => by simp [PyData.hasDict] at n
theorem Rp.dpAll : ∀ (ds : List D) (vs : List V), RpL K H ds vs → PyData.hasDictAll ds = false → DpAll K H vs ds
  | [], _, h, _ => by have h : _ = [] := h; subst h; exact .nil
  | d :: ds, _, ⟨x, xs, e1, h1, h2⟩, n => by
    subst e1
    have n' : d.hasDict = false ∧ PyData.hasDictAll ds = false := by simpa only [PyData.hasDictAll, Bool.or_eq_false_iff] using n
    exact .cons (Rp.dp d x h1 n'.1) (Rp.dpAll ds xs h2 n'.2)
end
end
def kInD (f : Bool → Bool) : K2 := fun x y Q => match y with
  | .list ys => (SeqAt.shaped x = true ∧ SeqAt.shaped (.list ys) = true) ∧ Q (.bool (f (ys.any fun z => PyData.eqv z x)))
  | _ => False
theorem kInD_mono {f} : Mono2 (kInD f) := fun x y Q Q' h q => by
  unfold kInD at q ⊢
  split at q
  · exact ⟨q.1, h _ q.2⟩
  · exact q.elim
section
variable {X : Cx} {e : Ent} {M : List Md} {a b : Expr} {ta tb : DT} {p pos tpos : Pos} {elts : List Expr} {kk : Nat}
theorem says_notInD : Says2 X (rNotInD X.K) (kInD not) := by
  intro g F H dx dy x y Qv q bs rx ry hk k
  unfold kInD at hk
  split at hk
  · obtain ⟨⟨s1, s2⟩, hk⟩ := hk
    exact ⟨dx, _, (rx.now bs).dp _ _ (shaped_noDict s1), (ry.now bs).dp _ _ (shaped_noDict s2), s1, s2, k _ F H _ hk bs.refl rfl⟩
  · exact hk.elim
theorem dc_notInD (hu : X.A.units + 65 < cLine) (ha : RE X e M a ta) (hb : RE X e M b tb) (hm : behindInMarks .NotIn b = false := by rfl) : DC X e M (.Compare a [.NotIn] [b] pos) (tTst (t2 (kInD not) ta tb)) := dc_cmp (op_notInD hu) says_notInD kInD_mono ha hb hm
end
end PP

set_option Elab.async false
set_option linter.all false
set_option maxRecDepth 100000
set_option maxHeartbeats 3000000
namespace PP
open PySem PySem.Spec PyProof.Rows L2
section
variable {X : Cx} {e : Ent} {M : List Md} {st : Stmt} {x : Expr} {t1 t2 : DT} {pos : Pos}
/-- a statement that is never come to -/
theorem ds_never : DS X e M st (fun _ _ => False) := ⟨⟨fun pins s σ H D I h => by
  obtain ⟨g, F, ρ, d, sr, q, h⟩ := h
  exact q.elim⟩, fun _ _ _ _ q => q.elim⟩
/-- two ways to read one word -/
theorem de_alt (h1 : DE X e M x t1) (h2 : DE X e M x t2) : DE X e M x (fun ρ Q => t1 ρ Q ∨ t2 ρ Q) :=
  ⟨⟨fun pins s σ H Q I h => by
    obtain ⟨g, F, ρ, sr, q⟩ := h
    rcases q with q | q
    · exact h1.pe.run pins s σ H Q I ⟨g, F, ρ, sr, q⟩
    · exact h2.pe.run pins s σ H Q I ⟨g, F, ρ, sr, q⟩⟩, fun ρ Q Q' f q => q.imp (h1.mono ρ Q Q' f) (h2.mono ρ Q Q' f)⟩
end
/-! ### dict comprehensions -/
def compDD (tg : DG) (tt : DB) (tk tv : DT) (Q : List (D × D) → Prop) (ρ : En) : List D → List (D × D) → Prop
  | [], acc => Q acc
  | x :: xs, acc => tg x ρ fun ρ' => tt ρ' fun b => if b = true then tk ρ' fun k => tv ρ' fun v => (match kOf k with | some c => compDD tg tt tk tv Q ρ xs (dPut acc c v) | none => False) else compDD tg tt tk tv Q ρ xs acc
theorem compDD_mono {tg : DG} {tt : DB} {tk tv : DT} (hg : MonoG tg) (ht : Mono tt) (hk : Mono tk) (hv : Mono tv) {Q Q' : List (D × D) → Prop} (f : ∀ x, Q x → Q' x) (ρ : En) : ∀ xs acc, compDD tg tt tk tv Q ρ xs acc → compDD tg tt tk tv Q' ρ xs acc
  | [], acc, q => f _ q
  | x :: xs, acc, q => hg _ _ _ _ (fun ρ' q => ht _ _ _ (fun b q => by
    cases b with
    | true => exact hk _ _ _ (fun y q => hv _ _ _ (fun z q => by
        split at q
        · exact compDD_mono hg ht hk hv f ρ xs _ q
        · exact q.elim) q) q
    | false => exact compDD_mono hg ht hk hv f ρ xs _ q) q) q
def tDcmp (tI : DA) (tg : DG) (tt : DB) (tk tv : DT) (vs : List Nat) : DT := fun ρ Q => tI ρ fun ds => ds.length ≤ sizeLine ∧ compDD tg tt tk tv (fun ks => Q (.dict ks)) (wipeD ρ vs) ds []
theorem dPut_le {ks : List (D × D)} {c : Key} {d : D} : (dPut ks c d).length ≤ ks.length + 1 := by
  unfold dPut
  split <;> simp
section
variable {X : Cx} {e : Ent} {M : List Md} {pos : Pos}
theorem dcomp_core {tI : DA} {tg : DG} {tt : DB} {tk tv : DT} {vs : List Nat} (mI : Mono tI) (mg : MonoG tg) (mt : Mono tt) (mk : Mono tk) (mv : Mono tv) : ∀ σ H Q, rdE X.K e M (tDcmp tI tg tt tk tv vs) σ H Q →
    tDc (rdI X.K e M tI) (rdTg X.K e M vs tg) (rdB X.K e M tt) (rdE X.K e M tk) (rdE X.K e M tv) vs σ H Q := fun σ H Q ⟨g, F, ρ, s, q⟩ => ⟨g, F, ρ, s, mI ρ _ _ (fun ds hd F0 H0 J t0 w D hD => by
  obtain ⟨hz, hd⟩ := hd
  have bs0 := t0.bs s.bs
  generalize hQ : (fun (ks : List (PyData × PyData)) => ∀ F' H' v, Stp g F H F' H' → Rp X.K F' (.dict ks) v → Q v H') = QQ at hd
  refine ⟨fun i m H1 => ∃ F1 acc ps, Stp g F0 H0 F1 H1 ∧ F1 D = none ∧ H1 D = some (.dK ps) ∧ RpK X.K F1 acc ps ∧ acc.length ≤ i ∧ i ≤ ds.length ∧ m = ds.length - i ∧
    compDD tg tt tk tv QQ (wipeD ρ vs) (ds.drop i) acc,
    ⟨_, F0, [], [], bs0.hide hD _, bs0.sub.none hD, upd_same, rfl, Nat.zero_le _, Nat.zero_le _, rfl, hd⟩, ?_⟩
  rintro i m H1 ⟨F1, acc, ps, t1, f1, h1, r1, la, hi1, rfl, q1⟩
  have t01 := t0.trans t1
  have s1 := (s.step t01).wipe vs
  have nD : ¬ g.mem D := fun z => g.dom _ bs0.ok D z hD
  obtain ⟨w1, w2⟩ := w g F1 H1 s1.bs t1.mono i
  by_cases hlt : i < ds.length
  · obtain ⟨go, yl⟩ := w1 hlt
    have ed : ds.drop i = ds[i] :: ds.drop (i + 1) := List.drop_eq_getElem_cons hlt
    rw [ed] at q1
    refine .inr ⟨go, fun H' => ∃ F2 acc ps, Stp g F0 H0 F2 H' ∧ F2 D = none ∧ H' D = some (.dK ps) ∧ RpK X.K F2 acc ps ∧ acc.length ≤ i + 1 ∧ compDD tg tt tk tv QQ (wipeD ρ vs) (ds.drop (i + 1)) acc, ?_, ?_⟩
    · rintro H' ⟨F2, acc, ps, a1, a2, a3, a4, a5, a6⟩
      exact ⟨_, by omega, F2, acc, ps, a1, a2, a3, a4, a5, hlt, rfl, a6⟩
    · intro x H2 hy
      obtain ⟨F2, t2, r2⟩ := yl x H2 hy
      refine ⟨g, F2, _, ds[i], s1.step t2, r2 _ (by simp [hlt]), mg _ _ _ _ (fun ρ' hq F3 H3 σ3 t3 s3 sm => ?_) q1⟩
      refine ⟨wipe_same sm, g, F3, ρ', s3, mt _ _ _ (fun b hb F4 H4 t4 => ?_) hq⟩
      have t24 := (t2.trans t3).trans t4
      have h4 : H4 D = some (.dK ps) := t24.keep _ _ h1 nD
      have f4 : F4 D = none := t24.no h1 f1
      cases b with
      | true =>
        refine L2.iteT ?_
        have hb : tk ρ' fun k => tv ρ' fun v => (match kOf k with | some c => compDD tg tt tk tv QQ (wipeD ρ vs) (ds.drop (i + 1)) (dPut acc c v) | none => False) := hb
        refine ⟨g, F4, ρ', s3.step t4, mk _ _ _ (fun y hy F5 H5 u t5 r5 => ?_) hb⟩
        refine ⟨g, F5, ρ', (s3.step t4).step t5, mv _ _ _ (fun z hz F6 H6 v t6 r6 => ?_) hy⟩
        split at hz
        · rename_i c hc
          have t26 := (t24.trans t5).trans t6
          have h6 : H6 D = some (.dK ps) := t26.keep _ _ h1 nD
          have f6 : F6 D = none := t26.no h1 f1
          have ll := r1.len
          have ek : u = kV c := (show RdR X.K g F5 H5 y u from .inl r5).key hc
          exact ⟨ps, c, ek, h6, by omega, F6, dPut acc c z, _, (t1.trans t26).poke hD f6 nD _, f6, upd_same, (RpK.mono t26.mono r1).put c r6, Nat.le_trans dPut_le (by omega), hz⟩
        · exact hz.elim
      | false =>
        refine L2.iteF ?_
        have hb : compDD tg tt tk tv QQ (wipeD ρ vs) (ds.drop (i + 1)) acc := hb
        exact ⟨F4, acc, ps, t1.trans t24, f4, h4, RpK.mono t24.mono r1, by omega, hb⟩
  · have e2 : i = ds.length := by omega
    subst e2
    rw [List.drop_length, ← hQ] at q1
    have fz : Stp g F H (upd F1 D (.dK ps)) H1 := t01.freeze (t0.old hD) f1 h1
    exact .inl ⟨w2 (Nat.le_refl _), q1 _ H1 (.ref D) fz ⟨D, ps, rfl, upd_same, RpK.mono (.new f1) r1⟩⟩) q⟩
theorem tDcmp_mono {tI : DA} {tg : DG} {tt : DB} {tk tv : DT} {vs : List Nat} (mI : Mono tI) (mg : MonoG tg) (mt : Mono tt) (mk : Mono tk) (mv : Mono tv) : Mono (tDcmp tI tg tt tk tv vs) := fun ρ Q Q' f q =>
  mI ρ _ _ (fun ds q => ⟨q.1, compDD_mono mg mt mk mv (fun ks => f _) _ _ _ q.2⟩) q
theorem de_dcomp {kx vx tg iter : Expr} {ifs : List Expr} {scope : Scope} {own : List (Str × Nat)} {tI : DA} {g : DG} {tt : DB} {tk tv : DT} (hc : X.calm = true) (hN : X.N.Nodup) (hi : DI X e M tg iter tI) (ok : BlkOk X.N X.env.scope scope own)
    (hg : ∀ (s : Shared) (H : Hp) (C : Addr) (cl : List (Str × Addr)) (fp : List Addr), GT (X.blk s H scope (compEnvC scope cl C X.env) fp) e M (own.map (·.2)) tg g)
    (ht : ∀ (s : Shared) (H : Hp) (C : Addr) (cl : List (Str × Addr)) (fp : List Addr), DTs (X.blk s H scope (compEnvC scope cl C X.env) fp) e M ifs tt)
    (hk : ∀ (s : Shared) (H : Hp) (C : Addr) (cl : List (Str × Addr)) (fp : List Addr), DE (X.blk s H scope (compEnvC scope cl C X.env) fp) e M kx tk)
    (hv : ∀ (s : Shared) (H : Hp) (C : Addr) (cl : List (Str × Addr)) (fp : List Addr), DE (X.blk s H scope (compEnvC scope cl C X.env) fp) e M vx tv) (hs : ∀ x, foldedSetIterable iter X.env x = pure x := by intro _; rfl) :
    DE X e M (.DictComp kx vx [⟨tg, iter, ifs, 0⟩] scope pos) (tDcmp tI g tt tk tv (own.map (·.2))) :=
  have mg := (hg ⟨X.s_0.heap, X.s_0.gens, X.s_0.drawn, X.s_0.toks, X.s_0.os⟩ X.H_0 0 [] []).mono
  have mt := (ht ⟨X.s_0.heap, X.s_0.gens, X.s_0.drawn, X.s_0.toks, X.s_0.os⟩ X.H_0 0 [] []).mono
  have mk := (hk ⟨X.s_0.heap, X.s_0.gens, X.s_0.drawn, X.s_0.toks, X.s_0.os⟩ X.H_0 0 [] []).mono
  have mv := (hv ⟨X.s_0.heap, X.s_0.gens, X.s_0.drawn, X.s_0.toks, X.s_0.os⟩ X.H_0 0 [] []).mono
  ⟨pe_imp (pe_dc hc hN hi.pi ok (fun s H C cl fp => (hg s H C cl fp).pg) (fun s H C cl fp => (ht s H C cl fp).pt) (fun s H C cl fp => (hk s H C cl fp).pe) (fun s H C cl fp => (hv s H C cl fp).pe) hs) (dcomp_core hi.mono mg mt mk mv), tDcmp_mono hi.mono mg mt mk mv⟩
/-- len of a dict -/
def kLenD : KC := fun ds Q => match ds with | [.dict ks] => Q (.int (ks.length : Nat)) | _ => False
theorem kLenD_mono : MonoC kLenD := fun ds Q Q' f q => by
  unfold kLenD at q ⊢
  split at q
  · exact f _ q
  · exact q.elim
theorem says_lenD : SaysC X (fun xs H Q => ∃ a kvs, xs = [V.ref a] ∧ H a = some (.dK kvs) ∧ Q (.int kvs.length) H) kLenD := by
  intro g F H ds vs Qv q bs rv hk k
  unfold kLenD at hk
  split at hk
  · obtain ⟨v, rfl, r⟩ := rv.one
    obtain ⟨p, ps, rfl, hp, m, rl⟩ := r.dct bs
    have := rl.len
    exact ⟨p, ps, rfl, hp, by rw [this]; exact k _ F H _ hk bs.refl rfl⟩
  · exact hk.elim
theorem de_lenD {a : Expr} {xs : List Expr} {tA : DA} {p : Pos} (hg : Gl X "len") (hm : X.mg "len" = none) (ha : AR X e M (a :: xs) tA) (he : starEach (a :: xs) X.env = (false, eval a X.env) :: starEach xs X.env := by rfl) (hpl : (backTo pos (starEach xs X.env)).any (·.1) = false := by rfl) :
    DE X e M (.Call (.Name "len" p) (a :: xs) [] pos) (tCl kLenD tA) := de_callB call_lenD says_lenD kLenD_mono hg hm PySem.boot_len ha (he := he) (hpl := hpl)
end
end PP

set_option Elab.async false
set_option linter.all false
set_option maxRecDepth 100000
set_option maxHeartbeats 1000000
namespace PP
open PySem PySem.Spec PyProof.Rows L2

/-! ### a list of lists of ours -/
section
variable {F H F' H' eH : Hp} {g : Rg} {R : List D → List V → Prop}
theorem InnerOk.len : ∀ {as : List Addr} {dss : List (List D)}, InnerOk F H g eH R as dss → dss.length = as.length
  | [], _, h => by have h : _ = [] := h; subst h; rfl
  | _ :: _, _, ⟨ds, dr, vs, e, _, _, _, _, _, r⟩ => by subst e; simp [InnerOk.len r]
theorem InnerOk.get : ∀ {as : List Addr} {dss : List (List D)} {i : Nat} {a : Addr}, InnerOk F H g eH R as dss → as[i]? = some a → ∃ ds vs, dss[i]? = some ds ∧ H a = some (.lst vs) ∧ R ds vs ∧ F a = none ∧ eH a = none ∧ ¬ g.mem a
  | [], _, _, _, _, q => by simp at q
  | _ :: _, _, 0, _, ⟨ds, dr, vs, e, h1, h2, h3, h4, h5, _⟩, q => by
    subst e; simp at q; subst q; exact ⟨ds, vs, rfl, h1, h2, h3, h4, h5⟩
  | _ :: _, _, i + 1, _, ⟨ds, dr, vs, e, _, _, _, _, _, r⟩, q => by
    subst e
    obtain ⟨ds', vs', h⟩ := InnerOk.get (i := i) r (by simpa using q)
    exact ⟨ds', vs', by simpa using h.1, h.2⟩
theorem InnerOk.there {as : List Addr} {dss : List (List D)} (h : InnerOk F H g eH R as dss) {a : Addr} (m : a ∈ as) : H a ≠ none := by
  obtain ⟨i, hi⟩ := List.getElem?_of_mem m
  obtain ⟨_, _, _, q, _⟩ := h.get hi
  rw [q]; simp
theorem InnerOk.snoc : ∀ {as : List Addr} {dss : List (List D)} {p : Addr} {ds : List D} {vs : List V}, InnerOk F H g eH R as dss → H p = some (.lst vs) → R ds vs → F p = none → eH p = none → ¬ g.mem p → InnerOk F H g eH R (as ++ [p]) (dss ++ [ds])
  | [], _, _, _, vs, h, h1, h2, h3, h4, h5 => by have h : _ = [] := h; subst h; exact ⟨_, [], vs, rfl, h1, h2, h3, h4, h5, rfl⟩
  | _ :: _, _, _, _, _, ⟨ds, dr, vs, e, a1, a2, a3, a4, a5, r⟩, h1, h2, h3, h4, h5 => by subst e; exact ⟨ds, dr ++ [_], vs, rfl, a1, a2, a3, a4, a5, InnerOk.snoc r h1 h2 h3 h4 h5⟩
theorem InnerOk.poke {p : Addr} {o : HO} : ∀ {as : List Addr} {dss : List (List D)}, InnerOk F H g eH R as dss → p ∉ as → InnerOk F (upd H p o) g eH R as dss
  | [], _, h, _ => h
  | a :: _, _, ⟨ds, dr, vs, e, a1, a2, a3, a4, a5, r⟩, n => ⟨ds, dr, vs, e, by rw [upd_ne fun z => n (by rw [z]; exact List.mem_cons_self)]; exact a1, a2, a3, a4, a5, InnerOk.poke r fun z => n (List.mem_cons_of_mem _ z)⟩
theorem InnerOk.set {p : Addr} {vs' : List V} {ds' : List D} : ∀ {as : List Addr} {dss : List (List D)} {j : Nat}, InnerOk F H g eH R as dss → as.Nodup → as[j]? = some p → R ds' vs' → InnerOk F (upd H p (.lst vs')) g eH R as (dss.set j ds')
  | [], _, _, _, _, q, _ => by simp at q
  | a :: as, _, 0, ⟨ds, dr, vs, e, a1, a2, a3, a4, a5, r⟩, n, q, h => by
    subst e; simp at q; subst q
    exact ⟨ds', dr, vs', rfl, upd_same, h, a3, a4, a5, r.poke (List.nodup_cons.mp n).1⟩
  | a :: as, _, j + 1, ⟨ds, dr, vs, e, a1, a2, a3, a4, a5, r⟩, n, q, h => by
    subst e
    have q' : as[j]? = some p := by simpa using q
    have ne : a ≠ p := fun z => (List.nodup_cons.mp n).1 (by rw [z]; exact List.mem_of_getElem? q')
    exact ⟨ds, dr.set j ds', vs, rfl, by rw [upd_ne ne]; exact a1, a2, a3, a4, a5, InnerOk.set r (List.nodup_cons.mp n).2 q' h⟩
end
theorem InnerOk.low {K : PySem.W.Frag} {F F' H eH : Hp} {g : Rg} (l : Le F F') : ∀ {as : List Addr} {dss : List (List D)}, InnerOk F H g eH (RpL K F) as dss → (∀ a ∈ as, F' a = none) → InnerOk F' H g eH (RpL K F') as dss
  | [], _, h, _ => h
  | a :: _, _, ⟨ds, dr, vs, e, a1, a2, a3, a4, a5, r⟩, n => ⟨ds, dr, vs, e, a1, a2.mono l, n a List.mem_cons_self, a4, a5, InnerOk.low l r fun b hb => n b (List.mem_cons_of_mem _ hb)⟩
/-- all of them are frozen -/
theorem InnerOk.freeze {K : PySem.W.Frag} {g : Rg} {F0 H0 : Hp} : ∀ {as : List Addr} {dss : List (List D)} {F H : Hp} {eH : Hp}, Stp g F0 H0 F H → (∀ a ∈ as, H0 a = none) → InnerOk F H g eH (RpL K F) as dss → as.Nodup →
    ∃ F', Stp g F0 H0 F' H ∧ Le F F' ∧ RpL K F' (dss.map PyData.list) (as.map V.ref) ∧ ∀ b, b ∉ as → F' b = F b
  | [], _, F, H, _, s, _, h, _ => by have h : _ = [] := h; subst h; exact ⟨F, s, .refl _, rfl, fun _ _ => rfl⟩
  | a :: as, _, F, H, _, s, n0, ⟨ds, dr, vs, e, a1, a2, a3, a4, a5, r⟩, n => by
    subst e
    have nd := List.nodup_cons.mp n
    have l1 : Le F (upd F a (.lst vs)) := .new a3
    have r' : InnerOk (upd F a (.lst vs)) H g _ (RpL K (upd F a (.lst vs))) as dr := r.low l1 fun b hb => by
      rw [upd_ne fun z => nd.1 (by rw [← z]; exact hb)]
      obtain ⟨i, hi⟩ := List.getElem?_of_mem hb
      obtain ⟨_, _, _, _, _, q, _⟩ := r.get hi
      exact q
    obtain ⟨F', s', l', rl, hb⟩ := InnerOk.freeze (s.freeze (n0 a List.mem_cons_self) a3 a1) (fun b hb => n0 b (List.mem_cons_of_mem _ hb)) r' nd.2
    refine ⟨F', s', l1.trans l', ⟨.ref a, as.map V.ref, rfl, ⟨a, vs, rfl, l' _ _ upd_same, (a2.mono l1).mono l'⟩, rl⟩, fun b nb => ?_⟩
    rw [hb b fun z => nb (List.mem_cons_of_mem _ z), upd_ne fun z => nb (by rw [z]; exact List.mem_cons_self)]

section
variable {K : PySem.W.Frag} {e : Ent} {M : List Md} {g : Rg} {F H : Hp} {σ : L2.St} {ρ : En}
theorem SR.ooAt (s : SR K e M g F H σ ρ) {i : Nat} {d : D} (h : gt ρ i = some d) (hm : md M i = .oo) :
    ∃ p as dss, σ[i]? = some (some (.ref p)) ∧ d = .list (dss.map PyData.list) ∧ H p = some (.lst (as.map V.ref)) ∧ InnerOk F H g e.H (RpL K F) as dss ∧ F p = none ∧ e.H p = none ∧ ¬ g.mem p ∧ (p :: as).Nodup := by
  obtain ⟨v, h1, h2⟩ := s.slot i d h
  rw [hm] at h2
  obtain ⟨p, as, dss, e1, r⟩ := h2
  subst e1
  exact ⟨p, as, dss, h1, r⟩
/-- one of the lists changes -/
theorem SR.pokeI (s : SR K e M g F H σ ρ) {i : Nat} {d d' : D} {a p : Addr} {o : HO} (hm : md M i = .oo) (h : gt ρ i = some d) (hσ : σ[i]? = some (some (.ref p))) (f : F a = none) (n : e.H a = none) (m : ¬ g.mem a)
    (ok : SlotOk K e g F (upd H a o) (md M i) d' (.ref p)) (fa : foot H (md M i) (.ref p) a) (fb : ∀ q, foot (upd H a o) (md M i) (.ref p) q → foot H (md M i) (.ref p) q) : SR K e M g F (upd H a o) σ (sv ρ i (some d')) := s.pokeG h hσ fa ok fb
end

def compL (tg : DG) (tt : DB) (te : DA) (Q : List (List D) → Prop) (ρ : En) : List D → List (List D) → Prop
  | [], acc => Q acc
  | x :: xs, acc => tg x ρ fun ρ' => tt ρ' fun b => if b = true then te ρ' fun y => compL tg tt te Q ρ xs (acc ++ [y]) else compL tg tt te Q ρ xs acc
theorem compL_mono {tg : DG} {tt : DB} {te : DA} (hg : MonoG tg) (ht : Mono tt) (he : Mono te) {Q Q' : List (List D) → Prop} (f : ∀ x, Q x → Q' x) (ρ : En) : ∀ xs acc, compL tg tt te Q ρ xs acc → compL tg tt te Q' ρ xs acc
  | [], acc, q => f _ q
  | x :: xs, acc, q => hg _ _ _ _ (fun ρ' q => ht _ _ _ (fun b q => by
    cases b with
    | true => exact he _ _ _ (fun y q => compL_mono hg ht he f ρ xs _ q) q
    | false => exact compL_mono hg ht he f ρ xs _ q) q) q
def rdL (K : PySem.W.Frag) (e : Ent) (M : List Md) (t : En → (List (List D) → Prop) → Prop) : TE := fun σ H Q => ∃ g F ρ, SR K e M g F H σ ρ ∧ t ρ fun dss => ∀ F' H' p as, Stp g F H F' H' → H p = none → F' p = none → H' p = some (.lst (as.map V.ref)) →
  InnerOk F' H' g e.H (RpL K F') as dss → (p :: as).Nodup → (∀ a ∈ as, H a = none) → Q (.ref p) H'
def tCompL (tI : DA) (tg : DG) (tt : DB) (te : DA) (vs : List Nat) : En → (List (List D) → Prop) → Prop := fun ρ Q => tI ρ fun ds => ds.length ≤ sizeLine ∧ compL tg tt te Q (wipeD ρ vs) ds []
section
variable {X : Cx} {e : Ent} {M : List Md} {pos : Pos}
theorem compL_core {tI : DA} {tg : DG} {tt : DB} {te : DA} {vs : List Nat} (mI : Mono tI) (mg : MonoG tg) (mt : Mono tt) (me : Mono te) : ∀ σ H Q, rdL X.K e M (tCompL tI tg tt te vs) σ H Q →
    tLc (rdI X.K e M tI) (rdTg X.K e M vs tg) (rdB X.K e M tt) (rdF X.K e M te) vs σ H Q := fun σ H Q ⟨g, F, ρ, s, q⟩ => ⟨g, F, ρ, s, mI ρ _ _ (fun ds hd F0 H0 J t0 w D hD => by
  obtain ⟨hz, hd⟩ := hd
  have bs0 := t0.bs s.bs
  generalize hQ : (fun (xs : List (List PyData)) => ∀ F' H' p as, Stp g F H F' H' → H p = none → F' p = none → H' p = some (.lst (as.map V.ref)) → InnerOk F' H' g e.H (RpL X.K F') as xs → (p :: as).Nodup → (∀ a ∈ as, H a = none) → Q (.ref p) H') = QQ at hd
  refine ⟨fun i m H1 => ∃ F1 acc as, Stp g F0 H0 F1 H1 ∧ F1 D = none ∧ H1 D = some (.lst (as.map V.ref)) ∧ InnerOk F1 H1 g e.H (RpL X.K F1) as acc ∧ (D :: as).Nodup ∧ (∀ a ∈ as, H a = none) ∧ acc.length ≤ i ∧ i ≤ ds.length ∧ m = ds.length - i ∧
    compL tg tt te QQ (wipeD ρ vs) (ds.drop i) acc,
    ⟨_, F0, [], [], bs0.hide hD _, bs0.sub.none hD, upd_same, rfl, by simp, (fun a ha => nomatch ha), Nat.zero_le _, Nat.zero_le _, rfl, hd⟩, ?_⟩
  rintro i m H1 ⟨F1, acc, as, t1, f1, h1, r1, nd1, fr1, la, hi1, rfl, q1⟩
  have t01 := t0.trans t1
  have s0 := s.step t01
  have s1 := s0.wipe vs
  have nD : ¬ g.mem D := fun z => g.dom _ bs0.ok D z hD
  obtain ⟨w1, w2⟩ := w g F1 H1 s1.bs t1.mono i
  by_cases hlt : i < ds.length
  · obtain ⟨go, yl⟩ := w1 hlt
    have ed : ds.drop i = ds[i] :: ds.drop (i + 1) := List.drop_eq_getElem_cons hlt
    rw [ed] at q1
    refine .inr ⟨go, fun H' => ∃ F2 acc as, Stp g F0 H0 F2 H' ∧ F2 D = none ∧ H' D = some (.lst (as.map V.ref)) ∧ InnerOk F2 H' g e.H (RpL X.K F2) as acc ∧ (D :: as).Nodup ∧ (∀ a ∈ as, H a = none) ∧ acc.length ≤ i + 1 ∧ compL tg tt te QQ (wipeD ρ vs) (ds.drop (i + 1)) acc, ?_, ?_⟩
    · rintro H' ⟨F2, acc, as, a1, a2, a3, a4, a4', a4f, a5, a6⟩
      exact ⟨_, by omega, F2, acc, as, a1, a2, a3, a4, a4', a4f, a5, hlt, rfl, a6⟩
    · intro x H2 hy
      obtain ⟨F2, t2, r2⟩ := yl x H2 hy
      refine ⟨g, F2, _, ds[i], s1.step t2, r2 _ (by simp [hlt]), mg _ _ _ _ (fun ρ' hq F3 H3 σ3 t3 s3 sm => ?_) q1⟩
      refine ⟨wipe_same sm, g, F3, ρ', s3, mt _ _ _ (fun b hb F4 H4 t4 => ?_) hq⟩
      have t24 := (t2.trans t3).trans t4
      have h4 : H4 D = some (.lst (as.map V.ref)) := t24.keep _ _ h1 nD
      have f4 : F4 D = none := t24.no h1 f1
      have r4 := r1.step t24
      cases b with
      | true =>
        refine L2.iteT ?_
        have hb : te ρ' fun y => compL tg tt te QQ (wipeD ρ vs) (ds.drop (i + 1)) (acc ++ [y]) := hb
        refine ⟨g, F4, ρ', s3.step t4, me _ _ _ (fun y hy F5 H5 p vs5 t5 p0 p1 p2 p3 => ?_) hb⟩
        have t25 := t24.trans t5
        have h5 : H5 D = some (.lst (as.map V.ref)) := t25.keep _ _ h1 nD
        have f5 : F5 D = none := t25.no h1 f1
        have ll := r1.len
        have pe : e.H p = none := (s3.step t4).old p0
        have pm : ¬ g.mem p := (s3.step t4).nmem p0
        have pD : D ≠ p := ne_of_none h4 p0
        have pas : p ∉ as := fun z => r4.there z p0
        have ndD := List.nodup_cons.mp nd1
        refine ⟨as.map V.ref, h5, by rw [List.length_map]; omega, F5, acc ++ [y], as ++ [p], (t1.trans t25).poke hD f5 nD _, f5, by rw [upd_same]; simp, (((r1.step t25).snoc p2 p3 p1 pe pm).poke ?_), ?_, (fun a ha => by
          rcases List.mem_append.mp ha with ha | ha
          · exact fr1 a ha
          · rw [List.mem_singleton.mp ha]; exact (t01.trans t24).old p0), by simp; omega, hy⟩
        · intro z
          rcases List.mem_append.mp z with z | z
          · exact ndD.1 z
          · exact pD (List.mem_singleton.mp z)
        · rw [← List.cons_append, List.nodup_append]
          refine ⟨nd1, by simp, fun a ha b hb => ?_⟩
          rw [List.mem_singleton] at hb
          subst hb
          rcases List.mem_cons.mp ha with z | z
          · rw [z]; exact pD
          · exact fun q => pas (by rw [← q]; exact z)
      | false =>
        refine L2.iteF ?_
        have hb : compL tg tt te QQ (wipeD ρ vs) (ds.drop (i + 1)) acc := hb
        exact ⟨F4, acc, as, t1.trans t24, f4, h4, r4, nd1, fr1, by omega, hb⟩
  · have e2 : i = ds.length := by omega
    subst e2
    rw [List.drop_length, ← hQ] at q1
    exact .inl ⟨w2 (Nat.le_refl _), q1 F1 H1 D as t01 (t0.old hD) f1 h1 r1 nd1 fr1⟩) q⟩
theorem tCompL_mono {tI : DA} {tg : DG} {tt : DB} {te : DA} {vs : List Nat} (mI : Mono tI) (mg : MonoG tg) (mt : Mono tt) (me : Mono te) : Mono (tCompL tI tg tt te vs) := fun ρ Q Q' f q =>
  mI ρ _ _ (fun ds q => ⟨q.1, compL_mono mg mt me f _ _ _ q.2⟩) q
/-- name = [a new list for ..] -/
theorem ds_lol {i : Nat} {y : Str} {py spos : Pos} {elt tg iter : Expr} {ifs : List Expr} {scope : Scope} {own : List (Str × Nat)} {tI : DA} {g : DG} {tt : DB} {te : DA} (hc : X.calm = true) (hN : X.N.Nodup) (hy : X.N[i]? = some y) (hyl : X.env.scope.names.lookup y = some .local)
    (hsw : swapsWith (.ListComp elt [⟨tg, iter, ifs, 0⟩] scope pos) (some (.Name y py)) spos.line X.env = pure true) (hi : DI X e M tg iter tI) (ok : BlkOk X.N X.env.scope scope own)
    (hg : ∀ (s : Shared) (H : Hp) (C : Addr) (cl : List (Str × Addr)) (fp : List Addr), GT (X.blk s H scope (compEnvC scope cl C X.env) fp) e M (own.map (·.2)) tg g)
    (ht : ∀ (s : Shared) (H : Hp) (C : Addr) (cl : List (Str × Addr)) (fp : List Addr), DTs (X.blk s H scope (compEnvC scope cl C X.env) fp) e M ifs tt)
    (he : ∀ (s : Shared) (H : Hp) (C : Addr) (cl : List (Str × Addr)) (fp : List Addr), FE (X.blk s H scope (compEnvC scope cl C X.env) fp) e M elt te) (hm : md M i = .oo := by rfl) (hs : ∀ x, foldedSetIterable iter X.env x = pure x := by intro _; rfl) :
    DS X e M (.Assign [.Name y py] (.ListComp elt [⟨tg, iter, ifs, 0⟩] scope pos) spos) (fun d ρ => tCompL tI g tt te (own.map (·.2)) ρ fun xs => d.nx (sv ρ i (some (.list (xs.map PyData.list))))) :=
  have mg := (hg ⟨X.s_0.heap, X.s_0.gens, X.s_0.drawn, X.s_0.toks, X.s_0.os⟩ X.H_0 0 [] []).mono
  have mt := (ht ⟨X.s_0.heap, X.s_0.gens, X.s_0.drawn, X.s_0.toks, X.s_0.os⟩ X.H_0 0 [] []).mono
  have me := (he ⟨X.s_0.heap, X.s_0.gens, X.s_0.drawn, X.s_0.toks, X.s_0.os⟩ X.H_0 0 [] []).mono
  ⟨ps_imp (ps_setLc hc hN hy hyl hsw hi.pi ok (fun s H C cl fp => (hg s H C cl fp).pg) (fun s H C cl fp => (ht s H C cl fp).pt) (fun s H C cl fp => (he s H C cl fp).pe) hs) fun E σ H ⟨gg, F, ρ, d, s, q, h⟩ =>
    compL_core hi.mono mg mt me σ H _ ⟨gg, F, ρ, s, tCompL_mono hi.mono mg mt me ρ _ _ (fun xs hx F' H' p as t hp hf hh r nd hfr =>
      h.nx gg F' H' _ _ (s.setmF t (fun q hq => by
        rw [hm] at hq
        obtain ⟨a, ea, hq⟩ := hq
        cases ea
        rcases hq with hq | ⟨vs, hv, hq⟩
        · rw [hq]; exact hp
        · rw [hh] at hv
          cases hv
          obtain ⟨b, hb, eb⟩ := List.mem_map.mp hq
          cases eb
          exact hfr _ hb) (by rw [hm]; exact ⟨p, as, xs, rfl, rfl, hh, r, hf, s.old hp, s.nmem hp, nd⟩)) hx) q⟩,
    fun d d' ρ j q => tCompL_mono hi.mono mg mt me ρ _ _ (fun _ q => j.nx _ q) q⟩
end
section
variable {X : Cx} {e : Ent} {M : List Md} {a b : Expr} {ta tb : DT} {pos p1 p2 p3 : Pos}
/-- x[k], one of the lists -/
def tOoI (i : Nat) (tb : DT) : DT := fun ρ Q => match gt ρ i with | some (.list xs) => tb ρ fun k => ∃ (j : Nat) (ys : List D), k = .int (j : Int) ∧ xs[j]? = some (.list ys) ∧ Q (.list ys) | _ => False
theorem tOoI_mono {i : Nat} (m : Mono tb) : Mono (tOoI i tb) := fun ρ Q Q' f q => by
  unfold tOoI at q ⊢
  split at q
  · exact m ρ _ _ (fun k ⟨j, ys, h1, h2, h3⟩ => ⟨j, ys, h1, h2, f _ h3⟩) q
  · exact q.elim
theorem oo_at {dss : List (List D)} {j : Nat} {ys : List D} (h : (dss.map PyData.list)[j]? = some (.list ys)) : dss[j]? = some ys := by
  rw [List.getElem?_map] at h
  cases q : dss[j]? with
  | none => rw [q] at h; cases h
  | some z => rw [q] at h; cases h; rfl
theorem ooi (i : Nat) {y : Str} (hb : RE X e M b tb) (hp : PlainIx b) (hN : X.N[i]? = some y := by rfl) (hv : Vis X.env.scope y := by first | exact Or.inl rfl | exact Or.inr (Or.inl rfl) | exact Or.inr (Or.inr rfl)) (hm : md M i = .oo := by rfl)
    (hd : (y == ("__debug__" : Str)) = false := by decide) (hcd : (y == ("__classdict__" : Str)) = false := by decide) :
    RE X e M (.Subscript (.Name y p1) b pos) (tOoI i tb) :=
  ⟨pe_imp (pe_ix ix_list (pe_var hN hv hd hcd) hb.pe hp) fun σ H Q ⟨g, F, ρ, s, q⟩ => by
    have q : tOoI i tb ρ _ := q
    unfold tOoI at q
    split at q
    · rename_i xs hx
      obtain ⟨p, as, dss, h1, e2, h3, h4, h5, h6, h7, h8⟩ := s.ooAt hx hm
      cases e2
      refine ⟨_, h1, g, F, ρ, s, hb.mono ρ _ _ (fun k hk F1 H1 u t r => ?_) q⟩
      obtain ⟨j, ys, rfl, hj, hq⟩ := hk
      have hj := oo_at hj
      have hl := h4.len
      have jl : j < as.length := by rw [← hl]; exact (List.getElem?_eq_some_iff.mp hj).1
      have ha : as[j]? = some as[j] := List.getElem?_eq_getElem jl
      obtain ⟨ds', vs', g1, g2, g3, g4, g5, g6⟩ := h4.get ha
      rw [hj] at g1; cases g1
      refine ⟨p, _, (j : Int), .ref as[j], rfl, r.int, .inl (.inl (t.keep _ _ h3 h7)), atI_nat (by rw [List.getElem?_map, ha]; rfl), ?_⟩
      exact hq F1 H1 _ t (.inr (.inl ⟨as[j], vs', ys, rfl, rfl, t.keep _ _ g2 g6, g6, g3.mono t.mono⟩))
    · exact q.elim, tOoI_mono hb.mono⟩
/-- x[k].append(e) -/
def tAppAt (i : Nat) (tb te : DT) : DTS := fun d ρ => match gt ρ i with | some (.list xs) => tb ρ fun k => ∃ (j : Nat) (ys : List D), k = .int (j : Int) ∧ xs[j]? = some (.list ys) ∧ te ρ fun y => ys.length < sizeLine ∧ d.nx (sv ρ i (some (.list (xs.set j (.list (ys ++ [y])))))) | _ => False
theorem dappAt (i : Nat) {y : Str} {spos : Pos} (hb : RE X e M b tb) (hp : PlainIx b) (ha : DE X e M a ta) (hN : X.N[i]? = some y := by rfl) (hv : Vis X.env.scope y := by first | exact Or.inl rfl | exact Or.inr (Or.inl rfl) | exact Or.inr (Or.inr rfl)) (hm : md M i = .oo := by rfl)
    (hd : (y == ("__debug__" : Str)) = false := by decide) (hcd : (y == ("__classdict__" : Str)) = false := by decide)
    (h1 : starEach [a] X.env = (false, eval a X.env) :: starEach [] X.env := by rfl)
    (hE : ∀ {to : TE} {t : TA}, PE X (.Subscript (.Name y p1) b p2) to → PA X [a] t → PE X (.Call (.Attribute (.Subscript (.Name y p1) b p2) "append" p3) [a] [] pos) (tBM X.K "list" rAppend to t) := by
      intro to t h h'; exact pe_bm PySem.F.plainAttrs_list PySem.F.slot_list_append PySem.F.type_list_append mt_append h h')
    (hs : swapsWith (.Call (.Attribute (.Subscript (.Name y p1) b p2) "append" p3) [a] [] pos) none spos.line X.env = pure false := by rfl) :
    DS X e M (.Expr (.Call (.Attribute (.Subscript (.Name y p1) b p2) "append" p3) [a] [] pos) spos) (tAppAt i tb ta) :=
  ⟨ps_imp (ps_expr (hE (pe_ix ix_list (pe_var hN hv hd hcd) hb.pe hp) (pa_cons ha.pe pa_nil h1)) hs) fun E σ H ⟨g, F, ρ, d, s, q, h⟩ => by
    have q : tAppAt i tb ta d ρ := q
    unfold tAppAt at q
    split at q
    · rename_i xs hx
      obtain ⟨p, as, dss, h1, e2, h3, h4, h5, h6, h7, h8⟩ := s.ooAt hx hm
      cases e2
      refine ⟨_, h1, g, F, ρ, s, hb.mono ρ _ _ (fun k hk F1 H1 u t r => ?_) q⟩
      obtain ⟨j, ys, rfl, hj, hq⟩ := hk
      have hj := oo_at hj
      have hl := h4.len
      have jl : j < as.length := by rw [← hl]; exact (List.getElem?_eq_some_iff.mp hj).1
      have ha' : as[j]? = some as[j] := List.getElem?_eq_getElem jl
      obtain ⟨ds', vs', g1, g2, g3, g4, g5, g6⟩ := h4.get ha'
      rw [hj] at g1; cases g1
      refine ⟨p, _, (j : Int), .ref as[j], rfl, r.int, .inl (.inl (t.keep _ _ h3 h7)), atI_nat (by rw [List.getElem?_map, ha']; rfl), .inl ⟨rfl, vs', .inl (.inl (t.keep _ _ g2 g6))⟩, g, F1, ρ, s.step t, ha.mono ρ _ _ (fun z hz F2 H2 v t2 r2 => ?_) hq⟩
      have t12 := t.trans t2
      have s2 := s.step t12
      have o2 := h4.step t12
      have nd := List.nodup_cons.mp h8
      have pa : p ≠ as[j] := fun z => nd.1 (by rw [z]; exact List.getElem_mem jl)
      have key := o2.set nd.2 ha' ((g3.mono t12.mono).append (.cons r2 .nil))
      have fa : F2 as[j] = none := t12.no g2 g4
      have h3' := t12.keep _ _ h3 h7
      refine ⟨as[j], vs', v, rfl, rfl, t12.keep _ _ g2 g6, by rw [g3.length]; exact hz.1, h.nx g F2 _ σ _ (s2.pokeI hm hx h1 fa g5 g6 ?_ (by rw [hm]; exact ⟨p, rfl, .inr ⟨_, h3', List.mem_map.mpr ⟨_, List.getElem_mem jl, rfl⟩⟩⟩) (fun q hq => by
        rw [hm] at hq ⊢
        obtain ⟨b, eb, hq⟩ := hq
        cases eb
        refine ⟨p, rfl, ?_⟩
        rcases hq with hq | ⟨ws, hw, hq⟩
        · exact .inl hq
        · rw [upd_ne pa] at hw
          exact .inr ⟨ws, hw, hq⟩)) hz.2⟩
      rw [hm]
      refine ⟨p, as, dss.set j (ys ++ [z]), rfl, by rw [List.map_set], by rw [upd_ne pa]; exact t12.keep _ _ h3 h7, key, t12.no h3 h5, h6, h7, h8⟩
    · exact q.elim, fun d d' ρ k q => by
    unfold tAppAt at q ⊢
    split at q
    · exact hb.mono ρ _ _ (fun u ⟨j, ys, h1, h2, h3⟩ => ⟨j, ys, h1, h2, ha.mono ρ _ _ (fun z q => ⟨q.1, k.nx _ q.2⟩) h3⟩) q
    · exact q.elim⟩
/-- return of a list of lists of ours -/
theorem droo (i : Nat) {y : Str} (hN : X.N[i]? = some y := by rfl) (hv : Vis X.env.scope y := by first | exact Or.inl rfl | exact Or.inr (Or.inl rfl) | exact Or.inr (Or.inr rfl)) (hm : md M i = .oo := by rfl) (hd : (y == ("__debug__" : Str)) = false := by decide) (hcd : (y == ("__classdict__" : Str)) = false := by decide) :
    DS X e M (.Return (some (.Name y p2)) pos) (fun d ρ => tV i ρ d.rt) :=
  ⟨ps_imp (ps_ret (pe_var hN hv hd hcd)) fun E σ H ⟨g, F, ρ, d, s, q, h⟩ => by
    have q : tV i ρ d.rt := q
    unfold tV at q
    split at q
    · rename_i x hx
      obtain ⟨p, as, dss, h1, e2, h3, h4, h5, h6, h7, h8⟩ := s.ooAt hx hm
      cases e2
      have nd := List.nodup_cons.mp h8
      have n0 : ∀ a ∈ as, e.H a = none := fun a ha => by
        obtain ⟨j, hj⟩ := List.getElem?_of_mem ha
        obtain ⟨_, _, _, _, _, _, g5, _⟩ := h4.get hj
        exact g5
      have st0 := s.stp
      have h4' : InnerOk F H e.g e.H (RpL X.K F) as dss := by
        have conv : ∀ (as : List Addr) (dss : List (List D)), InnerOk F H g e.H (RpL X.K F) as dss → InnerOk F H e.g e.H (RpL X.K F) as dss := fun as => by
          induction as with
          | nil => exact fun _ q => q
          | cons a as ih =>
            rintro _ ⟨ds, dr, vs, w1, w2, w3, w4, w5, w6, w7⟩
            refine ⟨ds, dr, vs, w1, w2, w3, w4, w5, ?_, ih _ w7⟩
            rcases s.grel with z | ⟨z, _⟩
            · rw [← z]; exact w6
            · rw [z]; exact fun z => z
        exact conv _ _ h4
      obtain ⟨F', sf, l, rl, hb⟩ := h4'.freeze st0 n0 nd.2
      have fp : F' p = none := by rw [hb p nd.1]; exact h5
      exact ⟨_, h1, h.rt (upd F' p (.lst (as.map V.ref))) H (.list (dss.map PyData.list)) (.ref p) (sf.freeze h6 fp h3) (show Rp X.K (upd F' p (.lst (as.map V.ref))) (.list (dss.map PyData.list)) (.ref p) from ⟨p, _, rfl, upd_same, rl.mono (.new fp)⟩) q⟩
    · exact q.elim, fun d d' ρ j q => tV_mono i ρ _ _ j.rt q⟩
end
end PP

set_option Elab.async false
set_option linter.all false
set_option maxRecDepth 100000
set_option maxHeartbeats 1000000
namespace PP
open PySem PySem.Spec PyProof.Rows L2
section
variable {X : Cx} {e : Ent} {M : List Md} {a b : Expr} {ta tb : DT} {pos p1 p2 : Pos}
/-- x op= e, ints -/
def tAugD (f : Int → Int → Int) (i : Nat) (ta : DT) : DTS := fun d ρ => match gt ρ i with | some (.int x) => ta ρ fun y => (match y with | .int y => d.nx (sv ρ i (some (.int (f x y)))) | _ => False) | _ => False
theorem daug {op : Operator} {f : Int → Int → Int} (ho : PIp X op (ipI f)) (i : Nat) {y : Str} (hNd : X.N.Nodup) (ha : RE X e M a ta) (hi : X.N[i]? = some y := by rfl) (hx : Loc X.env.scope y := by first | exact .inl rfl | exact .inr rfl) (hm : md M i = .val := by rfl)
    (hf : X.fn y = true ∨ X.env.scope.names.lookup y = some .local := by first | exact .inl rfl | exact .inr rfl | assumption) : DS X e M (.AugAssign (.Name y p1) op a pos) (tAugD f i ta) :=
  ⟨ps_imp (ps_aug hNd hi hx ha.pe ho hf) fun E σ H ⟨g, F, ρ, d, s, q, h⟩ => by
    unfold tAugD at q
    split at q
    · rename_i x hx
      obtain ⟨v, h1, h2⟩ := s.slot i _ hx
      rw [hm] at h2
      have h2 : v = .int x := h2
      subst h2
      refine ⟨_, h1, g, F, ρ, s, ha.mono ρ _ _ (fun y hy F' H' v t r => ?_) q⟩
      split at hy
      · exact ⟨x, _, rfl, r.int, h.nx g F' H' _ _ ((s.step t).setv hm (show Rp X.K F' (.int (f x _)) (.int (f x _)) from rfl)) hy⟩
      · exact hy.elim
    · exact q.elim, fun d d' ρ j q => by
    unfold tAugD at q ⊢
    split at q
    · refine ha.mono ρ _ _ (fun y q => ?_) q
      split at q
      · exact j.nx _ q
      · exact q.elim
    · exact q.elim⟩
def rGetN (K : PySem.W.Frag) : V → V → Hp → VK → Prop := fun x y H Q => ∃ p xs, ∃ (j : Nat) (v : V), x = .ref p ∧ y = .int (j : Int) ∧ SqL K H p xs ∧ xs[j]? = some v ∧ Q v H
theorem pget_list {X : Cx} : PGet X (rGetN X.K) := fun pins s σ H o i ov iv Q I ro ri h => by
  obtain ⟨p, xs, j, v, rfl, rfl, hq, hj, q⟩ := h
  cases ro
  obtain ⟨t, rfl⟩ := ri
  obtain ⟨its, r, pl, hz⟩ := I.list hq
  obtain ⟨w, ew, rw'⟩ := r.get hj
  have hl := r.length
  have hn := line63
  have jl : j < xs.length := (List.getElem?_eq_some_iff.mp hj).1
  exact wpAny_getItem_list pl.isList (by omega) (by omega) (by rw [Int.toNat_natCast]; simpa using ew) ⟨v, H, I, rw', q⟩
/-- x[k] op= e, ints -/
def tAugP (f : Int → Int → Int) (i : Nat) (tk te : DT) : DTS := fun d ρ => match gt ρ i with | some (.list xs) => tk ρ fun k => ∃ (j : Nat) (x : Int), k = .int (j : Int) ∧ xs[j]? = some (.int x) ∧ te ρ fun y => (match y with | .int y => d.nx (sv ρ i (some (.list (xs.set j (.int (f x y)))))) | _ => False) | _ => False
theorem daugP {op : Operator} {f : Int → Int → Int} (ho : PIp X op (ipI f)) (i : Nat) {y : Str} (hb : RE X e M b tb) (ha : RE X e M a ta) (hN : X.N[i]? = some y := by rfl) (hv : Vis X.env.scope y := by first | exact Or.inl rfl | exact Or.inr (Or.inl rfl) | exact Or.inr (Or.inr rfl)) (hm : md M i = .own := by rfl) (hd : (y == ("__debug__" : Str)) = false := by decide) (hcd : (y == ("__classdict__" : Str)) = false := by decide)
    (hst : ∀ ov iv new, augStore b ov iv new = (do holding [new, ov, iv] (setItem ov iv new); release [new, ov, iv] []; pure .next) := by intros; rfl) : DS X e M (.AugAssign (.Subscript (.Name y p1) b p2) op a pos) (tAugP f i tb ta) :=
  ⟨ps_imp (ps_augS (pe_var hN hv hd hcd) hb.pe pget_list ha.pe ho set_list hst) fun E σ H ⟨g, F, ρ, d, s, q, h⟩ => by
    unfold tAugP at q
    split at q
    · rename_i xs hx
      obtain ⟨p, vs, ds, e2, h1, h3, h4, h5, h6, h7⟩ := s.ownAt hx hm
      cases e2
      refine ⟨_, h1, g, F, ρ, s, hb.mono ρ _ _ (fun k hk F1 H1 u t1 r1 => ?_) q⟩
      obtain ⟨j, x, rfl, hj, hq⟩ := hk
      obtain ⟨v, hv1, hv2⟩ := h4.get hj
      have hv2 : v = .int x := hv2
      subst hv2
      refine ⟨p, vs, j, .int x, rfl, r1.int, .inl (.inl (t1.keep _ _ h3 h7)), hv1, g, F1, ρ, s.step t1, ha.mono ρ _ _ (fun y hy F2 H2 w t2 r2 => ?_) hq⟩
      have t12 := t1.trans t2
      split at hy
      · rename_i z
        have jl : j < vs.length := (List.getElem?_eq_some_iff.mp hv1).1
        refine ⟨x, z, rfl, r2.int, p, vs, (j : Int), j, rfl, r1.int, t12.keep _ _ h3 h7, by unfold ixN; simp [jl], h.nx g F2 _ σ _ ((s.step t12).putL hm hx h1 (t12.no h3 h5) h6 h7 ((h4.mono t12.mono).set j (show Rp X.K F2 (.int (f x z)) (.int (f x z)) from rfl))) hy⟩
      · exact hy.elim
    · exact q.elim, fun d d' ρ k q => by
    unfold tAugP at q ⊢
    split at q
    · refine hb.mono ρ _ _ (fun y ⟨j, x, h1, h2, q⟩ => ⟨j, x, h1, h2, ha.mono ρ _ _ (fun z q => ?_) q⟩) q
      split at q
      · exact k.nx _ q
      · exact q.elim
    · exact q.elim⟩
end
end PP

set_option Elab.async false
set_option linter.all false
set_option maxRecDepth 100000
set_option maxHeartbeats 1000000
namespace HT
open PySem PySem.Spec PyProof.Rows
section
variable {prog : Program} {w : World} {A : Around} {E : Value → Shared → Prop} {s : Shared}
theorem sliceApplied_back {sl : Addr} {vl vu vs : Value} {n : Nat} {Q : Int × Int × Nat → Shared → Prop} (hs : s.heap.IsSliceOf sl vl vu vs) (pl : IsPart vl none) (pu : IsPart vu none) (ps : IsPart vs (some (-1)))
    (h : Q ((n : Int) - 1, -1, n) s) : wpAny (model prog w) A (Builtin.Slice.sliceApplied (.ref sl) (pure (n : Int))) Q E s := by
  obtain ⟨os, hos, hcs, hds⟩ := id hs
  unfold Builtin.Slice.sliceApplied Builtin.Slice.sliceFields
  refine wpAny_bind (wpAny_bind (wpAny_field hos hds (x := vl) rfl (wpAny_bind (wpAny_field hos hds (x := vu) rfl (wpAny_bind (wpAny_field hos hds (x := vs) rfl (wpAny_pure ?_)))))))
  refine wpAny_bind (slicePart_ ps ?_)
  show wpAny _ _ (if ((-1 : Int) == 0) = true then _ else _) _ _ s
  rw [if_neg (by decide)]
  refine wpAny_bind (slicePart_ pl (wpAny_bind (slicePart_ pu (wpAny_bind (wpAny_pure ?_)))))
  show wpAny _ _ (match Builtin.Slice.sliceAdjust none none (-1) (n : Int) with | (lo, hi) => pure (lo, (-1 : Int), Builtin.Slice.slicePlaces lo hi (-1))) _ _ s
  have e : Builtin.Slice.sliceAdjust none none (-1) (n : Int) = ((n : Int) - 1, -1) := by
    unfold Builtin.Slice.sliceAdjust
    simp
  rw [e]
  show wpAny _ _ (pure ((n : Int) - 1, (-1 : Int), Builtin.Slice.slicePlaces ((n : Int) - 1) (-1) (-1))) _ _ s
  have e2 : Builtin.Slice.slicePlaces ((n : Int) - 1) (-1) (-1) = n := by
    unfold Builtin.Slice.slicePlaces
    have h1 : ¬ (-1 : Int) > 0 := by omega
    simp only [h1, if_false]
    rw [show -(-1 : Int) = 1 from rfl, Int.ediv_one]
    split <;> omega
  rw [e2]
  exact wpAny_pure h
theorem pick_back (xs : Array Value) : ((List.range xs.size).filterMap fun (m : Nat) => xs[(((xs.size : Int) - 1) + (m : Int) * (-1)).toNat]?).toArray = xs.toList.reverse.toArray := by
  congr 1
  have key : ∀ k, k ≤ xs.size → (List.range k).filterMap (fun (m : Nat) => xs[(((xs.size : Int) - 1) + (m : Int) * (-1)).toNat]?) = xs.toList.reverse.take k := by
    intro k
    induction k with
    | zero => intro _; rfl
    | succ k ih =>
      intro hk
      rw [List.range_succ, List.filterMap_append, ih (by omega), List.take_add_one]
      congr 1
      have e : (((xs.size : Int) - 1) + (k : Int) * (-1)).toNat = xs.size - 1 - k := by omega
      have lt : xs.size - 1 - k < xs.size := by omega
      have e3 : xs.toList.reverse[k]? = some xs[xs.size - 1 - k] := by
        rw [List.getElem?_reverse (by rw [Array.length_toList]; omega)]
        simp [lt]
      rw [e3, List.filterMap_cons, e, Array.getElem?_eq_getElem lt]
      rfl
  have := key xs.size (Nat.le_refl _)
  rw [this, List.take_of_length_le (by simp)]
theorem getItem_tuple_back {t sl : Addr} {items : Array Value} {vl vu vs : Value} {Q : Value → Shared → Prop} (ht : IsTup s.heap t items) (hs : s.heap.IsSliceOf sl vl vu vs) (pl : IsPart vl none) (pu : IsPart vu none) (ps : IsPart vs (some (-1)))
    (h : Q (.ref s.heap.objs.size) { s with heap := s.heap.push { cls := .type "tuple", data := .seq items.toList.reverse.toArray } })
    (hsz : items.size ≤ sizeLine) : wpAny (model prog w) A (getItem (.ref t) (.ref sl)) Q E s := by
  have htake : sizeOk (.seq items.toList.reverse.toArray) := by
    show items.toList.reverse.toArray.size ≤ sizeLine
    rw [List.size_toArray, List.length_reverse, Array.length_toList]
    exact hsz
  obtain ⟨os, hos, hcs, hds⟩ := id hs
  have hTs : s.TypeIs (.ref sl) "slice" := ⟨os, hos, hcs⟩
  unfold getItem
  try with_reducible refine wpAny_holding ?_
  first | refine wpAny_bind (wpAny_pure ?_) | skip
  refine wpAny_bind (wpAny_sequenceKey ht.typeIs (by decide) ?_)
  refine wpAny_bind (wpAny_callSpecial?_slot (name := Str.ofString "__getitem__") ht.typeIs PyProof.Rows.slot_tuple_getitem
    (wpAny_call_entry PyProof.Rows.slot_tuple_getitem ht.typeIs entry_tuple_getitem ?_ (args_tuple_getitem _ _)))
  show wpAny _ _ (Builtin.Tuple.tupleItemsOf (.ref t) >>= _) _ _ s
  refine wpAny_bind (tupleItemsOf_ ht ?_)
  refine wpAny_bind (wpAny_typeOf hTs ?_)
  rw [if_pos (by decide)]
  refine wpAny_bind (sliceApplied_back hs pl pu ps ?_)
  have hno : ¬ (((((items.size : Nat) : Int) - 1) == 0 && (-1 : Int) == 1 && items.size == items.size) = true) := by
    intro q
    rw [Bool.and_eq_true, Bool.and_eq_true] at q
    exact absurd (eq_of_beq q.1.2) (by decide)
  show wpAny _ _ (if ((((items.size : Nat) : Int) - 1) == 0 && (-1 : Int) == 1 && items.size == items.size) = true then _ else _) _ _ s
  rw [if_neg hno, pick_back]
  first
    | exact wpAny_bind (m := Builtin.Tuple.tupleExact _) (wpAny_newObj_type (wpAny_pure ⟨_, rfl, wpAny_pure h⟩) htake)
    | exact wpAny_bind (m := Builtin.Tuple.tupleExact _) (wpAny_newObj_type (wpAny_bind (wpAny_pure (wpAny_pure ⟨_, rfl, wpAny_pure h⟩))) htake)
    | exact wpAny_bind (wpAny_bind (m := Builtin.Tuple.tupleExact _) (wpAny_newObj_type (wpAny_pure (wpAny_pure ⟨_, rfl, wpAny_pure h⟩)) htake))
    | exact wpAny_bind (wpAny_bind (m := Builtin.Tuple.tupleExact _) (wpAny_newObj_type (wpAny_pure ⟨_, rfl, wpAny_pure h⟩) htake))
end
end HT
namespace PP
open PySem PySem.Spec PyProof.Rows L2
section
variable {X : Cx} {e : Ent} {M : List Md} {a b c : Expr} {xs : List Expr} {tA : DA} {ta tb : DT} {pos p p1 p2 p3 : Pos}
/-! ### x[::-1] of a tuple -/
def tRevT (K : PySem.W.Frag) (te : TE) : TE := fun σ H Q => te σ H fun x H1 => ∃ a xs, x = .ref a ∧ SqT K H1 a xs ∧ NewT H1 xs.reverse Q
theorem pe_revT {e : Expr} {te : TE} {k : Nat} (he : PE X e te) : PE X (.Subscript e (.Slice none none (some (.UnaryOp .USub (.Constant (.int 1) k p1) p2)) p3) pos) (tRevT X.K te) := by
  refine ⟨fun pins s σ H Q I h => ?_⟩
  refine Subscript_ (thn (he.run pins s σ H _ I h) fun v s1 ⟨x, H1, I1, r1, q1⟩ => ?_)
  obtain ⟨a, xs, ex, hx, q⟩ := q1
  subst ex
  cases r1
  have hst : PO X (some (.UnaryOp .USub (.Constant (.int 1) k p1) p2)) (tPart (tUn (rU fun i => .int (-i)) (tC (.int 1)))) := po_some (pe_un un_neg pe_int)
  refine wpAny_Slice (thn (po_none.run pins s1 σ H1 (fun o H2 => o = none ∧ H2 = H1) I1 ⟨rfl, rfl⟩) fun vl s2 ⟨l, H2, I2, pl, el, e2⟩ => ?_)
  subst el e2
  refine thn (po_none.run pins s2 σ H2 (fun o H3 => o = none ∧ H3 = H2) I2 ⟨rfl, rfl⟩) fun vu s3 ⟨u, H3, I3, pu, eu, e3⟩ => ?_
  subst eu e3
  refine thn (hst.run pins s3 σ H3 (fun o H4 => o = some (-1) ∧ H4 = H3) I3 ⟨1, rfl, -1, rfl, rfl, rfl⟩) fun vs s4 ⟨o, H4, I4, ps, eo, e4⟩ => ?_
  subst eo e4
  have I5 : Inv X pins σ H4 { s4 with heap := s4.heap.push { cls := .type "slice", data := .fields #[vl, vu, vs] } } := I4.kept (t' := s4.toks) fun b ob q => Heap.get?_push_of_some _ q
  obtain ⟨its, r, ht, hz⟩ := I5.tuple hx
  have hlen := r.length
  show wpAny (model X.prog X.w) X.A (subscriptTail e (.Slice none none (some (.UnaryOp .USub (.Constant (.int 1) k p1) p2)) p3) (.ref a) (.ref s4.heap.objs.size)) (EP X pins σ Q) X.xe { s4 with heap := s4.heap.push { cls := .type "slice", data := .fields #[vl, vu, vs] } }
  refine tail_any (ops := [.ref a, .ref s4.heap.objs.size]) ht.typeIs (PyProof.Rows.slot_tuple_getitem.lookup) ?_ (by with_unfolding_all rfl)
  refine HT.getItem_tuple_back ht (Heap.IsSliceOf.new _ vl vu vs) pl pu ps ?_ (by rw [List.size_toArray]; omega)
  exact new_tup I5 rfl rfl rfl ⟨_, rfl⟩ (by rw [List.length_reverse]; exact hz) r.reverse q
def tRevD (ta : DT) : DT := fun ρ Q => ta ρ fun d => match d with | .tuple xs => Q (.tuple xs.reverse) | _ => False
theorem de_revT {k : Nat} (ha : RE X e M a ta) : DE X e M (.Subscript a (.Slice none none (some (.UnaryOp .USub (.Constant (.int 1) k p1) p2)) p3) pos) (tRevD ta) :=
  ⟨pe_imp (pe_revT ha.pe) fun σ H Q ⟨g, F, ρ, sr, q⟩ => ⟨g, F, ρ, sr, ha.mono ρ _ _ (fun d hd F1 H1 v s rv => by
    split at hd
    · obtain ⟨p, vs, rfl, hp, r⟩ := rv.tup
      have bs := s.bs sr.bs
      exact ⟨p, vs, rfl, bs.sub.sqT hp, fun z o hn hc hdn => hd (upd F1 z (.frz o (.tup vs.reverse))) _ _ (s.trans (bs.alloc hn _)) ⟨z, _, rfl, FrT.new hc hdn, r.reverse.mono (.new (bs.sub.none hn))⟩⟩
    · exact hd.elim) q⟩, fun ρ Q Q' f q => ha.mono ρ _ _ (fun d q => by
    split at q
    · exact f _ q
    · exact q.elim) q⟩
/-! ### x != () of any tuple -/
def rNeT (K : PySem.W.Frag) : R2 := fun x y H Q => ∃ a b xs, x = .ref a ∧ y = .ref b ∧ SqT K H a xs ∧ SqT K H b [] ∧ Q (.bl (!xs.isEmpty)) H
theorem op_neT (hu : X.A.units + 64 < cLine) : OpR X (compareOp .NotEq) (rNeT X.K) := by
  intro pins s σ H x y v u Q I rx ry h
  obtain ⟨a, b, xs, rfl, rfl, ha, hb, q⟩ := h
  cases rx
  cases ry
  obtain ⟨its, r1, p1, _⟩ := I.tuple ha
  obtain ⟨its2, r2, p2, _⟩ := I.tuple hb
  cases r2
  have key := SeqAt.RcNeAt.tuples (A := X.A) (s := s) (l := a) (b := b) (e := fun _ => true) p1 p2 (by omega) (fun j h1 h2 => by simp at h2)
  refine key _ _ _ _ ⟨.bl (!xs.isEmpty), H, I, ?_, q⟩
  have e : xs.isEmpty = its.isEmpty := by
    cases r1 <;> rfl
  rw [e]
  cases its with
  | nil => rfl
  | cons a l => exact rfl
def kNeT : K2 := fun x y Q => match x, y with | .tuple xs, .tuple [] => Q (.bool (!xs.isEmpty)) | _, _ => False
theorem kNeT_mono : Mono2 kNeT := fun x y Q Q' h q => by
  unfold kNeT at q ⊢
  split at q
  · exact h _ q
  · exact q.elim
theorem says_neT : Says2 X (rNeT X.K) kNeT := fun g F H dx dy x y Qv q bs rx ry hk k => by
  unfold kNeT at hk
  split at hk
  · obtain ⟨p, vs, rfl, hp, r⟩ := rx.tup
    obtain ⟨p2, vs2, rfl, hp2, r2⟩ := ry.tup
    have e2 : vs2 = [] := r2
    subst e2
    refine ⟨p, p2, vs, rfl, rfl, bs.sub.sqT hp, bs.sub.sqT hp2, ?_⟩
    have := k _ F H _ hk bs.refl rfl
    rw [r.empty]
    exact this
  · exact hk.elim
theorem dc_neT (hu : X.A.units + 64 < cLine) (ha : RE X e M a ta) (hb : RE X e M b tb) : DC X e M (.Compare a [.NotEq] [b] pos) (tTst (t2 kNeT ta tb)) := dc_cmp (op_neT hu) says_neT kNeT_mono ha hb (nm (by decide) (by decide))
/-! ### {} -/
theorem de_dict0 : DE X e M (.Dict [] [] pos) (tK (.dict [])) :=
  ⟨pe_imp pe_dnewK fun σ H Q ⟨g, F, ρ, sr, q⟩ => fun z hn => q (upd F z (.dK [])) _ (.ref z) (sr.bs.alloc hn _) ⟨z, [], rfl, upd_same, rfl⟩, tK_mono _⟩
/-! ### repr of anything -/
def RprA (d : D) : Prop := d.showable = true ∧ d.depth ≤ 64 ∧ d.shown.length ≤ sizeLine
def rRprA (K : PySem.W.Frag) : List V → Hp → VK → Prop := fun xs H Q => ∃ v d, xs = [v] ∧ Rp K H d v ∧ RprA d ∧ Q (.str d.shown) H
theorem call_rprA (sy : ∃ o, X.base.get? sysModules = some o) (hgd : X.A.guards = some []) (hu : X.A.units + 80 < cLine) : CallR X (.builtin "repr") (rRprA X.K) := by
  intro pins s σ H xs us Q I r h
  obtain ⟨v, d, rfl, hr, ⟨ok1, ok2, ok3⟩, q⟩ := h
  obtain ⟨u, rfl, rv⟩ := vals1 r
  obtain ⟨oS, hS⟩ := sy
  have n1 : H sysModules = none := (I.bs _ _ hS).2
  have fin : ∀ h' u tk, (∀ b o, s.heap.get? b = some o → h'.get? b = some o) → EP X pins σ Q (.str d.shown u) { s with heap := h', toks := tk } := fun h' u tk hk => ⟨.str d.shown, H, I.kept hk, ⟨u, rfl⟩, q⟩
  have fin0 : EP X pins σ Q (.str d.shown s.toks) { s with toks := s.toks + 1 } := ⟨.str d.shown, H, I.tok _, ⟨_, rfl⟩, q⟩
  have byRef : ∀ a, u = .ref a → wpAny (model X.prog X.w) X.A (call (.builtin "repr") [u]) (EP X pins σ Q) X.xe s := fun a e => by
    subst e
    obtain ⟨as, rd, nm⟩ := Rp.shows I n1 d v _ hr rv
    exact repr_of_reads' rd ok1 (fun _ z => nm _ z rfl) hgd (by omega) (fun _ _ e => e) fin ok3
  cases d with
  | none =>
    have hr : v = .non := hr
    subst hr
    cases (show u = Value.none from rv)
    exact P.repr_of_none (by simpa only [PyData.shown] using fin0)
  | bool b =>
    have hr : v = .bl b := hr
    subst hr
    cases (show u = Value.bool b from rv)
    exact P.repr_of_bool (by simpa only [PyData.shown] using fin0)
  | int i =>
    have hr : v = .int i := hr
    subst hr
    obtain ⟨t, rfl⟩ := (show ∃ t, u = Value.int i t from rv)
    exact P.repr_of_int (by simpa [PyData.showable] using ok1) (by simpa only [PyData.shown] using fin0)
  | str z =>
    have hr : v = .str z := hr
    subst hr
    obtain ⟨t, rfl⟩ := (show ∃ t, u = Value.str z t from rv)
    exact P.repr_of_str (by simpa only [PyData.shown] using fin0) (by simpa only [PyData.shown] using ok3)
  | list ds => obtain ⟨a, xs, rfl, _⟩ := hr; exact byRef a rv
  | tuple ds => obtain ⟨a, xs, rfl, _⟩ := hr; exact byRef a rv
  | dict ds => obtain ⟨a, xs, rfl, _⟩ := hr; exact byRef a rv
def kRprA : KC := fun ds Q => match ds with
  | [d] => RprA d ∧ Q (.str d.shown)
  | _ => False
theorem kRprA_mono : MonoC kRprA := fun ds Q Q' f q => by
  unfold kRprA at q ⊢
  split at q
  · exact ⟨q.1, f _ q.2⟩
  · exact q.elim
theorem says_rprA : SaysC X (rRprA X.K) kRprA := by
  intro g F H ds vs Qv q bs rv hk k
  unfold kRprA at hk
  split at hk
  · obtain ⟨v, rfl, r⟩ := rv.one
    exact ⟨v, _, rfl, r.now bs, hk.1, k _ F H _ hk.2 bs.refl rfl⟩
  · exact hk.elim
theorem de_reprA (sy : ∃ o, X.base.get? sysModules = some o) (hgd : X.A.guards = some []) (hu : X.A.units + 80 < cLine) (hg : Gl X "repr") (hm : X.mg "repr" = none) (ha : AR X e M (a :: xs) tA)
    (he : starEach (a :: xs) X.env = (false, eval a X.env) :: starEach xs X.env := by rfl) (hpl : (backTo pos (starEach xs X.env)).any (·.1) = false := by rfl) :
    DE X e M (.Call (.Name "repr" p) (a :: xs) [] pos) (tCl kRprA tA) := de_callB (call_rprA sy hgd hu) says_rprA kRprA_mono hg hm (by decide +kernel) ha (he := he) (hpl := hpl)
end
end PP

set_option Elab.async false
set_option linter.all false
set_option maxRecDepth 100000
set_option maxHeartbeats 1000000
namespace PP
open PySem PySem.Spec PyProof.Rows L2
def tabFind (tab : List (Str × Int)) (z : Str) : Option Int := (tab.find? fun p => p.1 == z).map (·.2)
/-- a written dict of the module from texts to ints -/
structure KTab (K : PySem.W.Frag) (w : World) (mg : Str → Option Value) (y : Str) (tab : List (Str × Int)) : Prop where
  ex : ∃ d es n, mg y = some (.ref d) ∧ KDict K w d es n ∧ ∀ z, ∃ r, PySem.W.nsIn K d z = some r ∧ match tabFind tab z with | some i => ∃ t, r = some (.int i t) | none => r = none
section
variable {X : Cx} {e : Ent} {M : List Md} {a b c : Expr} {xs : List Expr} {tA : DA} {ta tb : DT} {pos p p1 p2 p3 apos cpos : Pos} {y : Str} {tab : List (Str × Int)}
def tKget (tab : List (Str × Int)) (ty : TE) : TE := fun σ H Q => ty σ H fun v H1 => ∃ z, v = .str z ∧ Q (match tabFind tab z with | some i => .int i | none => .non) H1
theorem pe_kget {ty : TE} (T : KTab X.K X.w X.mg y tab) (hg : Gl X y) (he : PE X a ty) (m : M1 X (.Name y p1) "get" apos a cpos) (hd : (y == ("__debug__" : Str)) = false := by decide) : PE X (.Call (.Attribute (.Name y p1) "get" apos) [a] [] cpos) (tKget tab ty) := by
  obtain ⟨d, es, n, hm, D, T⟩ := T.ex
  refine ⟨fun pins s σ H Q I h => ?_⟩
  have ho : PE X (.Name y p1) (tC (.ref d)) := pe_glob hg hm rfl hd
  refine wpAny_Call_method m.base m.few m.line PySem.F.plainAttrs_dict PySem.F.slot_dict_get PySem.F.type_dict_get (thn (ho.run pins s σ H (fun x H1 => x = .ref d ∧ H1 = H) I ⟨rfl, rfl⟩) fun u s1 ⟨x, H1, I1, rx, ex, eH⟩ => ?_)
  subst ex eH
  obtain rfl : u = Value.ref d := rx
  refine ⟨kd_type D I1, fun b q => ?_, ?_⟩
  · cases q
    exact ⟨_, I1.kIn _ _ D.at_, rfl⟩
  rw [m.trees]
  refine Calls.callWith_builtin rfl (Calls.evalArgs_plain (Calls.spliced_cons (thn (he.run pins s1 σ H1 _ I1 h) fun iv s2 ⟨v, H2, I2, ry, z, ev, q2⟩ => Calls.spliced_nil ?_)))
  subst ev
  obtain ⟨t, rfl⟩ := ry
  obtain ⟨r, e1, e2⟩ := T z
  refine call_meetsIn PySem.F.slot_dict_get (kd_type D I2) PySem.F.entry_dict_get (PySem.F.args_dict_get_2 _ _) (meets_dict_get (strKind X.prog X.w) d (PySem.strKind_is X.prog X.w z t) D.low) ⟨_, PySem.W.mapOf_K (prog := X.prog) I2.kIn D.at_ D.lit, ?_⟩
  rw [PySem.W.find_K D.at_ e1]
  refine ⟨_, H2, I2.tok _, ?_, q2⟩
  cases q : tabFind tab z with
  | some i =>
    rw [q] at e2
    obtain ⟨t', rfl⟩ := e2
    exact ⟨t', rfl⟩
  | none =>
    rw [q] at e2
    have e2 : r = none := e2
    subst e2
    exact rfl
def tKgetD (tab : List (Str × Int)) (ta : DT) : DT := fun ρ Q => ta ρ fun d => match d with | .str z => Q (match tabFind tab z with | some i => .int i | none => .none) | _ => False
theorem de_kget (T : KTab X.K X.w X.mg y tab) (ha : RE X e M a ta) (hg : Gl X y := by rfl) (m : M1 X (.Name y p1) "get" apos a cpos := by exact ⟨rfl, rfl, rfl, rfl⟩) (hd : (y == ("__debug__" : Str)) = false := by decide) :
    DE X e M (.Call (.Attribute (.Name y p1) "get" apos) [a] [] cpos) (tKgetD tab ta) :=
  ⟨pe_imp (pe_kget T hg ha.pe m hd) fun σ H Q ⟨g, F, ρ, sr, q⟩ => ⟨g, F, ρ, sr, ha.mono ρ _ _ (fun d hd F1 H1 v s rv => by
    split at hd
    · rename_i z
      refine ⟨z, rv.str, hd F1 H1 _ s ?_⟩
      cases tabFind tab z <;> exact rfl
    · exact hd.elim) q⟩, fun ρ Q Q' f q => ha.mono ρ _ _ (fun d q => by
    split at q
    · exact f _ q
    · exact q.elim) q⟩
/-! ### {'a': 1, ..}.get(x, y) -/
def pairTr (tab : List (Str × Int)) : List (TE × TE) := tab.map fun p => (tC (.str p.1), tC (.int p.2))
theorem tPairs_con : ∀ (tab : List (Str × Int)) (σ : L2.St) (H : Hp) (Q : List (V × V) → Hp → Prop), Q (tab.map fun p => (V.str p.1, V.int p.2)) H → tPairs (pairTr tab) σ H Q
  | [], _, _, _, h => h
  | p :: tab, σ, H, Q, h => tPairs_con tab σ H (fun ps H3 => Q ((V.str p.1, V.int p.2) :: ps) H3) h
def kvsOf (tab : List (Str × Int)) : List (Key × V) := tab.map fun p => (Sum.inr p.1, V.int p.2)
theorem val_kvs (z : Str) : ∀ tab : List (Str × Int), valV (kvsOf tab) (Sum.inr z) = (tabFind tab z).map V.int
  | [] => rfl
  | p :: tab => by
    have ih := val_kvs z tab
    unfold tabFind at ih ⊢
    by_cases c : p.1 = z
    · subst c
      simp [valV, kvsOf]
    · have c2 : (p.1 == z) = false := by simpa using c
      rw [List.find?_cons_of_neg (by rw [c2]; decide), ← ih]
      simp [valV, kvsOf, c]
def tDispG (tab : List (Str × Int)) (ta tb : DT) : DT := fun ρ Q => ta ρ fun d => tb ρ fun d' => match d, d' with | .str z, .int i => Q (.int ((tabFind tab z).getD i)) | _, _ => False
theorem de_dispG {keys : List (Option Expr)} {values : List Expr} (hu : X.A.units + 64 < cLine) (h : PPs X pos keys values (pairTr tab)) (ha : RE X e M a ta) (hb : RE X e M b tb) (hall : keys.all (·.isSome) = true := by rfl) (hl : keys.length = values.length := by rfl) (h0 : keys ≠ [] := by exact fun z => nomatch z)
    (h15 : keys.length ≤ 15 := by decide) (h16 : tab.length ≤ 15 := by decide) (hM : mergeK [] (kvsOf tab) = kvsOf tab := by rfl) (m : M2 X (.Dict keys values pos) "get" apos a b cpos := by exact ⟨rfl, rfl, rfl, rfl⟩) :
    DE X e M (.Call (.Attribute (.Dict keys values pos) "get" apos) [a, b] [] cpos) (tDispG tab ta tb) :=
  ⟨pe_imp (pe_dget2 (by omega) (pe_disp h hall hl h0 h15) ha.pe hb.pe m) fun σ H Q ⟨g, F, ρ, sr, q⟩ => fun pd hp => by
    refine tPairs_con tab σ _ _ ⟨upd_same, kvsOf tab, by simp [kvsOf, kV], by simpa [kvsOf] using h16, pd, rfl, .inl ⟨_, .inl upd_same⟩, ?_⟩
    rw [upd_upd, hM]
    have st : Stp g F H F (upd H pd (.dK (kvsOf tab))) := sr.bs.hide hp _
    have nm : ¬ g.mem pd := sr.nmem hp
    refine ⟨g, F, ρ, sr.step st, ha.mono ρ _ _ (fun d hd F1 H1 v s1 r1 => ⟨g, F1, ρ, (sr.step st).step s1, hb.mono ρ _ _ (fun d' hd' F2 H2 v2 s2 r2 => ?_) hd⟩) q⟩
    have s12 := s1.trans s2
    split at hd'
    · rename_i z i
      have hD : H2 pd = some (.dK (kvsOf tab)) := s12.keep _ _ upd_same nm
      obtain rfl : v = .str z := r1.str
      obtain rfl : v2 = .int i := r2.int
      refine ⟨_, DGet.k (k := Sum.inr z) hD, ?_⟩
      rw [val_kvs]
      have := hd' F2 H2 (.int ((tabFind tab z).getD i)) (st.trans s12) rfl
      cases q2 : tabFind tab z with
      | some j => rw [q2] at this; exact this
      | none => rw [q2] at this; exact this
    · exact hd'.elim, fun ρ Q Q' f q => ha.mono ρ _ _ (fun d q => hb.mono ρ _ _ (fun d' q => by
    split at q
    · exact f _ q
    · exact q.elim) q) q⟩
end
end PP

set_option Elab.async false
set_option linter.all false
set_option maxRecDepth 100000
set_option maxHeartbeats 1000000
namespace PP
open PySem PySem.Spec PyProof.Rows L2
/-- the wish about an exception: its class, and the slots as data -/
abbrev RX := Value → En → Prop
def WR (K : PySem.W.Frag) (e : Ent) (M : List Md) (R : RX) : WX := fun cls d σ H => d = none ∧ ∃ g F ρ, SR K e M g F H σ ρ ∧ R cls ρ
section
variable {X : Cx} {e : Ent} {M : List Md} {x : Str} {p pos : Pos} {C : Addr} {bmB : List Value} {B newId initId : String} {R : RX}
/-- X() -/
theorem pmk_own0 (F : ExcBaseFacts B newId initId bmB) (q : PySem.W.excIn X.K C bmB newId = true) (gC : X.mg x = some (.ref C)) (kC : PySem.W.keepIn X.K (.ref C) = true) (r : Raises X (.ref C)) (hg : Gl X x)
    (hdb : (x == ("__debug__" : Str)) = false := by decide) : PMk X (.Call (.Name x p) [] [] pos) (fun _ H Q => Q (.ref C) none H) := by
  intro pins s σ H Q I h
  refine wpAny_Call_Name_kw (ld_glob I hg gC ?_ hdb)
  refine PySem.W.callWith_K0 I.kIn kC ?_
  show wpAny _ _ (call (.ref C) []) _ _ _
  obtain ⟨bm, N, nm, qn, bs, hdct, sn, sub, ab, col, dd, k0, k1, k2, k3, k5, mN, hC, hN, hni, T⟩ := exc_obj I.kIn q
  refine wpAny_call_exc_subT F T hC hN hni (fun h' e hm => ?_) (Nat.zero_le _)
  exact mk_of I hm r h (I.hok.gone hm.new)
theorem ds_raise {a : Expr} {c : Value} (hc : X.calm = true) (tk : Takes X (WR X.K e M R)) (he : PMk X a (fun _ H Q => Q c none H)) : DS X e M (.Raise (some a) none pos) (fun _ ρ => R c ρ) :=
  ⟨ps_imp (ps_raise hc tk he) fun E σ H ⟨g, F, ρ, d, s, q, h⟩ => ⟨rfl, g, F, ρ, s, q⟩, fun _ _ _ _ q => q⟩
theorem dss_nox {st : List Stmt} {t : DTS} (D : DSs X.nox e M st t) : DSs X e M st t := ⟨D.ps.nox, D.mono⟩
end
/-! ### a def that may let an exception out -/
abbrev KX := List D → (D → Prop) → (Value → Prop) → Prop
def MonoX (k : KX) : Prop := ∀ ds (Q Q' : D → Prop) (R R' : Value → Prop), (∀ d, Q d → Q' d) → (∀ c, R c → R' c) → k ds Q R → k ds Q' R'
def spX (K : PySem.W.Frag) (ms : List Md) (k : KX) : Sp := fun vs H Q E =>
  ∃ g F ds, Bs g F H ∧ ArgsOk K g F H ms ds vs ∧ k ds (fun d => ∀ F' H' v, Stp g F H F' H' → Rp K F' d v → Q v H') fun cls => ∀ F' H', Stp g F H F' H' → E cls none H'
section
variable {P : Program} {w : World} {K : PySem.W.Frag} {mg : Str → Option Value} {base : Heap}
theorem fnX {x qual : Str} {st : Stmt} {f : Addr} {fd : FuncData} {N ps : List Str} {M ms : List Md} {k : Nat} {kf : KX} {t : RX → DTS} (F : Fun K x qual st f fd) (S : FnScope N ps (defScope st)) (hM : M.take ms.length = ms) (hp : ms.all Md.par = true) (hms : ms.length = ps.length) (hn : ps.length ≤ N.length) (hso : soloM M = true)
    (bd : ∀ (cdv : Value) (A : Around) (outer : List Env) (s : Shared) (H : Hp) (E : XK) (e : Ent) (R : RX), Room k (A.deeper (envOfC qual (defScope st) s.heap.objs.size f cdv)) → (A.deeper (envOfC qual (defScope st) s.heap.objs.size f cdv)).guards = some [] →
      Takes (cxOf (L2.CX P w) P w K mg base N qual (defScope st) f cdv A outer s H E) (WR K e M R) →
      DSs (cxOf (L2.CX P w) P w K mg base N qual (defScope st) f cdv A outer s H E) e M (defBody st) (t R))
    (sp : ∀ ds (Q : D → Prop) (R : Value → Prop), kf ds Q R → t (fun c _ => R c) { nx := fun _ => Q .none, rt := Q } (startD N.length ds)) : FnG P w K mg base (L2.CX P w) (k + 1) f fd ps (spX K ms kf) := by
  refine fnG_of F S (fun vs H Q E ⟨g, F, ds, bs, a, _⟩ => ?_) fun cdv A outer s H vs Q E hr hg h => ?_
  · rw [a.len, hms]
  · obtain ⟨g, F0, ds, bs, a, q⟩ := h
    have tk := (takes_of (X := cxOf (L2.CX P w) P w K mg base N qual (defScope st) f cdv A outer s H E) (E := E) rfl rfl rfl rfl).imp (W' := WR K ⟨g, F0, H, F0⟩ M fun cls _ => ∀ F' H', Stp g F0 H F' H' → E cls none H')
      fun cls d σ H' ⟨hd, g', F', ρ, sr, hR⟩ => by rw [hd]; exact hR F' H' sr.stp
    have D := bd cdv A outer s H E ⟨g, F0, H, F0⟩ _ hr hg tk
    refine ⟨_, D.ps, g, F0, _, _, SR.begin bs a hM hp (by omega) hso, sp ds _ _ q, ?_⟩
    exact ⟨fun g' F' H' σ' ρ' s' q' => q' F' H' .non s'.stp rfl, fun F' H' d v t' r q' => q' F' H' v t' r, fun _ _ _ _ _ _ z => z.elim, fun _ _ _ _ _ _ z => z.elim, fun _ _ _ _ _ _ _ _ _ z => z.elim⟩
structure ClX (P : Program) (w : World) (K : PySem.W.Frag) (mg : Str → Option Value) (base : Heap) (k : Nat) (x : Str) (ps : List Str) (ms : List Md) (kf : KX) : Prop where
  ex : ∃ f fd, mg x = some (.ref f) ∧ PySem.W.keepIn K (.ref f) = true ∧ Binds K fd ps [] ∧ FnG P w K mg base (L2.CX P w) k f fd ps (spX K ms kf)
  mo : MonoX kf
theorem clX {x : Str} {st : Stmt} {N ps : List Str} {M ms : List Md} {k : Nat} {kf : KX} (h : Hd K mg x st ps) (S : FnScope N ps (defScope st)) (mo : MonoX kf)
    (hM : M.take ms.length = ms) (hp : ms.all Md.par = true) (hms : ms.length = ps.length) (hn : ps.length ≤ N.length)
    (bd : ∃ t : RX → DTS, (∀ (f : Addr) (cdv : Value) (A : Around) (outer : List Env) (s : Shared) (H : Hp) (E : XK) (e : Ent) (R : RX), Room k (A.deeper (envOfC x (defScope st) s.heap.objs.size f cdv)) → (A.deeper (envOfC x (defScope st) s.heap.objs.size f cdv)).guards = some [] →
      Takes (cxOf (L2.CX P w) P w K mg base N x (defScope st) f cdv A outer s H E) (WR K e M R) →
      DSs (cxOf (L2.CX P w) P w K mg base N x (defScope st) f cdv A outer s H E) e M (defBody st) (t R)) ∧
      (∀ ds (Q : D → Prop) (R : Value → Prop), kf ds Q R → t (fun c _ => R c) { nx := fun _ => Q .none, rt := Q } (startD N.length ds))) (hso : soloM M = true := by rfl) : ClX P w K mg base (k + 1) x ps ms kf := by
  obtain ⟨f, fd, F, b, m⟩ := h.ex
  obtain ⟨t, d, sp⟩ := bd
  exact ⟨⟨f, fd, m, F.kp, b, fnX F S hM hp hms hn hso (fun cdv A outer s H E e R hr hg tk => d f cdv A outer s H E e R hr hg tk) sp⟩, mo⟩
end
section
variable {X : Cx} {e : Ent} {M ms : List Md} {a : Expr} {xs : List Expr} {tr : DA} {y : Str} {ps : List Str} {k : Nat} {p pos : Pos} {R : RX}
theorem goGS {CX : CXT} {f : Addr} {fd : FuncData} {sp : Sp} {E : L2.St → XK} {pins : List (Addr × Obj)} {σ : L2.St} {H : Hp} {s : Shared} {Q : VK} {us : List Value} {vs : List V}
    (F : FnG X.prog X.w X.K X.mg X.base CX k f fd ps sp) (hr : Room k X.A) (hgd : X.A.guards = some []) (hb : Binds X.K fd ps [])
    (hx : PassesAt CX X σ (E σ)) (I : Inv X pins σ H s) (r : Vals vs us) (h : sp vs H Q (E σ)) :
    wpAny (model X.prog X.w) X.A (call (.ref f) us) (EP X pins σ Q) X.xe s := by
  have hl : (us ++ []).length = ps.length := by rw [List.append_nil, ← r.length]; exact F.len _ _ _ _ h
  have hbt := hb s us I.kIn hl
  rw [List.append_nil] at hbt
  refine wpAny_call (codeAny_mono (F.go X.A X.stack s H ⟨us, []⟩ us vs Q (E σ) hr hgd I.env0 hbt r h) ?_)
  intro res s' hq
  match res, hq with
  | .error e, hq => exact hx pins H s e s' I hq
  | .ok (.ret u), hq => exact I.after hq
  | .ok .next, hq => exact False.elim hq
  | .ok .brk, hq => exact False.elim hq
  | .ok .cont, hq => exact False.elim hq
theorem pe_callGS {CX : CXT} {f : Addr} {fd : FuncData} {sp : Sp} {E : L2.St → XK} {t : TA} (F : FnG X.prog X.w X.K X.mg X.base CX k f fd ps sp) (hr : Room k X.A) (hgd : X.A.guards = some []) (hg : Gl X y) (hm : X.mg y = some (.ref f))
    (hk : PySem.W.keepIn X.K (.ref f) = true) (hb : Binds X.K fd ps []) (hx : ∀ σ, PassesAt CX X σ (E σ)) (ha : PA X (a :: xs) t)
    (hdb : (y == ("__debug__" : Str)) = false := by decide) (he : starEach (a :: xs) X.env = (false, eval a X.env) :: starEach xs X.env := by rfl)
    (hpl : (backTo pos (starEach xs X.env)).any (·.1) = false := by rfl) :
    PE X (.Call (.Name y p) (a :: xs) [] pos) (tCallS sp E t) := by
  constructor
  intro pins s σ H Q I h
  refine wpAny_Call_Name_kw (ld_glob I hg hm (PySem.W.callWith_K (h₀ := X.base) I.ok.mod.kin hk ?_ he hpl) hdb)
  refine thn (ha.run pos pins s σ H _ I h) ?_
  rintro us s1 ⟨vs, H1, I1, r, q⟩
  exact ⟨I1.kIn, goGS F hr hgd hb (hx σ) I1 r q⟩
def tClX (kf : KX) (R : RX) (tr : DA) : DT := fun ρ Q => tr ρ fun ds => kf ds Q fun c => R c ρ
theorem de_callX {kf : KX} (Cx : ClX X.prog X.w X.K X.mg X.base k y ps ms kf) (tk : Takes X (WR X.K e M R)) (hr : Room k X.A) (hgd : X.A.guards = some []) (ha : GA X e M ms (a :: xs) tr) (hg : Gl X y := by rfl)
    (hdb : (y == ("__debug__" : Str)) = false := by decide) (he : starEach (a :: xs) X.env = (false, eval a X.env) :: starEach xs X.env := by rfl)
    (hpl : (backTo pos (starEach xs X.env)).any (·.1) = false := by rfl) : DE X e M (.Call (.Name y p) (a :: xs) [] pos) (tClX kf R tr) := by
  obtain ⟨f, fd, h1, h2, h3, h4⟩ := Cx.ex
  have mo := Cx.mo
  refine ⟨pe_imp (pe_callGS h4 hr hgd hg h1 h2 h3 (fun σ => passAt tk σ) ha.pa hdb he hpl) fun σ H Q ⟨g, F, ρ, sr, q⟩ => ⟨g, F, ρ, sr, ha.mono ρ _ _ (fun ds hd F1 H1 vs s rv => ?_) q⟩, fun ρ Q Q' f q => ha.mono ρ _ _ (fun ds q => mo _ _ _ _ _ f (fun _ r => r) q) q⟩
  exact ⟨g, F1, ds, s.bs sr.bs, rv, mo _ _ _ _ _ (fun d hq F2 H2 v s2 r2 => hq F2 H2 v (s.trans s2) r2) (fun c hR F2 H2 s2 => ⟨rfl, g, F2, ρ, (sr.step s).step s2, hR⟩) hd⟩
end
end PP

set_option Elab.async false
set_option linter.all false
set_option maxRecDepth 100000
set_option maxHeartbeats 1000000
namespace PP
open PySem PySem.Spec PyProof.Rows L2
section
variable {K : PySem.W.Frag} {e : Ent} {M : List Md} {g : Rg} {F H : Hp} {σ : L2.St} {ρ : En}
theorem SR.blank (s : SR K e M g F H σ ρ) (i : Nat) (w : Option V) : SR K e M g F H (σ.set i w) (sv ρ i none) where
  bs := s.bs
  stp := s.stp
  grel := s.grel
  low := s.low
  solo := s.solo
  len := by rw [sv_len, List.length_set]; exact s.len
  slot := fun j d h => by
    rw [gt_sv] at h
    by_cases hj : j = i
    · rw [if_pos hj] at h; split at h <;> cases h
    · rw [if_neg hj] at h
      obtain ⟨v, h1, h2⟩ := s.slot j d h
      exact ⟨v, by rw [List.getElem?_set_ne (Ne.symm hj)]; exact h1, h2⟩
  dis := fun j k v w' p hjk h1 h2 h3 h4 h5 h6 => by
    have nj : j ≠ i := fun z => by rw [gt_sv, if_pos z] at h1; split at h1 <;> exact absurd rfl h1
    have nk : k ≠ i := fun z => by rw [gt_sv, if_pos z] at h2; split at h2 <;> exact absurd rfl h2
    rw [gt_sv, if_neg nj] at h1
    rw [gt_sv, if_neg nk] at h2
    rw [List.getElem?_set_ne (Ne.symm nj)] at h3
    rw [List.getElem?_set_ne (Ne.symm nk)] at h4
    exact s.dis j k v w' p hjk h1 h2 h3 h4 h5 h6
theorem sv_same : ∀ {ρ : En} {i : Nat}, gt ρ i = none → sv ρ i none = ρ
  | [], _, _ => rfl
  | x :: r, 0, h => by have h : x = none := h; rw [h]; rfl
  | x :: r, i + 1, h => congrArg (x :: ·) (sv_same (ρ := r) (i := i) h)
end
/-- what the clause's word comes to -/
def teW (i : Nat) (a : Addr) (wd : Str) : TE := fun σ H Q => σ[i]? = some (some (.ref a)) ∧ ∀ H2, (∀ g F, Bs g F H → Stp g F H F H2) → Q (.str wd) H2
abbrev tIs (K : PySem.W.Frag) (D a C : Addr) (i : Nat) : TE := tCB (rIsE K D a) (tCons (tVar i) (tCons (tC (.ref C)) tNil))
theorem told_te {K : PySem.W.Frag} {D a CT CB : Addr} {i : Nat} {b1 b2 : Bool} {wd : Str} {σ : L2.St} {H : Hp} {Q : VK} (k1 : PySem.W.kitOne K (.ref D) (.ref CT) = some b1) (k2 : PySem.W.kitOne K (.ref D) (.ref CB) = some b2)
    (hw : (b1 = true ∧ wd = "many") ∨ (b1 = false ∧ b2 = true ∧ wd = "row")) (h : teW i a wd σ H Q) :
    tOp (rIx K) (tLst (tCons (tC (.str "many")) (tCons (tC (.str "row")) (tCons (tC (.str "other")) tNil)))) (tBM K "list" (rIndex K) (tLst (tCons (tIs K D a CT i) (tCons (tIs K D a CB i) (tCons (tC (.bl true)) tNil)))) (tCons (tC (.bl true)) tNil)) σ H Q := by
  obtain ⟨hσ, q⟩ := h
  refine ⟨show 3 ≤ sizeLine from by decide, fun p hp => ?_⟩
  refine ⟨_, hσ, .ref CT, .ref CT, b1, rfl, fun u r => r, k1, ?_⟩
  refine ⟨_, hσ, .ref CB, .ref CB, b2, rfl, fun u r => r, k2, ?_⟩
  refine ⟨show 3 ≤ sizeLine from by decide, fun r hr => ⟨.inl ⟨rfl, _, .inl (.inl upd_same)⟩, ?_⟩⟩
  have hpr : p ≠ r := fun z => by rw [← z, upd_same] at hr; cases hr
  have hL : upd (upd H p (.lst [V.str "many", .str "row", .str "other"])) r (.lst [V.bl b1, .bl b2, .bl true]) p = some (.lst [V.str "many", .str "row", .str "other"]) := by
    rw [upd_ne hpr, upd_same]
  have fin := q (upd (upd H p (.lst [V.str "many", .str "row", .str "other"])) r (.lst [V.bl b1, .bl b2, .bl true])) fun g F bs => by
    have s1 := bs.hide hp (.lst [V.str "many", .str "row", .str "other"])
    exact s1.trans ((s1.bs bs).hide hr _)
  rcases hw with ⟨rfl, rfl⟩ | ⟨rfl, rfl, rfl⟩
  · exact ⟨r, _, .bl true, 0, .bl true, rfl, rfl, .inl (.inl upd_same), rfl, rfl, rfl, rfl, fun m z' h => absurd h (Nat.not_lt_zero _), .inl ⟨p, _, _, .str "many", rfl, rfl, .inl (.inl hL), rfl, fin⟩⟩
  · refine ⟨r, _, .bl true, 1, .bl true, rfl, rfl, .inl (.inl upd_same), rfl, rfl, rfl, rfl, fun m z' h hz => ?_, .inl ⟨p, _, _, .str "row", rfl, rfl, .inl (.inl hL), rfl, fin⟩⟩
    have : m = 0 := by omega
    subst this
    cases hz
    rfl
section
variable {X : Cx} {e : Ent} {M : List Md} {i j : Nat} {x n y : Str} {c : Value} {body : List Stmt} {ex : Expr} {np p4 p5 pos pos' : Pos} {t : RX → DTS} {wordR : Addr → Str → Prop}
def tTold (i j : Nat) (t : RX → DTS) (wordR : Addr → Str → Prop) : DTS := fun d ρ => (i < ρ.length ∧ gt ρ i = none) ∧ t (fun cls ρ' => ρ' = ρ ∧ ∃ D wd, cls = .ref D ∧ wordR D wd ∧ d.nx (sv ρ j (some (.str wd)))) d ρ
theorem ds_told (hs : X.stack = X.env :: X.outer) (hf : X.env.frame = some X.env.locals) (hN : X.N.Nodup) (hi : X.N[i]? = some n) (hln : X.env.kindOf n = some .local) (hc : Names X x c)
    (hj : X.N[j]? = some y) (hy : Loc X.env.scope y) (hyl : X.fn y = true ∨ X.env.scope.names.lookup y = some .local) (hij : i ≠ j) (hm : md M j = .val) (hw : ∀ D wd, wordR D wd → PySem.W.exmOne X.K (.ref D) c = some true)
    (mo : ∀ (R R' : RX), (∀ c ρ, R c ρ → R' c ρ) → ∀ d ρ, t R d ρ → t R' d ρ)
    (hb : ∀ (R : RX) (pn : List (Addr × Obj)) (xe : Value → Shared → Prop), Takes (X.tr pn xe) (WR X.K e M R) → DSs (X.tr pn xe) e M body (t R))
    (hsu : ∀ (a : Addr) (oe : Obj) (D : Addr) (pn : List (Addr × Obj)) (wd : Str), Zc (.ref D) none oe → (∃ vs, oe.data = .fields vs) → wordR D wd → PE (X.suite a ((a, oe) :: pn)) ex (teW i a wd))
    (hsw : swapsWith ex (some (.Name y p4)) p5.line X.env = pure false := by rfl) :
    DS X e M (.Try body [.ExceptHandler (some (.Name x np)) (some n) [.Assign [.Name y p4] ex p5] pos'] [] [] pos) (tTold i j t wordR) := by
  refine ⟨ps_imp (ps_try_as (Wout := fun _ _ _ _ => False) (tb := fun W D σ H => ∃ R : RX, (∀ c d σ H, WR X.K e M R c d σ H → W c d σ H) ∧ rdS X.K e M (t R) D σ H)
    (ts := fun a cls dd D σ H => ∃ (D' : Addr) (wd : Str), cls = .ref D' ∧ dd = none ∧ wordR D' wd ∧ σ[i]? = some (some (.ref a)) ∧ ∀ H2, (∀ g F, Bs g F H → Stp g F H F H2) → D.nx (σ.set j (some (.str wd))) H2)
    hs hf hN hi hln hc (fun u s' ⟨a, B, sI, pins, σ, H, cls, d, _, _, _, _, _, _, _, _, w⟩ => w.elim) (fun W pn xe tk pw => ?_) (fun a oe cls dd pn hz hfd => ?_)) ?_, ?_⟩
  · refine ⟨fun pins s σ H D I h => ?_⟩
    obtain ⟨R, hR, h⟩ := h
    exact (hb R pn xe (tk.imp hR)).ps.run pins s σ H D I h
  · refine ⟨fun pins s σ H D I h => ?_⟩
    obtain ⟨D', wd, e1, e2, hwd, hσ, hnx⟩ := h
    subst e1 e2
    have P := pss_cons (ps_set hN hj hy (hsu a oe D' pn wd hz hfd hwd) hsw hyl) (X := X.suite a ((a, oe) :: pn)) pss_nil
    exact P.run pins s σ H D I ⟨hσ, fun H2 st => hnx H2 st⟩
  · rintro E σ H ⟨g, F, ρ, d, s, ⟨⟨hl, h0⟩, q⟩, h⟩
    refine ⟨_, ?_, g, F, ρ, d, s, q, h⟩
    rintro cls dd σ' H' ⟨rfl, g', F', ρ', s', rfl, D, wd, rfl, hwd, hnx⟩
    refine ⟨true, hw D wd hwd, fun _ a ha => ?_, fun z => by cases z⟩
    have li : i < σ'.length := by rw [s'.len]; exact hl
    refine ⟨D, wd, rfl, rfl, hwd, by rw [List.getElem?_set_self li], fun H2 st => ?_⟩
    have s1 := s'.blank i (some (.ref a))
    rw [sv_same h0] at s1
    have s2 := (s1.step (st g' F' s'.bs)).setv (i := j) (d := .str wd) (v := .str wd) hm rfl
    have s3 := s2.blank i none
    have hg : gt (sv ρ' j (some (.str wd))) i = none := by rw [gt_sv, if_neg hij]; exact h0
    rw [sv_same hg] at s3
    exact h.nx _ _ _ _ _ s3 hnx
  · rintro d d' ρ k ⟨h0, q⟩
    refine ⟨h0, ?_⟩
    exact mo _ _ (fun c ρ' ⟨e1, D, wd, e2, hwd, hnx⟩ => ⟨e1, D, wd, e2, hwd, k.nx _ hnx⟩) _ _ ((hb _ [] (fun _ _ => True) (fun _ _ _ => trivial)).mono _ _ _ k q)
end
end PP

set_option Elab.async false
set_option linter.all false
set_option maxRecDepth 100000
set_option maxHeartbeats 1000000
namespace PP
open PySem PySem.Spec PyProof.Rows L2
/-- M with the mode of slot i given up -/
structure Remode (M M' : List Md) (i : Nat) : Prop where
  own : md M i = .own
  val : md M' i = .val
  same : ∀ j, j ≠ i → md M' j = md M j
theorem remode_set {M : List Md} {i : Nat} (h : md M i = .own) (l : i < M.length) : Remode M (M.set i .val) i := by
  refine ⟨h, ?_, fun j hj => ?_⟩
  · unfold md; rw [List.getD_eq_getElem?_getD, List.getElem?_set_self l]; rfl
  · unfold md; rw [List.getD_eq_getElem?_getD, List.getD_eq_getElem?_getD, List.getElem?_set_ne (Ne.symm hj)]
section
variable {K : PySem.W.Frag} {e : Ent} {M M' : List Md} {g : Rg} {F H : Hp} {σ : L2.St} {ρ : En} {i : Nat}
theorem SR.frz (s : SR K e M g F H σ ρ) (r : Remode M M' i) {ds : List D} (h : gt ρ i = some (.list ds)) : ∃ F', SR K e M' g F' H σ ρ := by
  obtain ⟨p, vs, ds', e1, e2, h3, h4, h5, h6, h7⟩ := s.ownAt h r.own
  have e1 : ds = ds' := by injection e1
  subst e1
  have up : Le F (upd F p (.lst vs)) := .new h5
  have mi : (md M i).mine = true := by rw [r.own]; rfl
  have gi : gt ρ i ≠ none := by rw [h]; exact fun z => nomatch z
  refine ⟨upd F p (.lst vs), ⟨⟨fun a u q => ?_, s.bs.ok, fun a ma => ?_⟩, s.stp.freeze h6 h5 h3, s.grel, s.len, fun j d hj => ?_, fun j k u w q hjk h1 h2 h3 h4 h5 h6 => ?_, s.low.trans up, trivial⟩⟩
  · by_cases c : a = p
    · subst c; rw [upd_same] at q; cases q; exact h3
    · rw [upd_ne c] at q; exact s.bs.sub a u q
  · rw [upd_ne fun z => h7 (by rw [← z]; exact ma)]
    exact s.bs.out a ma
  · by_cases c : j = i
    · subst c
      rw [h] at hj
      cases hj
      rw [r.val]
      exact ⟨_, e2, p, vs, rfl, upd_same, h4.mono up⟩
    · obtain ⟨v, a1, a2⟩ := s.slot j d hj
      refine ⟨v, a1, ?_⟩
      rw [r.same j c]
      have gj : gt ρ j ≠ none := by rw [hj]; exact fun z => nomatch z
      have ne : ∀ q, foot H (md M j) v q → q ≠ p := fun q fq z => by
        subst z
        exact s.dis j i v _ q c gj gi a1 e2 fq ((foot_mine mi).mpr rfl)
      have fn : ∀ q, foot H (md M j) v q → (upd F p (.lst vs)) q = none := fun q fq => by
        rw [upd_ne (ne q fq)]
        exact (a2.footAt fq).2.1
      cases hm : md M j with
      | val => rw [hm] at a2; exact Rp.mono up a2
      | own =>
        rw [hm] at a2 fn
        obtain ⟨p', vs', ds', b1, b2, b3, b4, b5, b6, b7⟩ := a2
        exact ⟨p', vs', ds', b1, b2, b3, b4.mono up, fn p' b1, b6, b7⟩
      | od =>
        rw [hm] at a2 fn
        obtain ⟨p', vs', ds', b1, b2, b3, b4, b5, b6, b7⟩ := a2
        exact ⟨p', vs', ds', b1, b2, b3, b4.mono up, fn p' b1, b6, b7⟩
      | bor =>
        rw [hm] at a2
        obtain ⟨p', vs', ds', b1, b2, b3, b4, b5⟩ := a2
        exact ⟨p', vs', ds', b1, b2, b3, b4.mono up, b5⟩
      | dk => rw [hm] at a2; exact a2
      | ex => rw [hm] at a2; exact ExM.mono up a2
      | oo =>
        rw [hm] at a2 fn
        obtain ⟨p', as, dss, b1, b2, b3, b4, b5, b6, b7, b8⟩ := a2
        exact ⟨p', as, dss, b1, b2, b3, b4.up up fun q hq => fn q ⟨p', b1, .inr ⟨_, b3, List.mem_map.mpr ⟨q, hq, rfl⟩⟩⟩, fn p' ⟨p', b1, .inl rfl⟩, b6, b7, b8⟩
      | ob _ _ =>
        rw [hm] at a2 fn
        obtain ⟨a', dx, C, fs, ks, b1, b2, b3, b4, b5, b6, b7, b8, b9, b10⟩ := a2
        exact ⟨a', dx, C, fs, ks, b1, b2, b3, b4, b5.up up fun q hq => fn q ⟨a', b1, .inr ⟨_, _, _, b3, .inr hq⟩⟩, ⟨fn a' ⟨a', b1, .inl rfl⟩, fn dx ⟨a', b1, .inr ⟨_, _, _, b3, .inl rfl⟩⟩⟩, b7, b8, b9, b10⟩
  · have nj : j ≠ i := fun z => by rw [z, r.val] at h5; exact h5
    have nk : k ≠ i := fun z => by rw [z, r.val] at h6; exact h6
    rw [r.same j nj] at h5
    rw [r.same k nk] at h6
    exact s.dis j k u w q hjk h1 h2 h3 h4 h5 h6
theorem SR.back (s : SR K e M' g F H σ ρ) (r : Remode M M' i) (so : True) : SR K e M g F H σ (sv ρ i none) where
  bs := s.bs
  stp := s.stp
  grel := s.grel
  low := s.low
  solo := so
  len := by rw [sv_len]; exact s.len
  slot := fun j d h => by
    rw [gt_sv] at h
    by_cases hj : j = i
    · rw [if_pos hj] at h; split at h <;> cases h
    · rw [if_neg hj] at h
      obtain ⟨v, h1, h2⟩ := s.slot j d h
      exact ⟨v, h1, by rw [← r.same j hj]; exact h2⟩
  dis := fun j k v w p hjk h1 h2 h3 h4 h5 h6 => by
    have nj : j ≠ i := fun z => by rw [gt_sv, if_pos z] at h1; split at h1 <;> exact absurd rfl h1
    have nk : k ≠ i := fun z => by rw [gt_sv, if_pos z] at h2; split at h2 <;> exact absurd rfl h2
    rw [gt_sv, if_neg nj] at h1
    rw [gt_sv, if_neg nk] at h2
    exact s.dis j k v w p hjk h1 h2 h3 h4 (by rw [r.same j nj]; exact h5) (by rw [r.same k nk]; exact h6)
end
def tFrz (i : Nat) (t : DTS) : DTS := fun d ρ => (∃ ds, gt ρ i = some (.list ds)) ∧ t { nx := fun ρ => d.nx (sv ρ i none), rt := d.rt, bk := fun ρ => d.bk (sv ρ i none), ct := fun ρ => d.ct (sv ρ i none), rs := fun x ρ => d.rs x (sv ρ i none) } ρ
/-- from here on the list of slot i stays as it is -/
theorem dss_frz {X : Cx} {e : Ent} {M M' : List Md} {st : List Stmt} {t : DTS} (i : Nat) (r : Remode M M' i) (D : DSs X e M' st t) : DSs X e M st (tFrz i t) :=
  ⟨pss_imp D.ps fun E σ H ⟨g, F, ρ, d, s, ⟨⟨ds, hd⟩, q⟩, h⟩ => by
    obtain ⟨F', s'⟩ := s.frz r hd
    exact ⟨g, F', ρ, _, s', q, ⟨fun g F H σ ρ s2 q => h.nx _ _ _ _ _ (s2.back r s.solo) q, h.rt, fun g F H σ ρ s2 q => h.bk _ _ _ _ _ (s2.back r s.solo) q, fun g F H σ ρ s2 q => h.ct _ _ _ _ _ (s2.back r s.solo) q, fun g F H σ ρ x v s2 r2 q => h.rs _ _ _ _ _ _ _ (s2.back r s.solo) r2 q⟩⟩,
   fun d d' ρ k ⟨h, q⟩ => ⟨h, D.mono { nx := fun ρ => d.nx (sv ρ i none), rt := d.rt, bk := fun ρ => d.bk (sv ρ i none), ct := fun ρ => d.ct (sv ρ i none), rs := fun x ρ => d.rs x (sv ρ i none) } { nx := fun ρ => d'.nx (sv ρ i none), rt := d'.rt, bk := fun ρ => d'.bk (sv ρ i none), ct := fun ρ => d'.ct (sv ρ i none), rs := fun x ρ => d'.rs x (sv ρ i none) } ρ ⟨fun ρ q => k.nx _ q, k.rt, fun ρ q => k.bk _ q, fun ρ q => k.ct _ q, fun x ρ q => k.rs _ _ q⟩ q⟩⟩
end PP

set_option Elab.async false
set_option linter.all false
set_option maxRecDepth 100000
set_option maxHeartbeats 1000000
namespace PP
open PySem PySem.Spec PyProof.Rows L2
section
variable {X : Cx} {e : Ent} {M : List Md} {a b : Expr} {ta tb : DT} {pos p1 p2 p3 spos : Pos}
/-- t.index(k), t a tuple of ints -/
def tIdxF (to : TE) (t : TA) : TE := fun σ H Q => to σ H fun x H1 => ∃ (p : Addr) (ys : List V), x = .ref p ∧ FrT H1 p ys ∧ t σ H1 fun xs H2 => ∃ (k : Int) (ns : List Int), xs = [.int k] ∧ ys = ns.map V.int ∧ FrT H2 p ys ∧ k ∈ ns ∧ Q (.int (ns.idxOf k : Nat)) H2
theorem pe_tindexF {to : TE} {t : TA} {cpos apos : Pos} (ho : PE X a to) (ha : PA X [b] t)
    (hbase : attributeBase a "index" X.env (eval a X.env) = eval a X.env := by rfl)
    (hfew : ((backTo cpos (starEach [b] X.env)).all (fun x => !x.1) && (backToKw cpos (keywordEach [] X.env)).all (fun x => x.1.isSome)
      && decide ([b].length + ([] : List Keyword).length + (if ([] : List Keyword).isEmpty then 0 else 1) < 30)) = true := by rfl)
    (hline : (apos.endLine == cpos.line) = true := by rfl) (hs : starEach [b] X.env = (false, eval b X.env) :: starEach [] X.env := by rfl) (hplain : (backTo cpos (starEach [] X.env)).any (·.1) = false := by rfl) :
    PE X (.Call (.Attribute a "index" apos) [b] [] cpos) (tIdxF to t) := by
  refine ⟨fun pins s σ H Q I h => ?_⟩
  refine wpAny_Call_method_late hbase hfew hline rfl (thn (ho.run pins s σ H _ I h) fun v s1 ⟨x, H1, I1, r1, q1⟩ => ?_)
  obtain ⟨p, ys, rfl, ⟨o, hp, hc, hd⟩, q1⟩ := q1
  cases r1
  have hob := (I1.hok p _ hp).1
  refine ⟨"tuple", "tuple.index", PySem.F.plainAttrs_tuple, PySem.F.slot_tuple_index, PySem.F.type_tuple_index, ⟨o, hob, hc⟩, fun a e => by cases e; exact ⟨o, hob, hd⟩, ?_⟩
  have hA := ha.run cpos pins s1 σ H1 _ I1 q1
  rw [hs] at hA ⊢
  refine Calls.callWith_builtin (by show (false || (backTo cpos (starEach [] X.env)).any (·.1)) = false; rw [hplain] <;> rfl) (Calls.evalArgs_plain ?_)
  refine thn hA fun us s2 ⟨vs, H2, I2, r2, k, ns, ek, ey, fr, hk, q2⟩ => ?_
  subst ek
  subst ey
  obtain ⟨u, rfl, t, rfl⟩ := vals1 r2
  obtain ⟨its, r, pl, hz⟩ := I2.tuple (fr.sq (K := X.K))
  exact SeqAt.tuple_index_ints pl (RZ.intsAre_vals r) hk ⟨.int (ns.idxOf k : Nat), H2, I2.tok _, ⟨_, rfl⟩, q2⟩
structure IdxAt (es : List D) (k : Int) (Q : D → Prop) : Prop where
  ex : ∃ ns : List Int, es = ns.map PyData.int ∧ k ∈ ns ∧ Q (.int (ns.idxOf k : Nat))
def tTidx (ta tb : DT) : DT := fun ρ Q => ta ρ fun x => match x with
  | .tuple es => tb ρ fun z => (match z with
    | .int k => IdxAt es k Q
    | _ => False)
  | _ => False
theorem de_tindex {cpos apos : Pos} (ha : RE X e M a ta) (hb : RE X e M b tb) (h1 : starEach [b] X.env = (false, eval b X.env) :: starEach [] X.env := by rfl)
    (hE : ∀ {to : TE} {t : TA}, PE X a to → PA X [b] t → PE X (.Call (.Attribute a "index" apos) [b] [] cpos) (tIdxF to t) := by
      intro to t h h'; exact pe_tindexF h h') :
    DE X e M (.Call (.Attribute a "index" apos) [b] [] cpos) (tTidx ta tb) :=
  ⟨pe_imp (hE ha.pe (pa_cons hb.pe pa_nil h1)) fun σ H Q ⟨g, F, ρ, sr, q⟩ => ⟨g, F, ρ, sr, ha.mono ρ _ _ (fun dx hx F1 H1 x s1 rx => by
    split at hx
    · rename_i es
      obtain ⟨p, vs, rfl, fr, rl⟩ := rx.tup
      refine ⟨p, vs, rfl, (s1.bs sr.bs).sub.frT fr, g, F1, ρ, sr.step s1, hb.mono ρ _ _ (fun dz hz F2 H2 z s2 rz => ?_) hx⟩
      split at hz
      · obtain ⟨ns, e1, hk, hq⟩ := hz.ex
        subst e1
        have e3 := RpL.ints_inv rl
        subst e3
        obtain rfl : z = .int _ := rz.int
        exact ⟨_, ns, rfl, rfl, ((s1.trans s2).bs sr.bs).sub.frT (s2.mono.frT fr), hk, hq F2 H2 _ (s1.trans s2) rfl⟩
      · exact hz.elim
    · exact hx.elim) q⟩, fun ρ Q Q' f q => ha.mono ρ _ _ (fun dx hx => by
    split at hx
    · refine hb.mono ρ _ _ (fun dz hz => ?_) hx
      split at hz
      · obtain ⟨ns, e1, hk, hq⟩ := hz.ex
        exact ⟨⟨ns, e1, hk, f _ hq⟩⟩
      · exact hz.elim
    · exact hx.elim) q⟩
end
end PP

set_option Elab.async false
set_option linter.all false
set_option maxRecDepth 100000
set_option maxHeartbeats 1000000
namespace PP
open PySem PySem.Spec PyProof.Rows L2
/-! ### a region that changes by states -/
structure Fam (S : Type) where
  rg : S → Rg
  root : ∀ s t, (rg s).root = (rg t).root
  mem : ∀ s t, (rg s).mem = (rg t).mem
  some : ∀ s, rg s ≠ Rg.no
  deck : ∀ s t, IsDeck (rg s) → IsDeck (rg t)
structure EC where
  F : Hp
  H : Hp
  Fb : Hp
abbrev EC.low (c : EC) (L : Hp) : EC := { c with Fb := L }
abbrev EC.at (c : EC) (g : Rg) : Ent := ⟨g, c.F, c.H, c.Fb⟩
abbrev SS {S : Type} (K : PySem.W.Frag) (c : EC) (fm : Fam S) (M : List Md) (s : S) (F H : Hp) (σ : L2.St) (ρ : En) : Prop := SR K (c.at (fm.rg s)) M (fm.rg s) F H σ ρ
section
variable {S : Type} {K : PySem.W.Frag} {c : EC} {fm : Fam S} {M : List Md} {s t s1 s2 : S} {F H F' H' F1 H1 F2 H2 : Hp} {σ : L2.St} {ρ : En}
theorem Fam.nm (fm : Fam S) {s : S} (t : S) {a : Addr} (h : ¬ (fm.rg s).mem a) : ¬ (fm.rg t).mem a := by rw [fm.mem t s]; exact h
theorem Fam.ym (fm : Fam S) {s : S} (t : S) {a : Addr} (h : (fm.rg s).mem a) : (fm.rg t).mem a := by rw [fm.mem t s]; exact h
theorem InnerOk.cast {eH : Hp} {R : List D → List V → Prop} : ∀ {as : List Addr} {dss : List (List D)}, InnerOk F H (fm.rg s) eH R as dss → InnerOk F H (fm.rg t) eH R as dss
  | [], _, h => h
  | _ :: _, _, ⟨ds, dr, vs, h1, h2, h3, h4, h5, h6, h7⟩ => ⟨ds, dr, vs, h1, h2, h3, h4, h5, fm.nm t h6, InnerOk.cast h7⟩
theorem FldOk.cast {eH : Hp} : ∀ {k : Fk} {d : D} {v : V}, FldOk K F H (fm.rg s) eH k d v → FldOk K F H (fm.rg t) eH k d v
  | .val, _, _, h => h
  | .own, _, _, ⟨p, vs, ds, h1, h2, h3, h4, h5, h6, h7⟩ => ⟨p, vs, ds, h1, h2, h3, h4, h5, h6, fm.nm t h7⟩
  | .od, _, _, ⟨p, vs, ds, h1, h2, h3, h4, h5, h6, h7⟩ => ⟨p, vs, ds, h1, h2, h3, h4, h5, h6, fm.nm t h7⟩
theorem FldsOk.cast {eH : Hp} : ∀ {fks : List (Str × Fk)} {fs : List (Str × V)} {ks : List (D × D)}, FldsOk K F H (fm.rg s) eH fks fs ks → FldsOk K F H (fm.rg t) eH fks fs ks
  | [], _, _, h => h
  | _ :: _, _, _, ⟨x, d, fr, kr, h1, h2, h3, h4⟩ => ⟨x, d, fr, kr, h1, h2, h3.cast, FldsOk.cast h4⟩
theorem SlotOk.cast : ∀ {m : Md} {d : D} {v : V}, SlotOk K (c.at (fm.rg s)) (fm.rg s) F H m d v → SlotOk K (c.at (fm.rg t)) (fm.rg t) F H m d v
  | .val, _, _, h => h
  | .ex, _, _, h => h
  | .own, _, _, ⟨p, vs, ds, h1, h2, h3, h4, h5, h6, h7⟩ => ⟨p, vs, ds, h1, h2, h3, h4, h5, h6, fm.nm t h7⟩
  | .od, _, _, ⟨p, vs, ds, h1, h2, h3, h4, h5, h6, h7⟩ => ⟨p, vs, ds, h1, h2, h3, h4, h5, h6, fm.nm t h7⟩
  | .bor, _, _, ⟨p, vs, ds, h1, h2, h3, h4, h5⟩ => ⟨p, vs, ds, h1, h2, h3, h4, fm.nm t h5⟩
  | .dk, _, _, ⟨h1, h2⟩ => ⟨h1.trans (fm.root s t), fm.deck s t h2⟩
  | .oo, _, _, ⟨p, as, dss, h1, h2, h3, h4, h5, h6, h7, h8⟩ => ⟨p, as, dss, h1, h2, h3, h4.cast, h5, h6, fm.nm t h7, h8⟩
  | .ob _ _, _, _, ⟨a, dx, C, fs, ks, h1, h2, h3, h4, h5, h6, h7, ⟨m1, m2⟩, h9, h10⟩ => ⟨a, dx, C, fs, ks, h1, h2, h3, h4, h5.cast, h6, h7, ⟨fm.nm t m1, fm.nm t m2⟩, h9, h10⟩
theorem RdR.cast {d : D} {v : V} (h : RdR K (fm.rg s) F H d v) : RdR K (fm.rg t) F H d v := by
  rcases h with h | ⟨p, vs, ds, h1, h2, h3, h4, h5⟩ | ⟨p, vs, ds, h1, h2, h3, h4, h5⟩
  · exact .inl h
  · exact .inr (.inl ⟨p, vs, ds, h1, h2, h3, fm.nm t h4, h5⟩)
  · exact .inr (.inr ⟨p, vs, ds, h1, h2, h3, fm.nm t h4, h5⟩)
theorem RdR.stepZ (u : Stp (fm.rg t) F H F' H') {d : D} {v : V} (h : RdR K (fm.rg s) F H d v) : RdR K (fm.rg t) F' H' d v := (RdR.cast (t := t) h).step u
theorem ArgOk.castZ : ∀ {m : Md} {d : D} {v : V}, ArgOk K (fm.rg s) F H m d v → ArgOk K (fm.rg t) F H m d v
  | .bor, _, _, ⟨p, vs, ds, h1, h2, h3, h4, h5⟩ => ⟨p, vs, ds, h1, h2, h3, fm.nm t h4, h5⟩
  | .dk, _, _, ⟨h1, h2⟩ => ⟨h1.trans (fm.root s t), fm.deck s t h2⟩
  | .val, _, _, h => h
  | .ex, _, _, h => h
  | .own, _, _, h => h
  | .od, _, _, h => h
  | .oo, _, _, h => h
  | .ob _ _, _, _, h => h
theorem Bs.stepZ (b : Bs (fm.rg s) F H) (u : Stp (fm.rg t) F H F' H') : Bs (fm.rg t) F' H' := ⟨u.sub, u.ok, fun a m => by
  cases e : F' a with
  | none => rfl
  | some o =>
    rcases u.new a o e with q | q
    · rw [b.out a (fm.ym s m)] at q; cases q
    · exact absurd q ((fm.rg s).dom H b.ok a (fm.ym s m))⟩
theorem Stp.transZ (a : Stp (fm.rg s) F H F1 H1) (b : Stp (fm.rg t) F1 H1 F2 H2) : Stp (fm.rg t) F H F2 H2 where
  mono := a.mono.trans b.mono
  sub := b.sub
  new := fun x o h => by
    rcases b.new x o h with q | q
    · exact a.new x o q
    · exact .inr (a.old q)
  keep := fun x o h m => b.keep x o (a.keep x o h (fm.nm s m)) m
  ok := b.ok
theorem SS.step (a : SS K c fm M s F H σ ρ) (u : Stp (fm.rg t) F H F' H') : SS K c fm M t F' H' σ ρ where
  bs := a.bs.stepZ u
  stp := a.stp.transZ u
  grel := .inl rfl
  len := a.len
  slot := fun i d h => let ⟨v, h1, h2⟩ := a.slot i d h; ⟨v, h1, (SlotOk.cast (t := t) h2).step u⟩
  dis := SR.stepDis a (fun p o h hm => u.keep p o h (fm.nm t hm))
  low := a.low.trans u.mono
  solo := a.solo
theorem SS.nm (a : SS K c fm M s F H σ ρ) {p : Addr} (h : H p = none) : ¬ (fm.rg t).mem p := fm.nm t (a.nmem h)
theorem SS.relow {B : Hp} {Fb : Hp} (s0 : SS K (c.low Fb) fm M s F H σ ρ) (l : Le B F) : SS K (c.low B) fm M s F H σ ρ :=
  ⟨s0.bs, s0.stp, s0.grel, s0.len, s0.slot, s0.dis, l, s0.solo⟩
/-- a new list into a slot -/
theorem SS.setm (a : SS K c fm M s F H σ ρ) (u : Stp (fm.rg t) F H F' H') {i : Nat} {p : Addr} (hp : H p = none) {d : D} (ok : SlotOk K (c.at (fm.rg t)) (fm.rg t) F' H' (md M i) d (.ref p)) (hmi : (md M i).mine = true := by first | rfl | (simp only [*]; rfl) | assumption) : SS K c fm M t F' H' (σ.set i (some (.ref p))) (sv ρ i (some d)) :=
  have b := a.step u
  { bs := b.bs, low := b.low, solo := b.solo, stp := b.stp, grel := b.grel
    len := by rw [List.length_set, sv_len]; exact a.len
    slot := fun j d' h => by
      rw [gt_sv] at h
      by_cases hj : j = i
      · subst hj
        rw [if_pos rfl] at h
        split at h
        · rename_i hl
          cases h
          exact ⟨_, by rw [set_at, if_pos rfl, if_pos (by rw [a.len]; exact hl)], ok⟩
        · cases h
      · rw [if_neg hj] at h
        obtain ⟨w, h1, h2⟩ := b.slot j d' h
        exact ⟨w, by rw [set_at, if_neg hj]; exact h1, h2⟩
    dis := fun j k v w q hjk h1 h2 h3 h4 h5 h6 => by
      have key : ∀ {x : Nat} {y : V}, x ≠ i → gt (sv ρ i (some d)) x ≠ none → (σ.set i (some (.ref p)))[x]? = some (some y) → foot H' (md M x) y q → gt ρ x ≠ none ∧ σ[x]? = some (some y) ∧ foot H (md M x) y q ∧ H q ≠ none := fun {x y} na ha hq hf => by
        rw [gt_sv, if_neg na] at ha
        rw [set_at, if_neg na] at hq
        obtain ⟨d1, _, k1⟩ := SR.slotAt a ha hq
        have f1 := k1.footBack (fun b o _ hb _ hm _ _ => u.keep b o hb (fm.nm t hm)) hf
        obtain ⟨⟨o, ho⟩, _⟩ := k1.footAt f1
        exact ⟨ha, hq, f1, by rw [ho]; simp⟩
      have new : ∀ {y : V}, (σ.set i (some (.ref p)))[i]? = some (some y) → foot H' (md M i) y q → H q = none := fun {y} hq hf => by
        rw [set_at, if_pos rfl] at hq
        split at hq
        · cases hq
          have := (foot_mine hmi).mp hf
          cases this
          exact hp
        · cases hq
      by_cases ej : j = i
      · have nk : k ≠ i := fun z => hjk (ej.trans z.symm)
        subst ej
        exact (key nk h2 h4 h6).2.2.2 (new h3 h5)
      · by_cases ek : k = i
        · subst ek
          exact (key ej h1 h3 h5).2.2.2 (new h4 h6)
        · obtain ⟨a1, a2, a3, _⟩ := key ej h1 h3 h5
          obtain ⟨b1, b2, b3, _⟩ := key ek h2 h4 h6
          exact a.dis j k v w q hjk a1 b1 a2 b2 a3 b3 }
theorem SS.put (a : SS K c fm M s F H σ ρ) (u : Stp (fm.rg t) F H F' H') {i : Nat} {m : Md} {d : D} {v : V} (hm : md M i = m) (ok : PutOk K m F H F' H' d v) : SS K c fm M t F' H' (σ.set i (some v)) (sv ρ i (some d)) := by
  subst hm
  cases q : md M i with
  | val => rw [q] at ok; exact SR.setv (SS.step a u) q ok
  | ex => rw [q] at ok; exact SR.setx (SS.step a u) q ok
  | own =>
    rw [q] at ok
    obtain ⟨p, vs, ds, e1, e2, h1, h2, h3, r⟩ := ok
    subst e1 e2
    exact SS.setm a u h1 (by rw [q]; exact ⟨p, vs, ds, rfl, rfl, h3, r, h2, a.stp.old h1, SS.nm a h1⟩)
  | bor => rw [q] at ok; exact False.elim ok
  | dk => rw [q] at ok; exact False.elim ok
  | od => rw [q] at ok; exact False.elim ok
  | oo => rw [q] at ok; exact False.elim ok
  | ob _ _ => rw [q] at ok; exact False.elim ok
end
/-! ### the judgements, with states -/
abbrev ZT (S α : Type) := En → S → (α → S → Prop) → Prop
def MonoZ {S α : Type} (t : ZT S α) : Prop := ∀ ρ s (Q Q' : α → S → Prop), (∀ d s', Q d s' → Q' d s') → t ρ s Q → t ρ s Q'
section
variable {S : Type} (K : PySem.W.Frag) (c : EC) (fm : Fam S) (M : List Md)
def zE (t : ZT S D) : TE := fun σ H Q => ∃ s F ρ, SS K c fm M s F H σ ρ ∧ t ρ s fun d s' => ∀ F' H' v, Stp (fm.rg s') F H F' H' → Rp K F' d v → Q v H'
def zR (t : ZT S D) : TE := fun σ H Q => ∃ s F ρ, SS K c fm M s F H σ ρ ∧ t ρ s fun d s' => ∀ F' H' v, Stp (fm.rg s') F H F' H' → RdR K (fm.rg s') F' H' d v → Q v H'
def zF (t : ZT S (List D)) : TE := fun σ H Q => ∃ s F ρ, SS K c fm M s F H σ ρ ∧ t ρ s fun ds s' => ∀ F' H' p vs, Stp (fm.rg s') F H F' H' → H p = none → F' p = none → H' p = some (.lst vs) → RpL K F' ds vs → Q (.ref p) H'
def zP (m : Md) (t : ZT S D) : TE := fun σ H Q => ∃ s F ρ, SS K c fm M s F H σ ρ ∧ t ρ s fun d s' => ∀ F' H' v, Stp (fm.rg s') F H F' H' → PutOk K m F H F' H' d v → Q v H'
def zB (t : ZT S Bool) : TT := fun σ H Q => ∃ s F ρ, SS K c fm M s F H σ ρ ∧ t ρ s fun b s' => ∀ F' H', Stp (fm.rg s') F H F' H' → Q b H'
def zA (t : ZT S (List D)) : TA := fun σ H Q => ∃ s F ρ, SS K c fm M s F H σ ρ ∧ t ρ s fun ds s' => ∀ F' H' vs, Stp (fm.rg s') F H F' H' → RpL K F' ds vs → Q vs H'
def zRA (t : ZT S (List D)) : TA := fun σ H Q => ∃ s F ρ, SS K c fm M s F H σ ρ ∧ t ρ s fun ds s' => ∀ F' H' vs, Stp (fm.rg s') F H F' H' → RdRL K (fm.rg s') F' H' ds vs → Q vs H'
def zG (ms : List Md) (t : ZT S (List D)) : TA := fun σ H Q => ∃ s F ρ, SS K c fm M s F H σ ρ ∧ t ρ s fun ds s' => ∀ F' H' vs, Stp (fm.rg s') F H F' H' → ArgsOk K (fm.rg s') F' H' ms ds vs → Q vs H'
def zI (t : ZT S (List D)) : TI := fun σ H R => ∃ s F ρ, SS K c fm M s F H σ ρ ∧ t ρ s fun ds s' => ∀ F' H' J, Stp (fm.rg s') F H F' H' → Wk K J ds F' → R J H'
def zTg (L : List Nat) (t : DG) : TG := fun v σ H Q => ∃ s F ρ d, SS K c fm M s F H σ ρ ∧ Rp K F d v ∧ t d ρ fun ρ' => ∀ F' H' σ', Stp (fm.rg s) F H F' H' → SS K c fm M s F' H' σ' ρ' → Same' L σ σ' → Q σ' H'
end
section
variable {S : Type}
structure ZE (X : Cx) (c : EC) (fm : Fam S) (M : List Md) (x : Expr) (t : ZT S D) : Prop where
  pe : PE X x (zE X.K c fm M t)
  mono : MonoZ t
structure ZR (X : Cx) (c : EC) (fm : Fam S) (M : List Md) (x : Expr) (t : ZT S D) : Prop where
  pe : PE X x (zR X.K c fm M t)
  mono : MonoZ t
structure ZF (X : Cx) (c : EC) (fm : Fam S) (M : List Md) (x : Expr) (t : ZT S (List D)) : Prop where
  pe : PE X x (zF X.K c fm M t)
  mono : MonoZ t
structure ZP (X : Cx) (c : EC) (fm : Fam S) (M : List Md) (m : Md) (x : Expr) (t : ZT S D) : Prop where
  pe : PE X x (zP X.K c fm M m t)
  mono : MonoZ t
structure ZC (X : Cx) (c : EC) (fm : Fam S) (M : List Md) (x : Expr) (t : ZT S Bool) : Prop where
  pt : PT X x (zB X.K c fm M t)
  mono : MonoZ t
structure ZW (X : Cx) (c : EC) (fm : Fam S) (M : List Md) (x : Expr) (t : ZT S Bool) : Prop where
  pw : PW X x (zB X.K c fm M t)
  mono : MonoZ t
structure ZTs (X : Cx) (c : EC) (fm : Fam S) (M : List Md) (ifs : List Expr) (t : ZT S Bool) : Prop where
  pt : PTs X ifs (zB X.K c fm M t)
  mono : MonoZ t
structure ZA (X : Cx) (c : EC) (fm : Fam S) (M : List Md) (xs : List Expr) (t : ZT S (List D)) : Prop where
  pa : PA X xs (zA X.K c fm M t)
  mono : MonoZ t
structure ZRA (X : Cx) (c : EC) (fm : Fam S) (M : List Md) (xs : List Expr) (t : ZT S (List D)) : Prop where
  pa : PA X xs (zRA X.K c fm M t)
  mono : MonoZ t
structure ZG (X : Cx) (c : EC) (fm : Fam S) (M ms : List Md) (xs : List Expr) (t : ZT S (List D)) : Prop where
  pa : PA X xs (zG X.K c fm M ms t)
  mono : MonoZ t
structure ZI (X : Cx) (c : EC) (fm : Fam S) (M : List Md) (tg iter : Expr) (t : ZT S (List D)) : Prop where
  pi : PI X tg iter (zI X.K c fm M t)
  mono : MonoZ t
structure ZGT (X : Cx) (c : EC) (fm : Fam S) (M : List Md) (L : List Nat) (tg : Expr) (t : DG) : Prop where
  pg : PG X tg (zTg X.K c fm M L t)
  mono : MonoG t
end
def up {S α : Type} (t : En → (α → Prop) → Prop) : ZT S α := fun ρ s Q => t ρ fun d => Q d s
theorem up_mono {S α : Type} {t : En → (α → Prop) → Prop} (h : Mono t) : MonoZ (S := S) (up t) := fun ρ s Q Q' f q => h ρ _ _ (fun d => f d s) q
theorem up_monoS {S α : Type} {t : En → (α → Prop) → Prop} (h : S → Mono t) : MonoZ (S := S) (up t) := fun ρ s Q Q' f q => h s ρ _ _ (fun d => f d s) q
section
variable {S : Type} {X : Cx} {c : EC} {fm : Fam S} {M ms : List Md} {x a b d0 : Expr} {xs : List Expr} {pos p9 : Pos}
/-! ### what draws nothing -/
theorem DE.z {t : DT} (h : ∀ s, DE X (c.at (fm.rg s)) M x t) : ZE X c fm M x (up t) := ⟨⟨fun pins sh σ H Q I ⟨s, F, ρ, a, q⟩ => (h s).pe.run pins sh σ H Q I ⟨fm.rg s, F, ρ, a, q⟩⟩, up_monoS fun s => (h s).mono⟩
theorem RE.z {t : DT} (h : ∀ s, RE X (c.at (fm.rg s)) M x t) : ZR X c fm M x (up t) := ⟨⟨fun pins sh σ H Q I ⟨s, F, ρ, a, q⟩ => (h s).pe.run pins sh σ H Q I ⟨fm.rg s, F, ρ, a, q⟩⟩, up_monoS fun s => (h s).mono⟩
theorem FE.z {t : DA} (h : ∀ s, FE X (c.at (fm.rg s)) M x t) : ZF X c fm M x (up t) := ⟨⟨fun pins sh σ H Q I ⟨s, F, ρ, a, q⟩ => (h s).pe.run pins sh σ H Q I ⟨fm.rg s, F, ρ, a, q⟩⟩, up_monoS fun s => (h s).mono⟩
theorem SE.z {m : Md} {t : DT} (h : ∀ s, SE X (c.at (fm.rg s)) M m x t) : ZP X c fm M m x (up t) := ⟨⟨fun pins sh σ H Q I ⟨s, F, ρ, a, q⟩ => (h s).pe.run pins sh σ H Q I ⟨fm.rg s, F, ρ, a, q⟩⟩, up_monoS fun s => (h s).mono⟩
theorem DC.z {t : DB} (h : ∀ s, DC X (c.at (fm.rg s)) M x t) : ZC X c fm M x (up t) := ⟨⟨fun pins sh σ H Q I ⟨s, F, ρ, a, q⟩ => (h s).pt.run pins sh σ H Q I ⟨fm.rg s, F, ρ, a, q⟩⟩, up_monoS fun s => (h s).mono⟩
theorem DTs.z {t : DB} {ifs : List Expr} (h : ∀ s, DTs X (c.at (fm.rg s)) M ifs t) : ZTs X c fm M ifs (up t) := ⟨⟨fun pins sh σ H Q I ⟨s, F, ρ, a, q⟩ => (h s).pt.run pins sh σ H Q I ⟨fm.rg s, F, ρ, a, q⟩⟩, up_monoS fun s => (h s).mono⟩
theorem DI.z {t : DA} {tg : Expr} (h : ∀ s, DI X (c.at (fm.rg s)) M tg x t) : ZI X c fm M tg x (up t) := ⟨⟨fun pins sh σ H Q I ⟨s, F, ρ, a, q⟩ => (h s).pi.run pins sh σ H Q I ⟨fm.rg s, F, ρ, a, q⟩⟩, up_monoS fun s => (h s).mono⟩
theorem GT.z {L : List Nat} {t : DG} (s0 : S) (h : ∀ s, GT X (c.at (fm.rg s)) M L x t) : ZGT X c fm M L x t := ⟨⟨fun pins sh σ H v u Q I r ⟨s, F, ρ, d, a, rp, q⟩ => (h s).pg.run pins sh σ H v u Q I r ⟨fm.rg s, F, ρ, d, a, rp, q⟩⟩, (h s0).mono⟩
/-! ### from one to the other -/
theorem ZE.r {t : ZT S D} (h : ZE X c fm M x t) : ZR X c fm M x t := ⟨pe_imp h.pe fun σ H Q ⟨s, F, ρ, a, q⟩ => ⟨s, F, ρ, a, h.mono _ _ _ _ (fun d s' k F' H' v u r => k F' H' v u (.inl r)) q⟩, h.mono⟩
def zFz (t : ZT S (List D)) : ZT S D := fun ρ s Q => t ρ s fun ds s' => Q (.list ds) s'
theorem ZF.e {t : ZT S (List D)} (h : ZF X c fm M x t) : ZE X c fm M x (zFz t) :=
  ⟨pe_imp h.pe fun σ H Q ⟨s, F, ρ, a, q⟩ => ⟨s, F, ρ, a, h.mono _ _ _ _ (fun ds s' k F' H' p vs u n f hp r => k (upd F' p (.lst vs)) H' (.ref p) (u.freeze n f hp) ⟨p, vs, rfl, upd_same, r.mono (.new f)⟩) q⟩,
    fun ρ s Q Q' f q => h.mono _ _ _ _ (fun ds s' k => f _ _ k) q⟩
theorem ZE.p {t : ZT S D} (h : ZE X c fm M x t) : ZP X c fm M .val x t := ⟨h.pe, h.mono⟩
theorem ZF.p {t : ZT S (List D)} (h : ZF X c fm M x t) : ZP X c fm M .own x (zFz t) :=
  ⟨pe_imp h.pe fun σ H Q ⟨s, F, ρ, a, q⟩ => ⟨s, F, ρ, a, h.mono _ _ _ _ (fun ds s' k F' H' p vs u n f hp r => k F' H' (.ref p) u ⟨p, vs, ds, rfl, rfl, n, f, hp, r⟩) q⟩,
    fun ρ s Q Q' f q => h.mono _ _ _ _ (fun ds s' k => f _ _ k) q⟩
end
end PP

set_option Elab.async false
set_option linter.all false
set_option maxRecDepth 100000
set_option maxHeartbeats 1000000
namespace PP
open PySem PySem.Spec PyProof.Rows L2
section
variable {S : Type} {X : Cx} {c : EC} {fm : Fam S} {M ms : List Md} {x a b d0 : Expr} {xs : List Expr} {ta tb tc : ZT S D} {tA tB : ZT S Bool} {pos p9 p2 p3 p4 : Pos}
/-! ### two operands -/
def z2 (k : K2) (ta tb : ZT S D) : ZT S D := fun ρ s Q => ta ρ s fun x s1 => tb ρ s1 fun y s2 => k x y fun d => Q d s2
theorem z2_mono {k : K2} (h : Mono2 k) (ha : MonoZ ta) (hb : MonoZ tb) : MonoZ (z2 k ta tb) := fun ρ s Q Q' f q =>
  ha _ _ _ _ (fun x s1 q => hb _ _ _ _ (fun y s2 q => h x y _ _ (fun d => f d s2) q) q) q
theorem zop2 {r : R2} {k : K2} (ha : ZR X c fm M a ta) (hb : ZR X c fm M b tb) (hs : Says2 X r k) (hk : Mono2 k) : ∀ σ H Q, zE X.K c fm M (z2 k ta tb) σ H Q → tOp r (zR X.K c fm M ta) (zR X.K c fm M tb) σ H Q := fun σ H Q ⟨s, F, ρ, sr, q⟩ =>
  ⟨s, F, ρ, sr, ha.mono _ _ _ _ (fun dx s1 hx F1 H1 x u1 rx => ⟨s1, F1, ρ, SS.step sr u1, hb.mono _ _ _ _ (fun dy s2 hy F2 H2 y u2 ry =>
    hs (fm.rg s2) F2 H2 dx dy x y Q _ (Bs.stepZ (Bs.stepZ sr.bs u1) u2) (RdR.stepZ u2 rx) ry hy fun d F' H' v q u3 rv => q F' H' v (Stp.transZ (Stp.transZ u1 u2) u3) rv) hx⟩) q⟩
theorem z_op {op : Operator} {r : R2} {k : K2} (ho : OpR X (binaryOp op) r) (hs : Says2 X r k) (hk : Mono2 k) (ha : ZR X c fm M a ta) (hb : ZR X c fm M b tb) : ZE X c fm M (.BinOp a op b pos) (z2 k ta tb) :=
  ⟨pe_imp (pe_op ho ha.pe hb.pe) (zop2 ha hb hs hk), z2_mono hk ha.mono hb.mono⟩
theorem z_cmp {op : CmpOp} {r : R2} {k : K2} (ho : OpR X (compareOp op) r) (hs : Says2 X r k) (hk : Mono2 k) (ha : ZR X c fm M a ta) (hb : ZR X c fm M b tb) (hm : behindInMarks op b = false) : ZE X c fm M (.Compare a [op] [b] pos) (z2 k ta tb) :=
  ⟨pe_imp (pe_cmpR ho ha.pe hb.pe hm) (zop2 ha hb hs hk), z2_mono hk ha.mono hb.mono⟩
theorem z_ixR {r : R2} {k : K2} (hr : IxR X r) (hs : Says2 X r k) (hk : Mono2 k) (ha : ZR X c fm M a ta) (hb : ZR X c fm M b tb) (hp : PlainIx b) : ZE X c fm M (.Subscript a b pos) (z2 k ta tb) :=
  ⟨pe_imp (pe_ix hr ha.pe hb.pe hp) (zop2 ha hb hs hk), z2_mono hk ha.mono hb.mono⟩
theorem z_add (ha : ZR X c fm M a ta) (hb : ZR X c fm M b tb) : ZE X c fm M (.BinOp a .Add b pos) (z2 kAdd ta tb) := z_op (opOr op_add (opOr op_cat (opOr op_catP op_add_str))) says_add kAdd_mono ha hb
theorem z_sub (ha : ZR X c fm M a ta) (hb : ZR X c fm M b tb) : ZE X c fm M (.BinOp a .Sub b pos) (z2 (kI NoC fun i j => .int (i - j)) ta tb) := z_op op_sub (says_I0 fun _ _ _ => rfl) kI_mono ha hb
theorem z_mul (ha : ZR X c fm M a ta) (hb : ZR X c fm M b tb) : ZE X c fm M (.BinOp a .Mult b pos) (z2 kMul ta tb) := z_op (opOr op_mulW op_rep) says_mul kMul_mono ha hb
theorem z_eq (hu : X.A.units + 64 < cLine) (ha : ZR X c fm M a ta) (hb : ZR X c fm M b tb) : ZE X c fm M (.Compare a [.Eq] [b] pos) (z2 (kEq id) ta tb) := z_cmp (op_eqX hu) says_eq kEq_mono ha hb (nm (by decide) (by decide))
/-! ### tests -/
def zTst (t : ZT S D) : ZT S Bool := fun ρ s Q => t ρ s fun d s' => match d with | .bool b => Q b s' | _ => False
theorem zTst_mono (h : MonoZ ta) : MonoZ (zTst ta) := fun ρ s Q Q' f q => h _ _ _ _ (fun d s' q => by
  split at q
  · exact f _ _ q
  · exact q.elim) q
theorem zc_cmp {op : CmpOp} {r : R2} {k : K2} (ho : OpR X (compareOp op) r) (hs : Says2 X r k) (hk : Mono2 k) (ha : ZR X c fm M a ta) (hb : ZR X c fm M b tb) (hm : behindInMarks op b = false) : ZC X c fm M (.Compare a [op] [b] pos) (zTst (z2 k ta tb)) :=
  ⟨pt_imp (pt_cmpR ho ha.pe hb.pe hm) fun σ H Q ⟨s, F, ρ, sr, q⟩ => by
    have q' : zE X.K c fm M (z2 k ta tb) σ H (fun v H' => ∃ b, v = .bl b ∧ Q b H') := ⟨s, F, ρ, sr, z2_mono hk ha.mono hb.mono _ _ _ _ (fun d s' hd F1 H1 v u rv => by
      split at hd
      · exact ⟨_, rv, hd F1 H1 u⟩
      · exact hd.elim) q⟩
    exact zop2 ha hb hs hk σ H _ q', zTst_mono (z2_mono hk ha.mono hb.mono)⟩
theorem zc_eq (hu : X.A.units + 64 < cLine) (ha : ZR X c fm M a ta) (hb : ZR X c fm M b tb) : ZC X c fm M (.Compare a [.Eq] [b] pos) (zTst (z2 (kEq id) ta tb)) := zc_cmp (op_eqX hu) says_eq kEq_mono ha hb (nm (by decide) (by decide))
theorem zc_ne (hu : X.A.units + 64 < cLine) (ha : ZR X c fm M a ta) (hb : ZR X c fm M b tb) : ZC X c fm M (.Compare a [.NotEq] [b] pos) (zTst (z2 (kEq not) ta tb)) := zc_cmp (op_neX hu) says_eq kEq_mono ha hb (nm (by decide) (by decide))
theorem zc_gt (ha : ZR X c fm M a ta) (hb : ZR X c fm M b tb) : ZC X c fm M (.Compare a [.Gt] [b] pos) (zTst (z2 kGt ta tb)) := zc_cmp op_gt (says_I0 fun _ _ _ => rfl) kI_mono ha hb (nm (by decide) (by decide))
theorem zc_lt (ha : ZR X c fm M a ta) (hb : ZR X c fm M b tb) : ZC X c fm M (.Compare a [.Lt] [b] pos) (zTst (z2 kLt ta tb)) := zc_cmp op_lt (says_I0 fun _ _ _ => rfl) kI_mono ha hb (nm (by decide) (by decide))
theorem ZW.cc (h : ZW X c fm M x tA) : ZC X c fm M x tA := ⟨h.pw.pt, h.mono⟩
def zOrD (t u : ZT S Bool) : ZT S Bool := fun ρ s Q => t ρ s fun b s' => if b = true then Q true s' else u ρ s' Q
def zAndD (t u : ZT S Bool) : ZT S Bool := fun ρ s Q => t ρ s fun b s' => if b = true then u ρ s' Q else Q false s'
theorem zw_or1 (ha : ZC X c fm M a tA) : ZW X c fm M (.BoolOp .Or [a] pos) tA := ⟨pw_or1 ha.pt, ha.mono⟩
theorem zw_and1 (ha : ZC X c fm M a tA) : ZW X c fm M (.BoolOp .And [a] pos) tA := ⟨pw_and1 ha.pt, ha.mono⟩
theorem zw_or {rest : List Expr} (ha : ZC X c fm M a tA) (hb : ZW X c fm M (.BoolOp .Or (b :: rest) pos) tB) : ZW X c fm M (.BoolOp .Or (a :: b :: rest) pos) (zOrD tA tB) :=
  ⟨pw_imp (pw_or ha.pt hb.pw) fun σ H Q ⟨s, F, ρ, sr, q⟩ => ⟨s, F, ρ, sr, ha.mono _ _ _ _ (fun k s1 hk F1 H1 u => by
    cases k with
    | true => exact hk F1 H1 u
    | false => exact ⟨s1, F1, ρ, SS.step sr u, hb.mono _ _ _ _ (fun k s2 hk F2 H2 u2 => hk F2 H2 (Stp.transZ u u2)) hk⟩) q⟩, fun ρ s Q Q' f q => ha.mono _ _ _ _ (fun k s1 q => by
    cases k with
    | true => exact f _ _ q
    | false => exact hb.mono _ _ _ _ f q) q⟩
theorem zw_and {rest : List Expr} (ha : ZC X c fm M a tA) (hb : ZW X c fm M (.BoolOp .And (b :: rest) pos) tB) : ZW X c fm M (.BoolOp .And (a :: b :: rest) pos) (zAndD tA tB) :=
  ⟨pw_imp (pw_and ha.pt hb.pw) fun σ H Q ⟨s, F, ρ, sr, q⟩ => ⟨s, F, ρ, sr, ha.mono _ _ _ _ (fun k s1 hk F1 H1 u => by
    cases k with
    | true => exact ⟨s1, F1, ρ, SS.step sr u, hb.mono _ _ _ _ (fun k s2 hk F2 H2 u2 => hk F2 H2 (Stp.transZ u u2)) hk⟩
    | false => exact hk F1 H1 u) q⟩, fun ρ s Q Q' f q => ha.mono _ _ _ _ (fun k s1 q => by
    cases k with
    | true => exact hb.mono _ _ _ _ f q
    | false => exact f _ _ q) q⟩
def zIf (t : ZT S Bool) (ta tb : ZT S D) : ZT S D := fun ρ s Q => t ρ s fun b s' => if b = true then ta ρ s' Q else tb ρ s' Q
theorem z_if (hc : ZC X c fm M d0 tA) (ha : ZE X c fm M a ta) (hb : ZE X c fm M b tb) : ZE X c fm M (.IfExp d0 a b pos) (zIf tA ta tb) :=
  ⟨pe_imp (pe_ifExp hc.pt ha.pe hb.pe) fun σ H Q ⟨s, F, ρ, sr, q⟩ => ⟨s, F, ρ, sr, hc.mono _ _ _ _ (fun k s1 hk F1 H1 u => by
    cases k with
    | true => exact ⟨s1, F1, ρ, SS.step sr u, ha.mono _ _ _ _ (fun d s2 hd F2 H2 v u2 => hd F2 H2 v (Stp.transZ u u2)) hk⟩
    | false => exact ⟨s1, F1, ρ, SS.step sr u, hb.mono _ _ _ _ (fun d s2 hd F2 H2 v u2 => hd F2 H2 v (Stp.transZ u u2)) hk⟩) q⟩, fun ρ s Q Q' f q => hc.mono _ _ _ _ (fun k s1 q => by
    cases k with
    | true => exact ha.mono _ _ _ _ f q
    | false => exact hb.mono _ _ _ _ f q) q⟩
/-! ### rows of arguments -/
variable {tr : ZT S (List D)}
def zNil : ZT S (List D) := fun _ s Q => Q [] s
def zCons (ta : ZT S D) (tr : ZT S (List D)) : ZT S (List D) := fun ρ s Q => ta ρ s fun x s1 => tr ρ s1 fun xs s2 => Q (x :: xs) s2
theorem zCons_mono (ha : MonoZ ta) (hr : MonoZ tr) : MonoZ (zCons ta tr) := fun ρ s Q Q' f q => ha _ _ _ _ (fun x s1 q => hr _ _ _ _ (fun xs s2 q => f _ _ q) q) q
theorem za_nil : ZA X c fm M [] zNil := ⟨pa_imp pa_nil fun σ H Q ⟨s, F, ρ, sr, q⟩ => q F H [] sr.bs.refl rfl, fun _ _ _ _ f q => f _ _ q⟩
theorem za_cons (ha : ZE X c fm M a ta) (hr : ZA X c fm M xs tr) (hs : starEach (a :: xs) X.env = (false, eval a X.env) :: starEach xs X.env := by rfl) : ZA X c fm M (a :: xs) (zCons ta tr) :=
  ⟨pa_imp (pa_cons ha.pe hr.pa hs) fun σ H Q ⟨s, F, ρ, sr, q⟩ => ⟨s, F, ρ, sr, ha.mono _ _ _ _ (fun d s1 hd F1 H1 v u1 r1 => ⟨s1, F1, ρ, SS.step sr u1, hr.mono _ _ _ _ (fun ds s2 hq F2 H2 vs u2 r2 =>
    hq F2 H2 (v :: vs) (Stp.transZ u1 u2) ⟨v, vs, rfl, r1.mono u2.mono, r2⟩) hd⟩) q⟩, zCons_mono ha.mono hr.mono⟩
theorem RdRL.stepZ {K : PySem.W.Frag} {s t : S} {F H F' H' : Hp} (u : Stp (fm.rg t) F H F' H') : ∀ {ds : List D} {vs : List V}, RdRL K (fm.rg s) F H ds vs → RdRL K (fm.rg t) F' H' ds vs
  | [], _, h => h
  | _ :: _, _, ⟨x, xs, e, h, r⟩ => ⟨x, xs, e, RdR.stepZ u h, RdRL.stepZ u r⟩
theorem zr_nil : ZRA X c fm M [] zNil := ⟨pa_imp pa_nil fun σ H Q ⟨s, F, ρ, sr, q⟩ => q F H [] sr.bs.refl rfl, fun _ _ _ _ f q => f _ _ q⟩
theorem zr_cons (ha : ZR X c fm M a ta) (hr : ZRA X c fm M xs tr) (hs : starEach (a :: xs) X.env = (false, eval a X.env) :: starEach xs X.env := by rfl) : ZRA X c fm M (a :: xs) (zCons ta tr) :=
  ⟨pa_imp (pa_cons ha.pe hr.pa hs) fun σ H Q ⟨s, F, ρ, sr, q⟩ => ⟨s, F, ρ, sr, ha.mono _ _ _ _ (fun d s1 hd F1 H1 v u1 r1 => ⟨s1, F1, ρ, SS.step sr u1, hr.mono _ _ _ _ (fun ds s2 hq F2 H2 vs u2 r2 =>
    hq F2 H2 (v :: vs) (Stp.transZ u1 u2) ⟨v, vs, rfl, RdR.stepZ u2 r1, r2⟩) hd⟩) q⟩, zCons_mono ha.mono hr.mono⟩
theorem zg_nil : ZG X c fm M [] [] zNil := ⟨pa_imp pa_nil fun σ H Q ⟨s, F, ρ, sr, q⟩ => q F H [] sr.bs.refl ⟨rfl, rfl⟩, fun _ _ _ _ f q => f _ _ q⟩
theorem zg_val (ha : ZE X c fm M a ta) (hr : ZG X c fm M ms xs tr) (hs : starEach (a :: xs) X.env = (false, eval a X.env) :: starEach xs X.env := by rfl) : ZG X c fm M (.val :: ms) (a :: xs) (zCons ta tr) :=
  ⟨pa_imp (pa_cons ha.pe hr.pa hs) fun σ H Q ⟨s, F, ρ, sr, q⟩ => ⟨s, F, ρ, sr, ha.mono _ _ _ _ (fun d s1 hd F1 H1 v u1 r1 => ⟨s1, F1, ρ, SS.step sr u1, hr.mono _ _ _ _ (fun ds s2 hq F2 H2 vs u2 r2 =>
    hq F2 H2 (v :: vs) (Stp.transZ u1 u2) ⟨d, ds, v, vs, rfl, rfl, Rp.mono u2.mono r1, r2⟩) hd⟩) q⟩, zCons_mono ha.mono hr.mono⟩
theorem zg_dk (i : Nat) {y : Str} (hr : ZG X c fm M ms xs tr) (hN : X.N[i]? = some y := by rfl) (hv : Vis X.env.scope y := by first | exact Or.inl rfl | exact Or.inr (Or.inl rfl) | exact Or.inr (Or.inr rfl)) (hm : md M i = .dk := by rfl) (hd : (y == ("__debug__" : Str)) = false := by decide) (hcd : (y == ("__classdict__" : Str)) = false := by decide)
    (hs : starEach (.Name y pos :: xs) X.env = (false, eval (.Name y pos) X.env) :: starEach xs X.env := by rfl) : ZG X c fm M (.dk :: ms) (.Name y pos :: xs) (zCons (up (tDk i)) tr) :=
  ⟨pa_imp (pa_cons (pe_var hN hv hd hcd) hr.pa hs) fun σ H Q ⟨s, F, ρ, sr, q⟩ => by
    have q : tDk i ρ fun d => tr ρ s fun ds s' => ∀ F' H' vs, Stp (fm.rg s') F H F' H' → ArgsOk X.K (fm.rg s') F' H' (.dk :: ms) (d :: ds) vs → Q vs H' := q
    unfold tDk at q
    split at q
    · rename_i d hd
      obtain ⟨v, h1, h2⟩ := sr.slot i d hd
      rw [hm] at h2
      exact ⟨v, h1, s, F, ρ, sr, hr.mono _ _ _ _ (fun ds s2 hq F2 H2 vs u2 r2 => hq F2 H2 (v :: vs) u2 ⟨_, ds, v, vs, rfl, rfl, ArgOk.castZ (K := X.K) (m := .dk) (d := .none) (s := s) (F := F) (H := H) h2, r2⟩) q⟩
    · exact q.elim, fun ρ s Q Q' f q => by
    have q : tDk i ρ fun d => tr ρ s fun ds s' => Q (d :: ds) s' := q
    show tDk i ρ fun d => tr ρ s fun ds s' => Q' (d :: ds) s'
    unfold tDk at q ⊢
    split at q
    · exact hr.mono _ _ _ _ (fun xs s' q => f _ _ q) q
    · exact q.elim⟩
/-! ### displays -/
def zTup (t : ZT S (List D)) : ZT S D := fun ρ s Q => t ρ s fun ds s' => ds.length ≤ sizeLine ∧ Q (.tuple ds) s'
def zLst (t : ZT S (List D)) : ZT S (List D) := fun ρ s Q => t ρ s fun ds s' => ds.length ≤ sizeLine ∧ Q ds s'
theorem z_tup {x1 : Nat} (h : ZA X c fm M xs tr) : ZE X c fm M (.Tuple xs x1 pos) (zTup tr) :=
  ⟨pe_imp (pe_tupP h.pa) fun σ H Q ⟨s, F, ρ, sr, q⟩ => ⟨s, F, ρ, sr, h.mono _ _ _ _ (fun ds s1 hd F1 H1 vs u r => ⟨by rw [r.length]; exact hd.1, fun p o hn hc hdn =>
    hd.2 (upd F1 p (.frz o (.tup vs))) _ _ (u.trans ((Bs.stepZ sr.bs u).alloc hn _)) ⟨p, vs, rfl, FrT.new hc hdn, r.mono (.new (u.sub.none hn))⟩⟩) q⟩,
    fun ρ s Q Q' f q => h.mono _ _ _ _ (fun ds s' q => ⟨q.1, f _ _ q.2⟩) q⟩
theorem zf_lst (h : ZA X c fm M xs tr) : ZF X c fm M (.List xs pos) (zLst tr) :=
  ⟨pe_imp (pe_lst h.pa) fun σ H Q ⟨s, F, ρ, sr, q⟩ => ⟨s, F, ρ, sr, h.mono _ _ _ _ (fun ds s1 hd F1 H1 vs u r => ⟨by rw [r.length]; exact hd.1, fun p hn =>
    hd.2 F1 _ p vs (u.trans ((Bs.stepZ sr.bs u).hide hn _)) (u.old hn) (u.sub.none hn) upd_same r⟩) q⟩,
    fun ρ s Q Q' f q => h.mono _ _ _ _ (fun ds s' q => ⟨q.1, f _ _ q.2⟩) q⟩
/-! ### built-in functions -/
def zCl (k : KC) (t : ZT S (List D)) : ZT S D := fun ρ s Q => t ρ s fun ds s' => k ds fun d => Q d s'
theorem zCl_mono {k : KC} (hk : MonoC k) (ha : MonoZ tr) : MonoZ (zCl k tr) := fun ρ s Q Q' f q => ha _ _ _ _ (fun ds s' q => hk ds _ _ (fun d => f d s') q) q
theorem zcallC {r : List V → Hp → VK → Prop} {k : KC} (hs : SaysC X r k) (ha : ZRA X c fm M xs tr) : ∀ σ H Q, zE X.K c fm M (zCl k tr) σ H Q → tCB r (zRA X.K c fm M tr) σ H Q := fun σ H Q ⟨s, F, ρ, sr, q⟩ =>
  ⟨s, F, ρ, sr, ha.mono _ _ _ _ (fun ds s1 hd F1 H1 vs u rv => hs (fm.rg s1) F1 H1 ds vs Q _ (Bs.stepZ sr.bs u) rv hd fun d F' H' v q u' rv' => q F' H' v (u.trans u') rv') q⟩
section
variable {id T : String} {y : Str} {p : Pos} {r : List V → Hp → VK → Prop} {k : KC}
theorem z_callB (hc : CallR X (.builtin id) r) (hs : SaysC X r k) (hk : MonoC k) (hg : Gl X y) (hm : X.mg y = none) (hv : bootBuiltins y = some (.builtin id)) (ha : ZRA X c fm M (a :: xs) tr) (hn : y ≠ "__name__" := by decide) (hdb : (y == ("__debug__" : Str)) = false := by decide)
    (he : starEach (a :: xs) X.env = (false, eval a X.env) :: starEach xs X.env := by rfl) (hpl : (backTo pos (starEach xs X.env)).any (·.1) = false := by rfl) : ZE X c fm M (.Call (.Name y p) (a :: xs) [] pos) (zCl k tr) :=
  ⟨pe_imp (pe_callB hc hg hm hv ha.pa hn hdb he hpl) (zcallC hs ha), zCl_mono hk ha.mono⟩
theorem z_callT (hc : CallR X (.type T) r) (hs : SaysC X r k) (hk : MonoC k) (hg : Gl X y) (hm : X.mg y = none) (hv : bootBuiltins y = some (.type T)) (ha : ZRA X c fm M (a :: xs) tr) (hn : y ≠ "__name__" := by decide) (hdb : (y == ("__debug__" : Str)) = false := by decide)
    (he : starEach (a :: xs) X.env = (false, eval a X.env) :: starEach xs X.env := by rfl) (hpl : (backTo pos (starEach xs X.env)).any (·.1) = false := by rfl) : ZE X c fm M (.Call (.Name y p) (a :: xs) [] pos) (zCl k tr) :=
  ⟨pe_imp (pe_callTy hc hg hm hv ha.pa hn hdb he hpl) (zcallC hs ha), zCl_mono hk ha.mono⟩
end
theorem z_min2 (hc : X.calm = true) (hg : Gl X "min") (hm : X.mg "min" = none) (ha : ZRA X c fm M (a :: xs) tr) (he : starEach (a :: xs) X.env = (false, eval a X.env) :: starEach xs X.env := by rfl) (hpl : (backTo pos (starEach xs X.env)).any (·.1) = false := by rfl) :
    ZE X c fm M (.Call (.Name "min" p9) (a :: xs) [] pos) (zCl kMin2 tr) := z_callB (call_min2 hc) says_min2 kMin2_mono hg hm (by decide +kernel) ha (he := he) (hpl := hpl)
theorem z_tuple (hg : Gl X "tuple") (hm : X.mg "tuple" = none) (ha : ZRA X c fm M (a :: xs) tr) (he : starEach (a :: xs) X.env = (false, eval a X.env) :: starEach xs X.env := by rfl) (hpl : (backTo pos (starEach xs X.env)).any (·.1) = false := by rfl) :
    ZE X c fm M (.Call (.Name "tuple" p9) (a :: xs) [] pos) (zCl kTupl tr) := z_callT cr_tupP says_tupl kTupl_mono hg hm (by decide +kernel) ha (he := he) (hpl := hpl)
theorem z_len (hg : Gl X "len") (hm : X.mg "len" = none) (ha : ZRA X c fm M (a :: xs) tr) (he : starEach (a :: xs) X.env = (false, eval a X.env) :: starEach xs X.env := by rfl) (hpl : (backTo pos (starEach xs X.env)).any (·.1) = false := by rfl) :
    ZE X c fm M (.Call (.Name "len" p9) (a :: xs) [] pos) (zCl kLen tr) := z_callB call_len_seq says_len kLen_mono hg hm PySem.boot_len ha (he := he) (hpl := hpl)
theorem z_item (ha : ZR X c fm M a ta) (hb : ZR X c fm M b tb) (hp : PlainIx b) : ZE X c fm M (.Subscript a b pos) (z2 kIx ta tb) := z_ixR ix_seq says_ix kIx_mono ha hb hp
end
end PP

set_option Elab.async false
set_option linter.all false
set_option maxRecDepth 100000
set_option maxHeartbeats 2000000
namespace PP
open PySem PySem.Spec PyProof.Rows L2
/-! ### statements -/
structure ZEnds (S : Type) where
  nx : En → S → Prop
  rt : D → S → Prop
  bk : En → S → Prop := fun _ _ => False
  ct : En → S → Prop := fun _ _ => False
abbrev ZTS (S : Type) := ZEnds S → En → S → Prop
structure ZImp {S : Type} (d d' : ZEnds S) : Prop where
  nx : ∀ ρ s, d.nx ρ s → d'.nx ρ s
  rt : ∀ x s, d.rt x s → d'.rt x s
  bk : ∀ ρ s, d.bk ρ s → d'.bk ρ s
  ct : ∀ ρ s, d.ct ρ s → d'.ct ρ s
def MonoZS {S : Type} (t : ZTS S) : Prop := ∀ d d' ρ s, ZImp d d' → t d ρ s → t d' ρ s
structure ZHooks {S : Type} (K : PySem.W.Frag) (c : EC) (fm : Fam S) (M : List Md) (d : ZEnds S) (E : Ends) : Prop where
  nx : ∀ s F H σ ρ, SS K c fm M s F H σ ρ → d.nx ρ s → E.nx σ H
  rt : ∀ s F H x v, Stp (fm.rg s) c.F c.H F H → Rp K F x v → d.rt x s → E.rt v H
  bk : ∀ s F H σ ρ, SS K c fm M s F H σ ρ → d.bk ρ s → E.bk σ H
  ct : ∀ s F H σ ρ, SS K c fm M s F H σ ρ → d.ct ρ s → E.ct σ H
def zS {S : Type} (K : PySem.W.Frag) (c : EC) (fm : Fam S) (M : List Md) (t : ZTS S) : TS := fun E σ H => ∃ s F ρ d, SS K c fm M s F H σ ρ ∧ t d ρ s ∧ ZHooks K c fm M d E
structure ZS {S : Type} (X : Cx) (c : EC) (fm : Fam S) (M : List Md) (st : Stmt) (t : ZTS S) : Prop where
  ps : PS X st (zS X.K c fm M t)
  mono : MonoZS t
structure ZSs {S : Type} (X : Cx) (c : EC) (fm : Fam S) (M : List Md) (st : List Stmt) (t : ZTS S) : Prop where
  ps : PSs X st (zS X.K c fm M t)
  mono : MonoZS t
def dn {S : Type} (d : ZEnds S) (s : S) : DEnds := ⟨fun ρ => d.nx ρ s, fun x => d.rt x s, fun ρ => d.bk ρ s, fun ρ => d.ct ρ s, fun _ _ => False⟩
def upS {S : Type} (t : DTS) : ZTS S := fun d ρ s => t (dn d s) ρ
section
variable {S : Type} {X : Cx} {c : EC} {fm : Fam S} {M ms : List Md} {x a b d0 : Expr} {xs : List Expr} {ta tb tc : ZT S D} {tA tB : ZT S Bool} {tr : ZT S (List D)} {t u : ZTS S} {st : Stmt} {rest : List Stmt} {pos p9 p1 p2 p3 p4 : Pos}
theorem grel_eq {K : PySem.W.Frag} {g : Rg} {s : S} {F H : Hp} {σ : L2.St} {ρ : En} (a : SR K (c.at (fm.rg s)) M g F H σ ρ) : g = fm.rg s := by
  rcases a.grel with e | ⟨e, _⟩
  · exact e
  · exact absurd e (fm.some s)
theorem ZHooks.dn {K : PySem.W.Frag} {d : ZEnds S} {E : Ends} (h : ZHooks K c fm M d E) (s : S) : Hooks K (c.at (fm.rg s)) M (dn d s) E where
  nx := fun g F H σ ρ a q => by have e := grel_eq a; subst e; exact h.nx s F H σ ρ a q
  rt := fun F H x v a r q => h.rt s F H x v a r q
  bk := fun g F H σ ρ a q => by have e := grel_eq a; subst e; exact h.bk s F H σ ρ a q
  ct := fun g F H σ ρ a q => by have e := grel_eq a; subst e; exact h.ct s F H σ ρ a q
  rs := fun _ _ _ _ _ _ _ _ _ z => z.elim
theorem DS.z {t : DTS} (h : ∀ s, DS X (c.at (fm.rg s)) M st t) : ZS X c fm M st (upS t) :=
  ⟨⟨fun pins sh σ H E I ⟨s, F, ρ, d, a, q, k⟩ => (h s).ps.run pins sh σ H E I ⟨fm.rg s, F, ρ, PP.dn d s, a, q, k.dn s⟩⟩, fun d d' ρ s i q => (h s).mono (PP.dn d s) (PP.dn d' s) ρ ⟨fun ρ => i.nx ρ s, fun x => i.rt x s, fun ρ => i.bk ρ s, fun ρ => i.ct ρ s, fun _ _ z => z⟩ q⟩
theorem ZHooks.next {K : PySem.W.Frag} {d : ZEnds S} {E : Ends} (h : ZHooks K c fm M d E) : ZHooks K c fm M { d with nx := u d } { E with nx := zS K c fm M u E } :=
  ⟨fun s F H σ ρ a q => ⟨s, F, ρ, d, a, q, h⟩, h.rt, h.bk, h.ct⟩
theorem zss_nil : ZSs X c fm M [] (fun d ρ s => d.nx ρ s) := ⟨pss_imp pss_nil fun E σ H ⟨s, F, ρ, d, a, q, h⟩ => h.nx s F H σ ρ a q, fun d d' ρ s i q => i.nx ρ s q⟩
def zSq (t u : ZTS S) : ZTS S := fun d ρ s => t { d with nx := u d } ρ s
theorem zss_cons (h1 : ZS X c fm M st t) (h2 : ZSs X c fm M rest u) : ZSs X c fm M (st :: rest) (zSq t u) :=
  ⟨pss_imp (pss_cons h1.ps h2.ps) fun E σ H ⟨s, F, ρ, d, a, q, h⟩ => ⟨s, F, ρ, _, a, q, h.next⟩,
    fun d d' ρ s i q => h1.mono { d with nx := u d } { d' with nx := u d' } ρ s ⟨fun ρ s q => h2.mono d d' ρ s i q, i.rt, i.bk, i.ct⟩ q⟩
theorem zss_one (h1 : ZS X c fm M st t) : ZSs X c fm M [st] t := ⟨pss_imp (pss_one h1.ps) fun E σ H q => q, h1.mono⟩
def zRet (ta : ZT S D) : ZTS S := fun d ρ s => ta ρ s d.rt
theorem zs_ret (ha : ZE X c fm M a ta) : ZS X c fm M (.Return (some a) pos) (zRet ta) :=
  ⟨ps_imp (ps_ret ha.pe) fun E σ H ⟨s, F, ρ, d, a, q, h⟩ => ⟨s, F, ρ, a, ha.mono _ _ _ _ (fun x s1 hx F' H' v u r => h.rt s1 F' H' x v (Stp.transZ a.stp u) r hx) q⟩, fun d d' ρ s i q => ha.mono _ _ _ _ (fun x s1 => i.rt x s1) q⟩
def zIfS (tA : ZT S Bool) (t u : ZTS S) : ZTS S := fun d ρ s => tA ρ s fun b s' => if b = true then t d ρ s' else u d ρ s'
theorem zs_if {xs ys : List Stmt} (hc : ZC X c fm M d0 tA) (ha : ZSs X c fm M xs t) (hb : ZSs X c fm M ys u) : ZS X c fm M (.If d0 xs ys pos) (zIfS tA t u) :=
  ⟨ps_imp (ps_if hc.pt ha.ps hb.ps) fun E σ H ⟨s, F, ρ, d, a, q, h⟩ => ⟨s, F, ρ, a, hc.mono _ _ _ _ (fun b s1 hb F' H' u => by
    cases b with
    | true => exact ⟨s1, F', ρ, d, SS.step a u, hb, h⟩
    | false => exact ⟨s1, F', ρ, d, SS.step a u, hb, h⟩) q⟩, fun d d' ρ s i q => hc.mono _ _ _ _ (fun b s1 q => by
    cases b with
    | true => exact ha.mono d d' ρ s1 i q
    | false => exact hb.mono d d' ρ s1 i q) q⟩
def zSet (i : Nat) (ta : ZT S D) : ZTS S := fun d ρ s => ta ρ s fun x s' => d.nx (sv ρ i (some x)) s'
theorem zs_st {i : Nat} {m : Md} {y : Str} (hN : X.N.Nodup) (hm : md M i = m) (ha : ZP X c fm M m a ta) (hi : X.N[i]? = some y := by rfl) (hx : Loc X.env.scope y := by first | exact .inl rfl | exact .inr rfl) (hs : swapsWith a (some (.Name y p2)) pos.line X.env = pure false := by rfl)
    (hf : X.fn y = true ∨ X.env.scope.names.lookup y = some .local := by first | exact .inl rfl | exact .inr rfl | assumption) : ZS X c fm M (.Assign [.Name y p2] a pos) (zSet i ta) :=
  ⟨ps_imp (L2.ps_set hN hi hx ha.pe hs hf) fun E σ H ⟨s, F, ρ, d, a, q, h⟩ => ⟨s, F, ρ, a, ha.mono _ _ _ _ (fun x s1 hx F' H' v u r => h.nx s1 F' H' _ _ (SS.put a u hm r) hx) q⟩, fun d d' ρ s i q => ha.mono _ _ _ _ (fun _ s1 q => i.nx _ s1 q) q⟩
def zPar (i j : Nat) (ta tb : ZT S D) : ZTS S := fun d ρ s => ta ρ s fun x s1 => tb ρ s1 fun y s2 => d.nx (sv (sv ρ i (some x)) j (some y)) s2
theorem zs_par {i j : Nat} {x y : Str} {kt k2 : Nat} (hc : X.calm = true) (hN : X.N.Nodup) (hm : md M i = .val) (hn : md M j = .val) (ha : ZE X c fm M a ta) (hb : ZE X c fm M b tb) (hi : X.N[i]? = some x := by rfl) (hj : X.N[j]? = some y := by rfl) (hij : i ≠ j := by decide)
    (hx : X.env.scope.names.lookup x = some .local := by rfl) (hy : X.env.scope.names.lookup y = some .local := by rfl)
    (ea : starEach [a, b] X.env = (false, eval a X.env) :: starEach [b] X.env := by rfl) (eb : starEach [b] X.env = (false, eval b X.env) :: starEach [] X.env := by rfl)
    (hw : swappedStores [.Tuple [.Name x p1, .Name y p2] kt p3] (.Tuple [a, b] k2 p4) X.env = pure (some [x, y]) := by rfl)
    (hs : swapsWithSole [.Tuple [.Name x p1, .Name y p2] kt p3] (.Tuple [a, b] k2 p4) pos.line X.env = pure false := by rfl) :
    ZS X c fm M (.Assign [.Tuple [.Name x p1, .Name y p2] kt p3] (.Tuple [a, b] k2 p4) pos) (zPar i j ta tb) :=
  ⟨ps_imp (L2.ps_par hc hN hi hj hij hx hy (pa_cons ha.pe (pa_cons hb.pe pa_nil eb) ea) hw hs) fun E σ H ⟨s, F, ρ, d, a, q, h⟩ => ⟨s, F, ρ, a, ha.mono _ _ _ _ (fun x s1 hx F1 H1 v t1 r1 => ⟨s1, F1, ρ, SS.step a t1, hb.mono _ _ _ _ (fun y s2 hy F2 H2 w t2 r2 =>
    ⟨v, w, rfl, h.nx s2 F2 H2 _ _ (SR.setv (SR.setv (SS.step (SS.step a t1) t2) hm (Rp.mono t2.mono r1)) hn r2) hy⟩) hx⟩) q⟩, fun d d' ρ s k q => ha.mono _ _ _ _ (fun x s1 q => hb.mono _ _ _ _ (fun y s2 q => k.nx _ s2 q) q) q⟩
def zAsg (ta : ZT S D) (g : DG) : ZTS S := fun d ρ s => ta ρ s fun x s' => g x ρ fun ρ' => d.nx ρ' s'
theorem zs_asg {L : List Nat} {tg : Expr} {g : DG} (ha : ZE X c fm M a ta) (hg : ZGT X c fm M L tg g) (hs : swapsWithSole [tg] a pos.line X.env = pure false := by rfl) (hw : swappedStores [tg] a X.env = pure none := by rfl)
    (h1 : (assignEach [tg] X.env).map (·.2) = [assign tg X.env] := by rfl) : ZS X c fm M (.Assign [tg] a pos) (zAsg ta g) :=
  ⟨ps_imp (ps_asg ha.pe hg.pg hs hw h1) fun E σ H ⟨s, F, ρ, d, a, q, h⟩ => ⟨s, F, ρ, a, ha.mono _ _ _ _ (fun x s1 hx F' H' v u r => ⟨s1, F', ρ, x, SS.step a u, r, hg.mono _ _ _ _ (fun ρ' hq F2 H2 σ2 t2 s2 _ => h.nx s1 F2 H2 σ2 ρ' s2 hq) hx⟩) q⟩,
    fun d d' ρ s i q => ha.mono _ _ _ _ (fun x s1 q => hg.mono _ _ _ _ (fun ρ' => i.nx ρ' s1) q) q⟩
def zExpr (ta : ZT S D) : ZTS S := fun d ρ s => ta ρ s fun _ s' => d.nx ρ s'
theorem zs_expr (ha : ZE X c fm M a ta) (hs : swapsWith a none pos.line X.env = pure false := by rfl) : ZS X c fm M (.Expr a pos) (zExpr ta) :=
  ⟨ps_imp (ps_expr ha.pe hs) fun E σ H ⟨s, F, ρ, d, a, q, h⟩ => ⟨s, F, ρ, a, ha.mono _ _ _ _ (fun x s1 hx F' H' v u r => h.nx s1 F' H' σ ρ (SS.step a u) hx) q⟩, fun d d' ρ s i q => ha.mono _ _ _ _ (fun _ s1 q => i.nx ρ s1 q) q⟩
/-! ### for -/
theorem pg_anyZ {α : Type} {x : Expr} {t : α → TG} (h : ∀ B, PG X x (t B)) : PG X x (fun v σ H Q => ∃ B, t B v σ H Q) := pg_any h
def forZ (tg : DG) (tb : ZTS S) (d : ZEnds S) : List D → En → S → Prop
  | [], ρ, s => d.nx ρ s
  | x :: xs, ρ, s => tg x ρ fun ρ' => tb { nx := forZ tg tb d xs, ct := forZ tg tb d xs, bk := d.nx, rt := d.rt } ρ' s
theorem forZ_mono {tg : DG} {tb : ZTS S} (hg : MonoG tg) (hb : MonoZS tb) {d d' : ZEnds S} (i : ZImp d d') : ∀ xs ρ s, forZ tg tb d xs ρ s → forZ tg tb d' xs ρ s
  | [], ρ, s, q => i.nx ρ s q
  | x :: xs, ρ, s, q => hg _ _ _ _ (fun ρ' q => hb { nx := forZ tg tb d xs, ct := forZ tg tb d xs, bk := d.nx, rt := d.rt } { nx := forZ tg tb d' xs, ct := forZ tg tb d' xs, bk := d'.nx, rt := d'.rt } _ _ ⟨fun ρ s q => forZ_mono hg hb i xs ρ s q, i.rt, i.nx, fun ρ s q => forZ_mono hg hb i xs ρ s q⟩ q) q
def zFor (tI : ZT S (List D)) (g : DG) (t : ZTS S) : ZTS S := fun d ρ s => tI ρ s fun xs s' => forZ g t d xs ρ s'
theorem zs_for {L : List Nat} {tg iter : Expr} {body : List Stmt} {tI : ZT S (List D)} {g : DG} (hp : PassesOwn (model X.prog X.w) X.A X.env X.xe) (hc : X.calm = true) (hi : ZI X c fm M tg iter tI) (hg : ∀ B, ZGT X (c.low B) fm M L tg g) (hb : ∀ B, ZSs X (c.low B) fm M body t)
    (hs : ∀ x, foldedSetIterable iter X.env x = pure x := by intro _; rfl) : ZS X c fm M (.For tg iter body [] pos) (zFor tI g t) :=
  ⟨ps_imp (ps_for hp hc hi.pi (pg_any fun B => (hg B).pg) (pss_any fun B => (hb B).ps) hs) fun E σ H ⟨s, F, ρ, d, sr, q, h⟩ => ⟨s, F, ρ, sr, hi.mono _ _ _ _ (fun ds s0 hd F0 H0 J t0 w => by
    refine ⟨fun i m σ H => ∃ s1 F1 ρ1, SS X.K (c.low F0) fm M s1 F1 H σ ρ1 ∧ i ≤ ds.length ∧ m = ds.length - i ∧ forZ g t d (ds.drop i) ρ1 s1, ⟨_, s0, F0, ρ, SS.relow (SS.step sr t0) (.refl _), Nat.zero_le _, rfl, hd⟩, ?_⟩
    rintro i m σ1 H1 ⟨s1, F1, ρ1, a1, hi1, rfl, q1⟩
    have base : Le c.Fb F0 := sr.low.trans t0.mono
    have hk : ZHooks X.K (c.low F0) fm M { nx := fun ρ s => d.nx ρ s, ct := fun _ _ => False, bk := fun _ _ => False, rt := d.rt } E :=
      ⟨fun s F H σ ρ a2 q => h.nx s F H σ ρ (SS.relow a2 (base.trans a2.low)) q, fun s F H x v st r q => h.rt s F H x v st r q, fun _ _ _ _ _ _ z => z.elim, fun _ _ _ _ _ _ z => z.elim⟩
    obtain ⟨w1, w2⟩ := w (fm.rg s1) F1 H1 a1.bs a1.low i
    by_cases hlt : i < ds.length
    · obtain ⟨go, yl⟩ := w1 hlt
      have ed : ds.drop i = ds[i] :: ds.drop (i + 1) := List.drop_eq_getElem_cons hlt
      rw [ed] at q1
      refine .inr ⟨go, fun σ' H' => ∃ s2 F2 ρ2, SS X.K (c.low F0) fm M s2 F2 H' σ' ρ2 ∧ forZ g t d (ds.drop (i + 1)) ρ2 s2, ?_, ?_⟩
      · rintro σ' H' ⟨s2, F2, ρ2, a2, q2⟩
        exact ⟨_, by omega, s2, F2, ρ2, a2, hlt, rfl, q2⟩
      · intro x H2 hy
        obtain ⟨F2, t2, r2⟩ := yl x H2 hy
        refine ⟨F0, s1, F2, ρ1, ds[i], SS.step a1 t2, r2 _ (by simp [hlt]), (hg F0).mono _ _ _ _ (fun ρ' hq F3 H3 σ3 t3 a3 _ => ?_) q1⟩
        exact ⟨F0, s1, F3, ρ', _, a3, hq, ⟨fun s F H σ ρ a4 q => ⟨s, F, ρ, a4, q⟩, hk.rt, fun s F H σ ρ a4 q => hk.nx s F H σ ρ a4 q, fun s F H σ ρ a4 q => ⟨s, F, ρ, a4, q⟩⟩⟩
    · have e2 : i = ds.length := by omega
      subst e2
      rw [List.drop_length] at q1
      exact .inl ⟨w2 (Nat.le_refl _), hk.nx s1 F1 H1 σ1 ρ1 a1 q1⟩) q⟩, fun d d' ρ s i q => hi.mono _ _ _ _ (fun xs s' q => forZ_mono (hg (fun _ => none)).mono (hb (fun _ => none)).mono i xs ρ s' q) q⟩
def zRg1 (ta : ZT S D) : ZT S (List D) := fun ρ s Q => ta ρ s fun d s' => match d with | .int n => RgI n ∧ Q (rgD 0 n) s' | _ => False
theorem zi_range1 {tg : Expr} {p : Pos} (hg : Gl X "range") (hm : X.mg "range" = none) (ha : ZR X c fm M a ta) (hs : starEach [a] X.env = [(false, eval a X.env)] := by rfl) :
    ZI X c fm M tg (.Call (.Name "range" p) [a] [] pos) (zRg1 ta) :=
  ⟨pi_imp (pi_range1 hg hm (pa_cons ha.pe pa_nil hs) hs) fun σ H R ⟨s, F, ρ, a, q⟩ => ⟨s, F, ρ, a, ha.mono _ _ _ _ (fun d s' hd F' H' v u r => by
    split at hd
    · rename_i n
      refine ⟨n, by rw [r.int], hd.1.1, hd.1.2, ?_⟩
      have w := wk_rng (K := X.K) (F := F') (lo := 0) (hi := n)
      rw [Int.sub_zero] at w
      exact hd.2 F' H' _ u w
    · exact hd.elim) q⟩, fun ρ s Q Q' f q => ha.mono _ _ _ _ (fun d s' q => by
    split at q
    · exact ⟨q.1, f _ _ q.2⟩
    · exact q.elim) q⟩
def zSeqI (ta : ZT S D) : ZT S (List D) := fun ρ s Q => ta ρ s fun d s' => match d with | .list ds => Q ds s' | .tuple ds => Q ds s' | _ => False
theorem zi_seq {tg : Expr} (ha : ZE X c fm M a ta) : ZI X c fm M tg a (zSeqI ta) :=
  ⟨pi_imp (pi_seq ha.pe) fun σ H R ⟨s, F, ρ, a, q⟩ => ⟨s, F, ρ, a, ha.mono _ _ _ _ (fun d s' hd F' H' v u r => by
    split at hd
    · obtain ⟨p, vs, rfl, hp, rl⟩ := r
      exact .inl ⟨p, rfl, ⟨vs, .inl (.inl (u.sub _ _ hp))⟩, hd F' H' _ u (wk_list hp rl)⟩
    · obtain ⟨p, vs, rfl, hp, rl⟩ := r
      exact .inr ⟨p, rfl, ⟨vs, u.sub.sqT hp⟩, hd F' H' _ u (wk_tup hp rl)⟩
    · exact hd.elim) q⟩, fun ρ s Q Q' f q => ha.mono _ _ _ _ (fun d s' q => by
    split at q
    · exact f _ _ q
    · exact f _ _ q
    · exact q.elim) q⟩
/-! ### list comprehensions -/
def zcomp (tg : DG) (tt : DB) (te : ZT S D) (Q : List D → S → Prop) (ρ : En) : List D → List D → S → Prop
  | [], acc, s => Q acc s
  | x :: xs, acc, s => tg x ρ fun ρ' => tt ρ' fun b => if b = true then te ρ' s fun y s' => zcomp tg tt te Q ρ xs (acc ++ [y]) s' else zcomp tg tt te Q ρ xs acc s
theorem zcomp_mono {tg : DG} {tt : DB} {te : ZT S D} (hg : MonoG tg) (ht : Mono tt) (he : MonoZ te) {Q Q' : List D → S → Prop} (f : ∀ x s, Q x s → Q' x s) (ρ : En) : ∀ xs acc s, zcomp tg tt te Q ρ xs acc s → zcomp tg tt te Q' ρ xs acc s
  | [], acc, s, q => f _ _ q
  | x :: xs, acc, s, q => hg _ _ _ _ (fun ρ' q => ht _ _ _ (fun b q => by
    cases b with
    | true => exact he _ _ _ _ (fun y s' q => zcomp_mono hg ht he f ρ xs _ _ q) q
    | false => exact zcomp_mono hg ht he f ρ xs _ _ q) q) q
def zComp (tI : ZT S (List D)) (tg : DG) (tt : DB) (te : ZT S D) (vs : List Nat) : ZT S (List D) := fun ρ s Q => tI ρ s fun ds s' => ds.length ≤ sizeLine ∧ zcomp tg tt te Q (wipeD ρ vs) ds [] s'
theorem zcomp_core {tI : ZT S (List D)} {tg : DG} {tt : DB} {te : ZT S D} {vs : List Nat} (mI : MonoZ tI) (mg : MonoG tg) (mt : Mono tt) (me : MonoZ te) : ∀ σ H Q, zF X.K c fm M (zComp tI tg tt te vs) σ H Q →
    tLc (zI X.K c fm M tI) (zTg X.K c fm M vs tg) (zB X.K c fm M (up tt)) (zE X.K c fm M te) vs σ H Q := fun σ H Q ⟨s, F, ρ, a, q⟩ => ⟨s, F, ρ, a, mI _ _ _ _ (fun ds s0 hd F0 H0 J t0 w D hD => by
  obtain ⟨hz, hd⟩ := hd
  have a0 := SS.step a t0
  generalize hQ : (fun (xs : List PyData) (s' : S) => ∀ F' H' p vs, Stp (fm.rg s') F H F' H' → H p = none → F' p = none → H' p = some (.lst vs) → RpL X.K F' xs vs → Q (.ref p) H') = QQ at hd
  refine ⟨fun i m H1 => ∃ s1 F1 acc av, Stp (fm.rg s1) F0 H0 F1 H1 ∧ F1 D = none ∧ H1 D = some (.lst av) ∧ RpL X.K F1 acc av ∧ acc.length ≤ i ∧ i ≤ ds.length ∧ m = ds.length - i ∧
    zcomp tg tt te QQ (wipeD ρ vs) (ds.drop i) acc s1,
    ⟨_, s0, F0, [], [], a0.bs.hide hD _, a0.bs.sub.none hD, upd_same, rfl, Nat.zero_le _, Nat.zero_le _, rfl, hd⟩, ?_⟩
  rintro i m H1 ⟨s1, F1, acc, av, t1, f1, h1, r1, la, hi1, rfl, q1⟩
  have t01 := Stp.transZ t0 t1
  have a1 : SS X.K c fm M s1 F1 H1 (L2.wipe σ vs) (wipeD ρ vs) := SR.wipe (SS.step a t01) vs
  have nD : ∀ s, ¬ (fm.rg s).mem D := fun s z => (fm.rg s0).dom _ a0.bs.ok D (fm.ym s0 z) hD
  obtain ⟨w1, w2⟩ := w (fm.rg s1) F1 H1 a1.bs t1.mono i
  by_cases hlt : i < ds.length
  · obtain ⟨go, yl⟩ := w1 hlt
    have ed : ds.drop i = ds[i] :: ds.drop (i + 1) := List.drop_eq_getElem_cons hlt
    rw [ed] at q1
    refine .inr ⟨go, fun H' => ∃ s2 F2 acc av, Stp (fm.rg s2) F0 H0 F2 H' ∧ F2 D = none ∧ H' D = some (.lst av) ∧ RpL X.K F2 acc av ∧ acc.length ≤ i + 1 ∧ zcomp tg tt te QQ (wipeD ρ vs) (ds.drop (i + 1)) acc s2, ?_, ?_⟩
    · rintro H' ⟨s2, F2, acc, av, b1, b2, b3, b4, b5, b6⟩
      exact ⟨_, by omega, s2, F2, acc, av, b1, b2, b3, b4, b5, hlt, rfl, b6⟩
    · intro x H2 hy
      obtain ⟨F2, t2, r2⟩ := yl x H2 hy
      refine ⟨s1, F2, _, ds[i], SS.step a1 t2, r2 _ (by simp [hlt]), mg _ _ _ _ (fun ρ' hq F3 H3 σ3 t3 a3 sm => ?_) q1⟩
      refine ⟨wipe_same sm, s1, F3, ρ', a3, mt _ _ _ (fun b hb F4 H4 t4 => ?_) hq⟩
      have t24 := (t2.trans t3).trans t4
      have h4 : H4 D = some (.lst av) := t24.keep _ _ h1 (nD _)
      have f4 : F4 D = none := t24.no h1 f1
      cases b with
      | true =>
        refine L2.iteT ?_
        have hb : te ρ' s1 fun y s' => zcomp tg tt te QQ (wipeD ρ vs) (ds.drop (i + 1)) (acc ++ [y]) s' := hb
        refine ⟨s1, F4, ρ', SS.step a3 t4, me _ _ _ _ (fun y s5 hy F5 H5 v t5 r5 => ?_) hb⟩
        have t25 := Stp.transZ t24 t5
        have h5 : H5 D = some (.lst av) := t25.keep _ _ h1 (nD _)
        have f5 : F5 D = none := t25.no h1 f1
        have ll := r1.length
        exact ⟨av, h5, by omega, s5, F5, acc ++ [y], av ++ [v], (Stp.transZ t1 t25).poke hD f5 (nD _) _, f5, upd_same, (r1.mono t25.mono).append (.cons r5 .nil), by simp; omega, hy⟩
      | false =>
        refine L2.iteF ?_
        have hb : zcomp tg tt te QQ (wipeD ρ vs) (ds.drop (i + 1)) acc s1 := hb
        exact ⟨s1, F4, acc, av, t1.trans t24, f4, h4, r1.mono t24.mono, by omega, hb⟩
  · have e2 : i = ds.length := by omega
    subst e2
    rw [List.drop_length, ← hQ] at q1
    exact .inl ⟨w2 (Nat.le_refl _), q1 F1 H1 D av t01 (t0.old hD) f1 h1 r1⟩) q⟩
theorem zComp_mono {tI : ZT S (List D)} {tg : DG} {tt : DB} {te : ZT S D} {vs : List Nat} (mI : MonoZ tI) (mg : MonoG tg) (mt : Mono tt) (me : MonoZ te) : MonoZ (zComp tI tg tt te vs) := fun ρ s Q Q' f q =>
  mI _ _ _ _ (fun ds s' q => ⟨q.1, zcomp_mono mg mt me f _ _ _ _ q.2⟩) q
theorem zf_comp {elt tg iter : Expr} {ifs : List Expr} {scope : Scope} {own : List (Str × Nat)} {tI : ZT S (List D)} {g : DG} {tt : DB} {te : ZT S D} (s0 : S) (hc : X.calm = true) (hN : X.N.Nodup) (hi : ZI X c fm M tg iter tI) (ok : BlkOk X.N X.env.scope scope own)
    (hg : ∀ (z : S) (s : Shared) (H : Hp) (C : Addr) (cl : List (Str × Addr)) (fp : List Addr), GT (X.blk s H scope (compEnvC scope cl C X.env) fp) (c.at (fm.rg z)) M (own.map (·.2)) tg g)
    (ht : ∀ (z : S) (s : Shared) (H : Hp) (C : Addr) (cl : List (Str × Addr)) (fp : List Addr), DTs (X.blk s H scope (compEnvC scope cl C X.env) fp) (c.at (fm.rg z)) M ifs tt)
    (he : ∀ (s : Shared) (H : Hp) (C : Addr) (cl : List (Str × Addr)) (fp : List Addr), ZE (X.blk s H scope (compEnvC scope cl C X.env) fp) c fm M elt te) (hs : ∀ x, foldedSetIterable iter X.env x = pure x := by intro _; rfl) :
    ZF X c fm M (.ListComp elt [⟨tg, iter, ifs, 0⟩] scope pos) (zComp tI g tt te (own.map (·.2))) :=
  have mg := (hg s0 ⟨X.s_0.heap, X.s_0.gens, X.s_0.drawn, X.s_0.toks, X.s_0.os⟩ X.H_0 0 [] []).mono
  have mt := (ht s0 ⟨X.s_0.heap, X.s_0.gens, X.s_0.drawn, X.s_0.toks, X.s_0.os⟩ X.H_0 0 [] []).mono
  have me := (he ⟨X.s_0.heap, X.s_0.gens, X.s_0.drawn, X.s_0.toks, X.s_0.os⟩ X.H_0 0 [] []).mono
  ⟨pe_imp (pe_lc hc hN hi.pi ok (fun s H C cl fp => (GT.z s0 fun z => hg z s H C cl fp).pg) (fun s H C cl fp => (DTs.z fun z => ht z s H C cl fp).pt) (fun s H C cl fp => (he s H C cl fp).pe) hs) (zcomp_core hi.mono mg mt me), zComp_mono hi.mono mg mt me⟩
/-! ### a list of ours changes -/
def zApp (i : Nat) (te : ZT S D) : ZTS S := fun d ρ s => match gt ρ i with | some (.list xs) => te ρ s fun y s' => xs.length < sizeLine ∧ d.nx (sv ρ i (some (.list (xs ++ [y])))) s' | _ => False
theorem zs_app (i : Nat) {y : Str} {spos : Pos} (ha : ZE X c fm M a ta) (hN : X.N[i]? = some y := by rfl) (hv : Vis X.env.scope y := by first | exact Or.inl rfl | exact Or.inr (Or.inl rfl) | exact Or.inr (Or.inr rfl)) (hm : md M i = .own := by rfl) (hd : (y == ("__debug__" : Str)) = false := by decide) (hcd : (y == ("__classdict__" : Str)) = false := by decide)
    (h1 : starEach [a] X.env = (false, eval a X.env) :: starEach [] X.env := by rfl)
    (hE : ∀ {to : TE} {t : TA}, PE X (.Name y p1) to → PA X [a] t → PE X (.Call (.Attribute (.Name y p1) "append" p2) [a] [] pos) (tBM X.K "list" rAppend to t) := by
      intro to t h h'; exact pe_bm PySem.F.plainAttrs_list PySem.F.slot_list_append PySem.F.type_list_append mt_append h h')
    (hs : swapsWith (.Call (.Attribute (.Name y p1) "append" p2) [a] [] pos) none spos.line X.env = pure false := by rfl) : ZS X c fm M (.Expr (.Call (.Attribute (.Name y p1) "append" p2) [a] [] pos) spos) (zApp i ta) :=
  ⟨ps_imp (ps_expr (hE (pe_var hN hv hd hcd) (pa_cons ha.pe pa_nil h1)) hs) fun E σ H ⟨s, F, ρ, d, sr, q, h⟩ => by
    unfold zApp at q
    split at q
    · rename_i xs hx
      obtain ⟨p, vs, ds, e2, h1, h3, h4, h5, h6, h7⟩ := SR.ownAt sr hx hm
      cases e2
      refine ⟨_, h1, .inl ⟨rfl, vs, .inl (.inl h3)⟩, s, F, ρ, sr, ha.mono _ _ _ _ (fun y s' ⟨hl, hn⟩ F' H' v u r => ?_) q⟩
      exact ⟨p, vs, v, rfl, rfl, u.keep _ _ h3 (fm.nm s' h7), by rw [h4.length]; exact hl, h.nx s' F' _ σ _ (SR.putL (SS.step sr u) hm hx h1 (u.no h3 h5) h6 (fm.nm s' h7) ((h4.mono u.mono).append (.cons r .nil))) hn⟩
    · exact q.elim, fun d d' ρ s j q => by
    unfold zApp at q ⊢
    split at q
    · exact ha.mono _ _ _ _ (fun y s' q => ⟨q.1, j.nx _ s' q.2⟩) q
    · exact q.elim⟩
/-- z.append(x.pop(e)) -/
def zAppPop (i j : Nat) (tk : ZT S D) : ZTS S := fun d ρ s => match gt ρ i, gt ρ j with
  | some (.list xs), some (.list zs) => tk ρ s fun k s' => (match k with
    | .int n => (0 ≤ n ∧ n < xs.length ∧ xs.length ≤ 1000 ∧ zs.length < 1000) ∧ (match xs[n.toNat]? with | some y => d.nx (sv (sv ρ i (some (.list (xs.eraseIdx n.toNat)))) j (some (.list (zs ++ [y])))) s' | none => False)
    | _ => False)
  | _, _ => False
theorem zs_appPop (i j : Nat) {x z : Str} {p4 p5 spos : Pos} (hij : j ≠ i := by decide) (hb : ZR X c fm M b tb) (hm : md M i = .own := by rfl) (hm2 : md M j = .own := by rfl) (hN : X.N[i]? = some x := by rfl) (hN2 : X.N[j]? = some z := by rfl)
    (hv : Vis X.env.scope x := by first | exact Or.inl rfl | exact Or.inr (Or.inl rfl) | exact Or.inr (Or.inr rfl)) (hv2 : Vis X.env.scope z := by first | exact Or.inl rfl | exact Or.inr (Or.inl rfl) | exact Or.inr (Or.inr rfl))
    (hd : (x == ("__debug__" : Str)) = false := by decide) (hcd : (x == ("__classdict__" : Str)) = false := by decide) (hd2 : (z == ("__debug__" : Str)) = false := by decide) (hcd2 : (z == ("__classdict__" : Str)) = false := by decide)
    (h1 : starEach [b] X.env = (false, eval b X.env) :: starEach [] X.env := by rfl)
    (hP : ∀ {to : TE} {t : TA}, PE X (.Name x p1) to → PA X [b] t → PE X (.Call (.Attribute (.Name x p1) "pop" p2) [b] [] p3) (tBM X.K "list" rPopAt to t) := by
      intro to t h h'; exact pe_bm PySem.F.plainAttrs_list PySem.F.slot_list_pop PySem.F.type_list_pop mt_popAt h h')
    (h2 : starEach [.Call (.Attribute (.Name x p1) "pop" p2) [b] [] p3] X.env = (false, eval (.Call (.Attribute (.Name x p1) "pop" p2) [b] [] p3) X.env) :: starEach [] X.env := by rfl)
    (hE : ∀ {to : TE} {t : TA}, PE X (.Name z p4) to → PA X [.Call (.Attribute (.Name x p1) "pop" p2) [b] [] p3] t → PE X (.Call (.Attribute (.Name z p4) "append" p5) [.Call (.Attribute (.Name x p1) "pop" p2) [b] [] p3] [] pos) (tBM X.K "list" rAppend to t) := by
      intro to t h h'; exact pe_bm PySem.F.plainAttrs_list PySem.F.slot_list_append PySem.F.type_list_append mt_append h h')
    (hs : swapsWith (.Call (.Attribute (.Name z p4) "append" p5) [.Call (.Attribute (.Name x p1) "pop" p2) [b] [] p3] [] pos) none spos.line X.env = pure false := by rfl) :
    ZS X c fm M (.Expr (.Call (.Attribute (.Name z p4) "append" p5) [.Call (.Attribute (.Name x p1) "pop" p2) [b] [] p3] [] pos) spos) (zAppPop i j tb) :=
  ⟨ps_imp (ps_expr (hE (pe_var hN2 hv2 hd2 hcd2) (pa_cons (hP (pe_var hN hv hd hcd) (pa_cons hb.pe pa_nil h1)) pa_nil h2)) hs) fun E σ H ⟨s, F, ρ, d, sr, q, h⟩ => by
    unfold zAppPop at q
    split at q
    · rename_i xs zs hx hz
      obtain ⟨p, vs, ds, e2, a1, a3, a4, a5, a6, a7⟩ := SR.ownAt sr hx hm
      cases e2
      obtain ⟨p', vs', ds', e2, b1, b3, b4, b5, b6, b7⟩ := SR.ownAt sr hz hm2
      cases e2
      have pp : p' ≠ p := fun z => by
        subst z
        exact SR.apart sr i j p' (Ne.symm hij) (by rw [hm]; rfl) (by rw [hm2]; rfl) (by rw [hx]; simp) (by rw [hz]; simp) a1 b1
      refine ⟨_, b1, .inl ⟨rfl, vs', .inl (.inl b3)⟩, _, a1, .inl ⟨rfl, vs, .inl (.inl a3)⟩, s, F, ρ, sr, hb.mono _ _ _ _ (fun k s' hk F' H' v u r => ?_) q⟩
      split at hk
      · rename_i n
        obtain ⟨⟨n0, n1, n2, n3⟩, hk⟩ := hk
        split at hk
        · rename_i y hy
          obtain ⟨w, hw, rw'⟩ := a4.get hy
          have L1 := a4.length
          have L2 := b4.length
          have s2 := SR.putL (SS.step sr u) hm hx a1 (u.no a3 a5) a6 (fm.nm s' a7) ((a4.mono u.mono).eraseIdx n.toNat)
          have nz : n = (n.toNat : Int) := (Int.toNat_of_nonneg n0).symm
          refine ⟨p, vs, n, n.toNat, w, rfl, by rw [r.int], u.keep _ _ a3 (fm.nm s' a7), by omega, by omega, (ixN_seq (by unfold ixN; rw [if_pos n0, if_pos (by omega)])).1, hw, ?_⟩
          refine ⟨p', vs', w, rfl, rfl, by rw [upd_ne pp]; exact u.keep _ _ b3 (fm.nm s' b7), ?_, ?_⟩
          · exact Nat.lt_of_le_of_lt (show vs'.length ≤ 1000 by omega) (by decide)
          · exact h.nx s' F' _ σ _ (SR.putL s2 hm2 (by rw [gt_sv_ne hij]; exact hz) b1 (u.no b3 b5) b6 (fm.nm s' b7) ((b4.mono u.mono).append (.cons (rw'.mono u.mono) .nil))) hk
        · exact hk.elim
      · exact hk.elim
    · exact q.elim, fun d d' ρ s k q => by
    unfold zAppPop at q ⊢
    split at q
    · refine hb.mono _ _ _ _ (fun k' s' q => ?_) q
      split at q
      · refine ⟨q.1, ?_⟩
        have q := q.2
        split at q
        · exact k.nx _ s' q
        · exact q.elim
      · exact q.elim
    · exact q.elim⟩
end
/-! ### defs -/
abbrev KZ (S : Type) := List D → S → (D → S → Prop) → Prop
def MonoK {S : Type} (k : KZ S) : Prop := ∀ ds s (Q Q' : D → S → Prop), (∀ d s', Q d s' → Q' d s') → k ds s Q → k ds s Q'
def spZ {S : Type} (IsF : Fam S → Prop) (K : PySem.W.Frag) (ms : List Md) (k : KZ S) : Sp := fun vs H Q _ =>
  ∃ fm s F ds, IsF fm ∧ Bs (fm.rg s) F H ∧ ArgsOk K (fm.rg s) F H ms ds vs ∧ k ds s fun d s' => ∀ F' H' v, Stp (fm.rg s') F H F' H' → Rp K F' d v → Q v H'
structure ClZ {S : Type} (IsF : Fam S → Prop) (P : Program) (w : World) (K : PySem.W.Frag) (mg : Str → Option Value) (base : Heap) (k : Nat) (x : Str) (ps : List Str) (ms : List Md) (kf : KZ S) : Prop where
  ex : ∃ f fd, mg x = some (.ref f) ∧ PySem.W.keepIn K (.ref f) = true ∧ Binds K fd ps [] ∧ FnG P w K mg base CX0 k f fd ps (spZ IsF K ms kf)
  mo : MonoK kf
section
variable {S : Type} {IsF : Fam S → Prop} {X : Cx} {c : EC} {fm : Fam S} {M ms : List Md} {a : Expr} {xs : List Expr} {tr : ZT S (List D)} {pos p1 : Pos}
def zCall (kf : KZ S) (tr : ZT S (List D)) : ZT S D := fun ρ s Q => tr ρ s fun ds s' => kf ds s' Q
theorem clz {k : Nat} {y : Str} {ps : List Str} {kf : KZ S} (C : ClZ IsF X.prog X.w X.K X.mg X.base k y ps ms kf) (hF : IsF fm) (hr : Room k X.A) (hgd : X.A.guards = some []) (ha : ZG X c fm M ms (a :: xs) tr)
    (hg : Gl X y := by rfl) (hdb : (y == ("__debug__" : Str)) = false := by decide) (he : starEach (a :: xs) X.env = (false, eval a X.env) :: starEach xs X.env := by rfl)
    (hpl : (backTo pos (starEach xs X.env)).any (·.1) = false := by rfl) : ZE X c fm M (.Call (.Name y p1) (a :: xs) [] pos) (zCall kf tr) := by
  obtain ⟨f, fd, h1, h2, h3, F⟩ := C.ex
  exact ⟨pe_imp (pe_callG F hr hgd hg h1 h2 h3 pass0 ha.pa hdb he hpl) fun σ H Q ⟨s, F, ρ, sr, q⟩ => ⟨s, F, ρ, sr, ha.mono _ _ _ _ (fun ds s1 hd F1 H1 vs u rv =>
    ⟨fm, s1, F1, ds, hF, Bs.stepZ sr.bs u, rv, C.mo _ _ _ _ (fun d s2 hq F2 H2 v u2 r2 => hq F2 H2 v (Stp.transZ u u2) r2) hd⟩) q⟩, fun ρ s Q Q' f q => ha.mono _ _ _ _ (fun ds s' q => C.mo _ _ _ _ f q) q⟩
/-- a def without a deck, called with arguments that draw -/
theorem clo {k : Nat} {y : Str} {ps : List Str} {kf : KF} (C : Cl X.prog X.w X.K X.mg X.base k y ps ms kf) (hr : Room k X.A) (hgd : X.A.guards = some []) (ha : ZG X c fm M ms (a :: xs) tr)
    (hg : Gl X y := by rfl) (hdb : (y == ("__debug__" : Str)) = false := by decide) (he : starEach (a :: xs) X.env = (false, eval a X.env) :: starEach xs X.env := by rfl)
    (hpl : (backTo pos (starEach xs X.env)).any (·.1) = false := by rfl) : ZE X c fm M (.Call (.Name y p1) (a :: xs) [] pos) (zCl kf tr) := by
  obtain ⟨f, fd, h1, h2, h3, F⟩ := C.ex
  exact ⟨pe_imp (pe_callG F hr hgd hg h1 h2 h3 pass0 ha.pa hdb he hpl) fun σ H Q ⟨s, F, ρ, sr, q⟩ => ⟨s, F, ρ, sr, ha.mono _ _ _ _ (fun ds s1 hd F1 H1 vs u rv =>
    ⟨fm.rg s1, F1, ds, Bs.stepZ sr.bs u, rv, C.mo _ _ _ (fun d hq F2 H2 v u2 r2 => hq F2 H2 v (Stp.transZ u u2) r2) hd⟩) q⟩, zCl_mono C.mo ha.mono⟩
end
section
variable {S : Type} {IsF : Fam S → Prop} {P : Program} {w : World} {K : PySem.W.Frag} {mg : Str → Option Value} {base : Heap}
theorem clzD {x : Str} {st : Stmt} {N ps : List Str} {M ms : List Md} {k : Nat} {kf : KZ S} (h : Hd K mg x st ps) (Sc : FnScope N ps (defScope st)) (mo : MonoK kf)
    (hM : M.take ms.length = ms) (hp : ms.all Md.par = true) (hms : ms.length = ps.length) (hn : ps.length ≤ N.length)
    (bd : ∃ t : ZTS S, (∀ (f : Addr) (cdv : Value) (A : Around) (outer : List Env) (s : Shared) (H : Hp) (E : XK) (c : EC) (fm : Fam S), IsF fm → Room k (A.deeper (envOfC x (defScope st) s.heap.objs.size f cdv)) → (A.deeper (envOfC x (defScope st) s.heap.objs.size f cdv)).guards = some [] →
      ZSs (cxOf CX0 P w K mg base N x (defScope st) f cdv A outer s H E).nox c fm M (defBody st) t) ∧
      (∀ ds s (Q : D → S → Prop), kf ds s Q → t { nx := fun _ s' => Q .none s', rt := Q } (startD N.length ds) s)) (hso : soloM M = true := by rfl) : ClZ IsF P w K mg base (k + 1) x ps ms kf := by
  obtain ⟨f, fd, F, b, m⟩ := h.ex
  obtain ⟨t, d, sp⟩ := bd
  refine ⟨⟨f, fd, m, F.kp, b, fnG_of F Sc (fun vs H Q E ⟨fm, s, F, ds, _, bs, a, _⟩ => by rw [a.len, hms]) fun cdv A outer sh H vs Q E hr hg ⟨fm, s, F0, ds, hF, bs, a, q⟩ => ?_⟩, mo⟩
  have D := d f cdv A outer sh H E ⟨F0, H, F0⟩ fm hF hr hg
  refine ⟨_, D.ps.nox, s, F0, _, _, SR.begin bs a hM hp (by omega) hso, sp ds s _ q, ?_⟩
  exact ⟨fun s' F' H' σ' ρ' a' q' => q' F' H' .non a'.stp rfl, fun s' F' H' d v t' r q' => q' F' H' v t' r, fun _ _ _ _ _ _ z => z.elim, fun _ _ _ _ _ _ z => z.elim⟩
end
end PP

set_option Elab.async false
set_option linter.all false
set_option maxRecDepth 100000
set_option maxHeartbeats 1000000
namespace PP
open PySem PySem.Spec PyProof.Rows L2
def zFrz {S : Type} (i : Nat) (t : ZTS S) : ZTS S := fun d ρ s => (∃ ds, gt ρ i = some (.list ds)) ∧ t { nx := fun ρ s => d.nx (sv ρ i none) s, rt := d.rt, bk := fun ρ s => d.bk (sv ρ i none) s, ct := fun ρ s => d.ct (sv ρ i none) s } ρ s
/-- from here on the list of slot i stays as it is -/
theorem zss_frz {S : Type} {X : Cx} {c : EC} {fm : Fam S} {M M' : List Md} {st : List Stmt} {t : ZTS S} (i : Nat) (r : Remode M M' i) (D : ZSs X c fm M' st t) : ZSs X c fm M st (zFrz i t) :=
  ⟨pss_imp D.ps fun E σ H ⟨s, F, ρ, d, a, ⟨⟨ds, hd⟩, q⟩, h⟩ => by
    obtain ⟨F', a'⟩ := SR.frz a r hd
    exact ⟨s, F', ρ, _, a', q, ⟨fun s F H σ ρ s2 q => h.nx _ _ _ _ _ (SR.back s2 r a.solo) q, h.rt, fun s F H σ ρ s2 q => h.bk _ _ _ _ _ (SR.back s2 r a.solo) q, fun s F H σ ρ s2 q => h.ct _ _ _ _ _ (SR.back s2 r a.solo) q⟩⟩,
   fun d d' ρ s k ⟨h, q⟩ => ⟨h, D.mono { nx := fun ρ s => d.nx (sv ρ i none) s, rt := d.rt, bk := fun ρ s => d.bk (sv ρ i none) s, ct := fun ρ s => d.ct (sv ρ i none) s } { nx := fun ρ s => d'.nx (sv ρ i none) s, rt := d'.rt, bk := fun ρ s => d'.bk (sv ρ i none) s, ct := fun ρ s => d'.ct (sv ρ i none) s } ρ s ⟨fun ρ s q => k.nx _ s q, k.rt, fun ρ s q => k.bk _ s q, fun ρ s q => k.ct _ s q⟩ q⟩⟩
/-! ### what is followed -/
theorem forZ_step {S : Type} {tg : DG} {tb : ZTS S} {d : ZEnds S} (I : List D → En → S → Prop) : ∀ {xs : List D} {ρ : En} {s : S}, I xs ρ s →
    (∀ x xs ρ s (k : En → S → Prop), I (x :: xs) ρ s → (∀ ρ' s', I xs ρ' s' → k ρ' s') → tg x ρ fun ρ' => tb { nx := k, ct := k, bk := d.nx, rt := d.rt } ρ' s) → (∀ ρ s, I [] ρ s → d.nx ρ s) → forZ tg tb d xs ρ s
  | [], ρ, s, h0, _, hd => hd ρ s h0
  | x :: xs, ρ, s, h0, hs, hd => hs x xs ρ s (forZ tg tb d xs) h0 fun ρ' s' h => forZ_step I h hs hd
theorem zcomp_step {S : Type} {tg : DG} {tt : DB} {te : ZT S D} {Q : List D → S → Prop} {ρ : En} (I : List D → List D → S → Prop) : ∀ {xs acc : List D} {s : S}, I xs acc s →
    (∀ x xs acc s (k : List D → S → Prop), I (x :: xs) acc s → (∀ a s', I xs a s' → k a s') → tg x ρ fun ρ' => tt ρ' fun b => if b = true then te ρ' s fun y s' => k (acc ++ [y]) s' else k acc s) → (∀ a s, I [] a s → Q a s) → zcomp tg tt te Q ρ xs acc s
  | [], acc, s, h0, _, hd => hd acc s h0
  | x :: xs, acc, s, h0, hs, hd => hs x xs acc s (fun a s' => zcomp tg tt te Q ρ xs a s') h0 fun a s' h => zcomp_step I h hs hd
end PP

set_option Elab.async false
set_option linter.all false
set_option maxRecDepth 100000
set_option maxHeartbeats 1000000
namespace PP
open PySem PySem.Spec PyProof.Rows L2
section
variable {S : Type} {X : Cx} {c : EC} {fm : Fam S} {M ms : List Md} {a : Expr} {xs : List Expr} {ta : ZT S D} {tr : ZT S (List D)} {pos : Pos}
def zBor (t : ZT S D) : ZT S D := fun ρ s Q => t ρ s fun d s' => match d with | .list ds => Q (.list ds) s' | _ => False
/-- a list of ours, lent -/
theorem zg_bor (ha : ZR X c fm M a ta) (hr : ZG X c fm M ms xs tr) (hs : starEach (a :: xs) X.env = (false, eval a X.env) :: starEach xs X.env := by rfl) : ZG X c fm M (.bor :: ms) (a :: xs) (zCons (zBor ta) tr) :=
  ⟨pa_imp (pa_cons ha.pe hr.pa hs) fun σ H Q ⟨s, F, ρ, sr, q⟩ => ⟨s, F, ρ, sr, ha.mono _ _ _ _ (fun d s1 hd F1 H1 v u1 r1 => by
    split at hd
    · obtain ⟨p, vs, e1, hp, m, rl⟩ := r1.lst (Bs.stepZ sr.bs u1)
      exact ⟨s1, F1, ρ, SS.step sr u1, hr.mono _ _ _ _ (fun ds s2 hq F2 H2 vs2 u2 r2 => hq F2 H2 (v :: vs2) (Stp.transZ u1 u2) ⟨_, ds, v, vs2, rfl, rfl, ⟨p, vs, _, e1, rfl, u2.keep _ _ hp (fm.nm s2 m), fm.nm s2 m, rl.mono u2.mono⟩, r2⟩) hd⟩
    · exact hd.elim) q⟩, fun ρ s Q Q' f q => ha.mono _ _ _ _ (fun x s1 q => by
    split at q
    · exact hr.mono _ _ _ _ (fun xs s2 q => f _ _ q) q
    · exact q.elim) q⟩
end
end PP

set_option Elab.async false
set_option linter.all false
set_option maxRecDepth 100000
set_option maxHeartbeats 2000000
namespace PP
open PySem PySem.Spec PyProof.Rows L2
section
variable {S : Type} {X : Cx} {c : EC} {fm : Fam S} {M ms : List Md} {x a b : Expr} {ta tb tc : ZT S D} {pos p1 p2 p3 p4 p5 : Pos}
theorem z_gt (ha : ZR X c fm M a ta) (hb : ZR X c fm M b tb) : ZE X c fm M (.Compare a [.Gt] [b] pos) (z2 kGt ta tb) := z_cmp op_gt (says_I0 fun _ _ _ => rfl) kI_mono ha hb (nm (by decide) (by decide))
theorem zs_parP {i j : Nat} {mi mj : Md} {x y : Str} {kt k2 : Nat} (hc : X.calm = true) (hN : X.N.Nodup) (hm : md M i = mi) (hn : md M j = mj) (ha : ZP X c fm M mi a ta) (hb : ZP X c fm M mj b tb) (hi : X.N[i]? = some x := by rfl) (hj : X.N[j]? = some y := by rfl) (hij : i ≠ j := by decide)
    (hx : X.env.scope.names.lookup x = some .local := by rfl) (hy : X.env.scope.names.lookup y = some .local := by rfl)
    (ea : starEach [a, b] X.env = (false, eval a X.env) :: starEach [b] X.env := by rfl) (eb : starEach [b] X.env = (false, eval b X.env) :: starEach [] X.env := by rfl)
    (hw : swappedStores [.Tuple [.Name x p1, .Name y p2] kt p3] (.Tuple [a, b] k2 p4) X.env = pure (some [x, y]) := by rfl)
    (hs : swapsWithSole [.Tuple [.Name x p1, .Name y p2] kt p3] (.Tuple [a, b] k2 p4) pos.line X.env = pure false := by rfl) :
    ZS X c fm M (.Assign [.Tuple [.Name x p1, .Name y p2] kt p3] (.Tuple [a, b] k2 p4) pos) (zPar i j ta tb) :=
  ⟨ps_imp (L2.ps_par hc hN hi hj hij hx hy (pa_cons ha.pe (pa_cons hb.pe pa_nil eb) ea) hw hs) fun E σ H ⟨s, F, ρ, d, a, q, h⟩ => ⟨s, F, ρ, a, ha.mono _ _ _ _ (fun x s1 hx F1 H1 v t1 r1 => ⟨s1, F1, ρ, SS.step a t1, hb.mono _ _ _ _ (fun y s2 hy F2 H2 w t2 r2 =>
    ⟨v, w, rfl, h.nx s2 F2 H2 _ _ (SS.put (SS.put a t1 hm r1) t2 hn r2) hy⟩) hx⟩) q⟩, fun d d' ρ s k q => ha.mono _ _ _ _ (fun x s1 q => hb.mono _ _ _ _ (fun y s2 q => k.nx _ s2 q) q) q⟩
def insD (xs : List D) (n : Nat) (y : D) : List D := xs.take n ++ [y] ++ xs.drop n
/-- x.insert(e, x.pop(k)) -/
def zInsPop (i : Nat) (te tk : ZT S D) : ZTS S := fun d ρ s => match gt ρ i with
  | some (.list xs) => te ρ s fun dn s1 => tk ρ s1 fun dk s2 => (match dn, dk with
    | .int n, .int m => (0 ≤ n ∧ n < 2 ^ 62 ∧ 0 ≤ m ∧ m < xs.length ∧ xs.length ≤ 1000) ∧ (match xs[m.toNat]? with | some y => d.nx (sv (sv ρ i (some (.list (xs.eraseIdx m.toNat)))) i (some (.list (insD (xs.eraseIdx m.toNat) n.toNat y)))) s2 | none => False)
    | _, _ => False)
  | _ => False
theorem RpL.ins {K : PySem.W.Frag} {H : Hp} {ds : List D} {vs : List V} {d : D} {v : V} (r : RpL K H ds vs) (h : Rp K H d v) (n : Nat) : RpL K H (insD ds n d) (vs.take n ++ [v] ++ vs.drop n) := ((r.take n).append (.cons h .nil)).append (r.drop n)
theorem zs_insPop (i : Nat) {y : Str} {spos : Pos} (ha : ZE X c fm M a ta) (hb : ZR X c fm M b tb) (hm : md M i = .own := by rfl) (hN : X.N[i]? = some y := by rfl) (hv : Vis X.env.scope y := by first | exact Or.inl rfl | exact Or.inr (Or.inl rfl) | exact Or.inr (Or.inr rfl)) (hd : (y == ("__debug__" : Str)) = false := by decide) (hcd : (y == ("__classdict__" : Str)) = false := by decide)
    (h1 : starEach [b] X.env = (false, eval b X.env) :: starEach [] X.env := by rfl)
    (hP : ∀ {to : TE} {t : TA}, PE X (.Name y p1) to → PA X [b] t → PE X (.Call (.Attribute (.Name y p1) "pop" p2) [b] [] p3) (tBM X.K "list" rPopAt to t) := by
      intro to t h h'; exact pe_bm PySem.F.plainAttrs_list PySem.F.slot_list_pop PySem.F.type_list_pop mt_popAt h h')
    (h2 : starEach [a, .Call (.Attribute (.Name y p1) "pop" p2) [b] [] p3] X.env = (false, eval a X.env) :: starEach [.Call (.Attribute (.Name y p1) "pop" p2) [b] [] p3] X.env := by rfl)
    (h3 : starEach [.Call (.Attribute (.Name y p1) "pop" p2) [b] [] p3] X.env = (false, eval (.Call (.Attribute (.Name y p1) "pop" p2) [b] [] p3) X.env) :: starEach [] X.env := by rfl)
    (hE : ∀ {to : TE} {t : TA}, PE X (.Name y p4) to → PA X [a, .Call (.Attribute (.Name y p1) "pop" p2) [b] [] p3] t → PE X (.Call (.Attribute (.Name y p4) "insert" p5) [a, .Call (.Attribute (.Name y p1) "pop" p2) [b] [] p3] [] pos) (tBM X.K "list" (fun x vs H Q => ∃ (l : Addr) (xs : List V) (i : Int) (y : V), x = .ref l ∧ vs = [.int i, y] ∧ H l = some (.lst xs) ∧ xs.length < sizeLine ∧ 0 ≤ i ∧ i < 2 ^ 63 ∧
    Q .non (upd H l (.lst (xs.take i.toNat ++ [y] ++ xs.drop i.toNat)))) to t) := by
      intro to t h h'; exact pe_bm PySem.F.plainAttrs_list PySem.F.slot_list_insert PySem.F.type_list_insert mt_insert h h')
    (hs : swapsWith (.Call (.Attribute (.Name y p4) "insert" p5) [a, .Call (.Attribute (.Name y p1) "pop" p2) [b] [] p3] [] pos) none spos.line X.env = pure false := by rfl) :
    ZS X c fm M (.Expr (.Call (.Attribute (.Name y p4) "insert" p5) [a, .Call (.Attribute (.Name y p1) "pop" p2) [b] [] p3] [] pos) spos) (zInsPop i ta tb) :=
  ⟨ps_imp (ps_expr (hE (pe_var hN hv hd hcd) (pa_cons ha.pe (pa_cons (hP (pe_var hN hv hd hcd) (pa_cons hb.pe pa_nil h1)) pa_nil h3) h2)) hs) fun E σ H ⟨s, F, ρ, d, sr, q, h⟩ => by
    unfold zInsPop at q
    split at q
    · rename_i xs hx
      obtain ⟨p, vs, ds, e2, a1, a3, a4, a5, a6, a7⟩ := SR.ownAt sr hx hm
      cases e2
      refine ⟨_, a1, .inl ⟨rfl, vs, .inl (.inl a3)⟩, s, F, ρ, sr, ha.mono _ _ _ _ (fun dn s1 hdn F1 H1 v u1 r1 => ?_) q⟩
      have k1 : H1 p = some (.lst vs) := u1.keep _ _ a3 (fm.nm s1 a7)
      refine ⟨_, a1, .inl ⟨rfl, vs, .inl (.inl k1)⟩, s1, F1, ρ, SS.step sr u1, hb.mono _ _ _ _ (fun dk s2 hdk F2 H2 w u2 r2 => ?_) hdn⟩
      have u := Stp.transZ u1 u2
      have k2 : H2 p = some (.lst vs) := u.keep _ _ a3 (fm.nm s2 a7)
      split at hdk
      · rename_i n m
        obtain ⟨⟨n0, n1, m0, m1, m2⟩, hq⟩ := hdk
        split at hq
        · rename_i y hy
          have rl := a4.mono u.mono
          obtain ⟨z, hz, rz⟩ := rl.get hy
          have L1 := rl.length
          have hp0 := u.no a3 a5
          have s3 := SR.putL (SS.step sr u) hm hx a1 hp0 a6 (fm.nm s2 a7) (rl.eraseIdx m.toNat)
          have hi : i < ρ.length := by have := SR.lt sr hx; rw [sr.len] at this; exact this
          have hx3 : gt (sv ρ i (some (.list (xs.eraseIdx m.toNat)))) i = some (.list (xs.eraseIdx m.toNat)) := by rw [gt_sv, if_pos rfl, if_pos hi]
          have s4 := SR.putL s3 hm hx3 a1 hp0 a6 (fm.nm s2 a7) ((rl.eraseIdx m.toNat).ins rz n.toNat)
          have ev : v = .int n := r1
          subst ev
          refine ⟨p, vs, m, m.toNat, z, rfl, by rw [r2.int], k2, by omega, by omega, (ixN_seq (by unfold ixN; rw [if_pos m0, if_pos (by omega)])).1, hz, ?_⟩
          refine ⟨p, vs.eraseIdx m.toNat, n, z, rfl, rfl, upd_same, ?_, n0, by omega, ?_⟩
          · have := List.length_eraseIdx_le vs m.toNat
            exact Nat.lt_of_le_of_lt (show (vs.eraseIdx m.toNat).length ≤ 1000 by omega) (by decide)
          · exact h.nx s2 F2 _ σ _ s4 hq
        · exact hq.elim
      · exact hdk.elim
    · exact q.elim, fun d d' ρ s k q => by
    unfold zInsPop at q ⊢
    split at q
    · refine ha.mono _ _ _ _ (fun dn s1 q => hb.mono _ _ _ _ (fun dk s2 q => ?_) q) q
      split at q
      · refine ⟨q.1, ?_⟩
        have q := q.2
        split at q
        · exact k.nx _ s2 q
        · exact q.elim
      · exact q.elim
    · exact q.elim⟩
end
end PP

set_option Elab.async false
set_option linter.all false
set_option maxRecDepth 100000
set_option maxHeartbeats 4000000
namespace PP
open PySem PySem.Spec PyProof.Rows L2
/-! ### objects of ours: their fields -/
/-- what is known of a class of objects of ours -/
structure ClsF (K : PySem.W.Frag) (c : Str) (fs : List Str) : Prop where
  cl : ∀ C, OneC K c C → Cls K C
  na : ∀ C f, OneC K c C → f ∈ fs → NoAttr K C f
def dlook (f : Str) : List (D × D) → Option D
  | [] => none
  | (k, d) :: r => match k with
    | .str g => if f = g then some d else dlook f r
    | _ => dlook f r
section
variable {K : PySem.W.Frag} {g : Rg} {F H : Hp} {eH : Hp}
theorem FldOk.rd {k : Fk} {d : D} {v : V} (h : FldOk K F H g eH k d v) : RdR K g F H d v := by
  cases k with
  | val => exact .inl h
  | own =>
    obtain ⟨p, vs, ds, h1, h2, h3, h4, h5, h6, h7⟩ := h
    exact .inr (.inl ⟨p, vs, ds, h1, h2, h3, h7, h4⟩)
  | od =>
    obtain ⟨p, vs, ds, h1, h2, h3, h4, h5, h6, h7⟩ := h
    exact .inr (.inr ⟨p, vs, ds, h1, h2, h3, h7, h4⟩)
theorem FldsOk.look {f : Str} : ∀ {fks : List (Str × Fk)} {fs : List (Str × V)} {ks : List (D × D)} {d : D}, FldsOk K F H g eH fks fs ks → dlook f ks = some d → ∃ k x, fs.lookup f = some x ∧ FldOk K F H g eH k d x
  | [], fs, ks, d, h, e => by
    obtain ⟨_, rfl⟩ := h
    cases e
  | (y, k) :: r, fs, ks, d, h, e => by
    obtain ⟨x, d', fr, kr, rfl, rfl, h3, h4⟩ := h
    have e : (if f = y then some d' else dlook f kr) = some d := e
    by_cases c : f = y
    · rw [if_pos c] at e
      cases e
      exact ⟨k, x, by subst c; simp [List.lookup], h3⟩
    · rw [if_neg c] at e
      obtain ⟨k2, x2, h5, h6⟩ := FldsOk.look h4 e
      refine ⟨k2, x2, ?_, h6⟩
      have : (f == y) = false := by simpa using c
      simp only [List.lookup, this]
      exact h5
end
section
variable {X : Cx} {e : Ent} {M : List Md} {a b : Expr} {ta tb : DT} {pos p1 p2 : Pos}
/-- x.f, x an object of ours -/
def tFl (i : Nat) (f : Str) : DT := fun ρ Q => match gt ρ i with
  | some (.dict ks) => (match dlook f ks with | some d => Q d | none => False)
  | _ => False
theorem tFl_mono (i : Nat) (f : Str) : Mono (tFl i f) := fun ρ Q Q' h q => by
  unfold tFl at q ⊢
  split at q
  · split at q
    · exact h _ q
    · exact q.elim
  · exact q.elim
theorem re_fld {i : Nat} {y f : Str} {c : Str} {fks : List (Str × Fk)} (cf : ClsF X.K c (fks.map (·.1))) (hf : f ∈ fks.map (·.1)) (hN : X.N[i]? = some y) (hv : Vis X.env.scope y) (hm : md M i = .ob c fks) (hd : (y == ("__debug__" : Str)) = false := by decide) (hcd : (y == ("__classdict__" : Str)) = false := by decide)
    (hb : attributeBase (.Name y p1) f X.env (eval (.Name y p1) X.env) = eval (.Name y p1) X.env := by rfl) : RE X e M (.Attribute (.Name y p1) f pos) (tFl i f) :=
  ⟨pe_imp (pe_fld (pe_var hN hv hd hcd) hb) fun σ H Q ⟨g, F, ρ, sr, q⟩ => by
    unfold tFl at q
    split at q
    · rename_i ks hk
      split at q
      · rename_i d hd
        obtain ⟨v, h1, h2⟩ := sr.slot i _ hk
        rw [hm] at h2
        obtain ⟨a, dx, C, fs, ks2, e1, e2, h3, h4, h5, h6, h7, h8, h9, h10⟩ := h2
        subst e1
        cases e2
        have hd : dlook f ks2 = some d := hd
        obtain ⟨k, x, hl, ok⟩ := h5.look hd
        exact ⟨_, h1, a, C, dx, fs, x, rfl, h3, cf.cl C h10, cf.na C f h10 hf, hl, q F H x sr.bs.refl ok.rd⟩
      · exact q.elim
    · exact q.elim, tFl_mono i f⟩
end
/-! ### a method: what it is told of its object, what it leaves -/
def ObAt (K : PySem.W.Frag) (F H : Hp) (g : Rg) (eH : Hp) (c : Str) (fks : List (Str × Fk)) (a dx : Addr) (fs : List (Str × V)) (ks : List (D × D)) : Prop := ∃ C, H a = some (.ins C dx fs) ∧ H dx = some (.own a) ∧ FldsOk K F H g eH fks fs ks ∧ (F a = none ∧ F dx = none) ∧ (¬ g.mem a ∧ ¬ g.mem dx) ∧ (eH a = none ∧ eH dx = none) ∧ (ownA fks fs).Nodup ∧ OneC K c C
/-- the heap without an object of ours -/
def unown (H : Hp) (a dx : Addr) (as : List Addr) : Hp := fun b => if b = a ∨ b = dx ∨ b ∈ as then none else H b
theorem unown_le {H : Hp} {a dx : Addr} {as : List Addr} : Le (unown H a dx as) H := fun b o h => by
  unfold unown at h
  split at h
  · cases h
  · exact h
/-- promises of methods: the object's fields, the other arguments; the value, the object's fields then -/
abbrev KM := List (D × D) → List D → (D → List (D × D) → Prop) → Prop
def MonoKM (km : KM) : Prop := ∀ ks ds (Q Q' : D → List (D × D) → Prop), (∀ d k, Q d k → Q' d k) → km ks ds Q → km ks ds Q'
def spM (K : PySem.W.Frag) (c : Str) (fks : List (Str × Fk)) (ms : List Md) (km : KM) : Sp := fun vs H Q _ => ∃ g F a dx fs ks vr ds, vs = .ref a :: vr ∧ ObAt K F H g (unown H a dx (ownA fks fs)) c fks a dx fs ks ∧ Bs g F H ∧ ArgsOk K g F H ms ds vr ∧
  km ks ds fun d ks' => ∀ F' H' v dx' fs', Stp g F (unown H a dx (ownA fks fs)) F' H' → ObAt K F' H' g (unown H a dx (ownA fks fs)) c fks a dx' fs' ks' → Rp K F' d v → Q v H'
/-- how a method begins: its object in slot 0, ours for the while -/
theorem SR.beginM {K : PySem.W.Frag} {M ms : List Md} {N : List Str} {g : Rg} {F H : Hp} {c : Str} {fks : List (Str × Fk)} {a dx : Addr} {fs : List (Str × V)} {ks : List (D × D)} {ds : List D} {vr : List V}
    (bs : Bs g F H) (ob : ObAt K F H g (unown H a dx (ownA fks fs)) c fks a dx fs ks) (ar : ArgsOk K g F H ms ds vr) (hM : M.take (ms.length + 1) = .ob c fks :: ms) (hp : ms.all (fun m => m == .val || m == .dk) = true) (hn : ms.length + 1 ≤ N.length) (hso : soloM M = true) :
    SR K ⟨g, F, unown H a dx (ownA fks fs), F⟩ M g F H (L2.start N (.ref a :: vr)) (startD N.length (.dict ((.none, .int ((a : Nat) : Int)) :: ks) :: ds)) := by
  obtain ⟨l1, l2, f⟩ := ar.at
  have hmd : ∀ i m, (.ob c fks :: ms)[i]? = some m → md M i = m := fun i m h => by
    unfold md
    rw [List.getD_eq_getElem?_getD]
    have : M[i]? = some m := by
      rw [← hM, List.getElem?_take] at h
      split at h
      · exact h
      · cases h
    rw [this]; rfl
  have m0 : md M 0 = .ob c fks := hmd 0 _ rfl
  have le0 : Le (unown H a dx (ownA fks fs)) H := unown_le
  refine ⟨bs, ⟨.refl _, bs.sub, fun _ _ h => .inl h, fun b o h _ => le0 b o h, bs.ok⟩, .inl rfl, by unfold L2.start startD; simp [l1], fun i d h => ?_, fun i j v w p hij h1 h2 h3 h4 h5 h6 => ?_, .refl _, solo_of hso⟩
  · have hd := gt_start h
    cases i with
    | zero =>
      cases hd
      obtain ⟨C, h3, h4, h5, h6, h8, h7, h9, h10⟩ := ob
      refine ⟨.ref a, by unfold L2.start; simp, ?_⟩
      rw [m0]
      exact ⟨a, dx, C, fs, ks, rfl, rfl, h3, h4, h5, h6, h7, h8, h9, h10⟩
    | succ i =>
      have hd : ds[i]? = some d := hd
      obtain ⟨v, m, h1, h2, h3⟩ := f i d hd
      refine ⟨v, ?_, ?_⟩
      · unfold L2.start
        rw [List.getElem?_append_left (by rw [List.length_map, List.length_cons]; have := (List.getElem?_eq_some_iff.mp h1).1; omega), List.getElem?_map, List.getElem?_cons_succ, h1]
        rfl
      · rw [hmd (i + 1) m (by rw [List.getElem?_cons_succ]; exact h2)]
        have hm := List.all_eq_true.mp hp m (List.mem_of_getElem? h2)
        rw [Bool.or_eq_true, beq_iff_eq, beq_iff_eq] at hm
        rcases hm with rfl | rfl
        · exact h3
        · exact h3
  · have small : ∀ i v, gt (startD N.length (PyData.dict ((.none, .int ((a : Nat) : Int)) :: ks) :: ds)) i ≠ none → foot H (md M i) v p → i = 0 := fun i v hi hf => by
      cases q : gt (startD N.length (PyData.dict ((.none, .int ((a : Nat) : Int)) :: ks) :: ds)) i with
      | none => exact absurd q hi
      | some d =>
        have hd := gt_start q
        cases i with
        | zero => rfl
        | succ i =>
          exfalso
          have hd : ds[i]? = some d := hd
          obtain ⟨v, m, h1, h2, h3⟩ := f i d hd
          rw [hmd (i + 1) m (by rw [List.getElem?_cons_succ]; exact h2)] at hf
          have hm := List.all_eq_true.mp hp m (List.mem_of_getElem? h2)
          rw [Bool.or_eq_true, beq_iff_eq, beq_iff_eq] at hm
          rcases hm with rfl | rfl
          · exact hf
          · exact hf
    exact hij ((small i v h1 h5).trans (small j w h2 h6).symm)
theorem FldOk.re {K : PySem.W.Frag} {g g' : Rg} {F H eH : Hp} (m : ∀ b, ¬ g.mem b → ¬ g'.mem b) : ∀ {k : Fk} {d : D} {v : V}, FldOk K F H g eH k d v → FldOk K F H g' eH k d v
  | .val, _, _, h => h
  | .own, _, _, ⟨p, vs, ds, h1, h2, h3, h4, h5, h6, h7⟩ => ⟨p, vs, ds, h1, h2, h3, h4, h5, h6, m _ h7⟩
  | .od, _, _, ⟨p, vs, ds, h1, h2, h3, h4, h5, h6, h7⟩ => ⟨p, vs, ds, h1, h2, h3, h4, h5, h6, m _ h7⟩
theorem FldsOk.re {K : PySem.W.Frag} {g g' : Rg} {F H eH : Hp} (m : ∀ b, ¬ g.mem b → ¬ g'.mem b) : ∀ {fks : List (Str × Fk)} {fs : List (Str × V)} {ks : List (D × D)}, FldsOk K F H g eH fks fs ks → FldsOk K F H g' eH fks fs ks
  | [], _, _, h => h
  | _ :: _, _, _, ⟨x, d, fr, kr, h1, h2, h3, h4⟩ => ⟨x, d, fr, kr, h1, h2, h3.re m, FldsOk.re m h4⟩
section
variable {P : Program} {w : World} {K : PySem.W.Frag} {mg : Str → Option Value} {base : Heap}
/-- what stands in slot 0 as a method ends -/
theorem SR.endM {e : Ent} {M : List Md} {g : Rg} {F H : Hp} {σ : L2.St} {ρ : En} {c : Str} {fks : List (Str × Fk)} {a : Addr} {ks : List (D × D)} (s : SR K e M g F H σ ρ) (m0 : md M 0 = .ob c fks) (h : gt ρ 0 = some (.dict ((.none, .int ((a : Nat) : Int)) :: ks))) :
    ∃ dx fs, ObAt K F H e.g e.H c fks a dx fs ks := by
  obtain ⟨v, h1, h2⟩ := s.slot 0 _ h
  rw [m0] at h2
  obtain ⟨a', dx, C, fs, ks2, e1, e2, h3, h4, h5, h6, h7, h8, h9, h10⟩ := h2
  have e3 : ((.none, .int ((a : Nat) : Int)) : D × D) :: ks = (.none, .int ((a' : Nat) : Int)) :: ks2 := PyData.dict.inj e2
  obtain ⟨e4, rfl⟩ := List.cons.inj e3
  have e5 : ((a : Nat) : Int) = ((a' : Nat) : Int) := PyData.int.inj (Prod.mk.inj e4).2
  obtain rfl : a = a' := Int.ofNat.inj e5
  have m : ∀ b, ¬ g.mem b → ¬ e.g.mem b := fun b hb => by
    rcases s.grel with q | ⟨q, _⟩
    · rw [← q]; exact hb
    · rw [q]; exact fun z => z
  exact ⟨dx, fs, C, h3, h4, h5.re m, h6, ⟨m _ h8.1, m _ h8.2⟩, h7, h9, h10⟩
theorem fnM {x qual : Str} {st : Stmt} {f : Addr} {fd : FuncData} {N ps : List Str} {M ms : List Md} {c : Str} {fks : List (Str × Fk)} {k : Nat} {km : KM} {t : DTS} (F : Fun K x qual st f fd) (S : FnScope N ps (defScope st)) (hM : M.take (ms.length + 1) = .ob c fks :: ms)
    (hp : ms.all (fun m => m == .val || m == .dk) = true) (hms : ms.length + 1 = ps.length) (hn : ps.length ≤ N.length) (hso : soloM M = true)
    (bd : ∀ (cdv : Value) (A : Around) (outer : List Env) (s : Shared) (H : Hp) (E : XK) (e : Ent), Room k (A.deeper (envOfC qual (defScope st) s.heap.objs.size f cdv)) → (A.deeper (envOfC qual (defScope st) s.heap.objs.size f cdv)).guards = some [] →
      DSs (cxOf CX0 P w K mg base N qual (defScope st) f cdv A outer s H E).nox e M (defBody st) t)
    (sp : ∀ (a : Addr) ks ds (Q : D → List (D × D) → Prop), km ks ds Q → t { nx := fun ρ => ∃ ks', gt ρ 0 = some (.dict ((.none, .int ((a : Nat) : Int)) :: ks')) ∧ Q .none ks', rt := fun _ => False, rs := fun d ρ => ∃ ks', gt ρ 0 = some (.dict ((.none, .int ((a : Nat) : Int)) :: ks')) ∧ Q d ks' }
      (startD N.length (.dict ((.none, .int ((a : Nat) : Int)) :: ks) :: ds))) : FnG P w K mg base CX0 (k + 1) f fd ps (spM K c fks ms km) := by
  have m0 : md M 0 = .ob c fks := by
    have : M[0]? = some (.ob c fks) := by
      have h := congrArg (·[0]?) hM
      simp only [List.getElem?_cons_zero] at h
      rw [List.getElem?_take] at h
      split at h
      · exact h
      · cases h
    unfold md
    rw [List.getD_eq_getElem?_getD, this]; rfl
  refine fnG_of F S (fun vs H Q E ⟨g, F, a, dx, fs, ks, vr, ds, e, _, _, ar, _⟩ => ?_) fun cdv A outer s H vs Q E hr hg h => ?_
  · rw [e, List.length_cons, ar.len, hms]
  · obtain ⟨g, F0, a, dx, fs, ks, vr, ds, rfl, ob, bs, ar, q⟩ := h
    have D := bd cdv A outer s H E ⟨g, F0, unown H a dx (ownA fks fs), F0⟩ hr hg
    refine ⟨_, D.ps.nox, g, F0, _, _, SR.beginM bs ob ar hM hp (by omega) hso, sp a ks ds _ q, ?_⟩
    refine ⟨fun g' F' H' σ' ρ' s' ⟨ks', hk, q'⟩ => ?_, fun _ _ _ _ _ _ z => z.elim, fun _ _ _ _ _ _ z => z.elim, fun _ _ _ _ _ _ z => z.elim, fun g' F' H' σ' ρ' x v s' r ⟨ks', hk, q'⟩ => ?_⟩
    · obtain ⟨dx', fs', o⟩ := s'.endM m0 hk
      exact q' F' H' .non dx' fs' s'.stp o rfl
    · obtain ⟨dx', fs', o⟩ := s'.endM m0 hk
      exact q' F' H' v dx' fs' s'.stp o r
end
end PP

set_option Elab.async false
set_option linter.all false
set_option maxRecDepth 100000
set_option maxHeartbeats 4000000
namespace PP
open PySem PySem.Spec PyProof.Rows L2
/-! ### an object of ours changes -/
section
variable {K : PySem.W.Frag} {e : Ent} {M : List Md} {g : Rg} {F H : Hp} {σ : L2.St} {ρ : En}
theorem SR.obj {F' H' : Hp} (s : SR K e M g F H σ ρ) (t : Stp g F H F' H') {i : Nat} {d' : D} {H2 : Hp} {v : V} (hi : gt ρ i ≠ none) (hσ : σ[i]? = some (some v))
    (ag : ∀ b o, H' b = some o → ¬ foot H (md M i) v b → H2 b = some o) (ok : SlotOk K e g F' H2 (md M i) d' v) (hb : ∀ q, foot H2 (md M i) v q → foot H (md M i) v q ∨ H q = none) : SR K e M g F' H2 σ (sv ρ i (some d')) := by
  obtain ⟨d0, e0, k0⟩ := s.slotAt hi hσ
  have s' := s.step t
  have fa := fun {p} (h : foot H (md M i) v p) => k0.footAt h
  have fF : ∀ {p}, foot H (md M i) v p → F' p = none := fun {p} h => by
    obtain ⟨⟨o, ho⟩, f, _, _⟩ := fa h
    exact t.no ho f
  have nm : ∀ b, g.mem b → ¬ foot H (md M i) v b := fun b hb hf => (fa hf).2.2.2 hb
  have hok : g.ok H2 := g.loc _ _ (fun b hb => by
    cases q : H' b with
    | none => exact absurd q (g.dom _ s'.bs.ok b hb)
    | some o => exact ag b o q (nm b hb)) s'.bs.ok
  have sub : Le F' H2 := fun b o h => ag b o (s'.bs.sub b o h) fun hf => by rw [fF hf] at h; cases h
  have off : ∀ j u q, j ≠ i → gt ρ j ≠ none → σ[j]? = some (some u) → foot H (md M j) u q → ¬ foot H (md M i) v q := fun j u q hj gj hu hf z => s.dis j i u v q hj gj hi hu hσ hf z
  have bk0 : ∀ j u q, gt ρ j ≠ none → σ[j]? = some (some u) → foot H' (md M j) u q → foot H (md M j) u q := fun j u q gj hu hf => by
    obtain ⟨d1, _, k1⟩ := s.slotAt gj hu
    exact k1.footBack (fun a o' _ ha _ hm _ _ => t.keep a o' ha hm) hf
  have bk : ∀ j u q, j ≠ i → gt ρ j ≠ none → σ[j]? = some (some u) → foot H2 (md M j) u q → foot H (md M j) u q := fun j u q hj gj hu hf => by
    obtain ⟨d1, _, k1⟩ := s'.slotAt gj hu
    exact bk0 j u q gj hu (k1.footBack (fun a o' _ ha _ _ _ fa => ag a o' ha (off j u a hj gj hu (bk0 j u a gj hu fa))) hf)
  refine ⟨⟨sub, hok, s'.bs.out⟩, ⟨s'.stp.mono, sub, s'.stp.new, fun b o h m => ag b o (s'.stp.keep b o h m) (fun hf => by rw [(fa hf).2.2.1] at h; cases h), ?_⟩, s.grel, by rw [sv_len]; exact s.len, fun j d h => ?_, fun j k u w q hjk h1 h2 h3 h4 h5 h6 => ?_, s'.low, s.solo⟩
  · rcases s.grel with q | ⟨q, _⟩
    · rw [← q]; exact hok
    · rw [q]; trivial
  · rw [gt_sv] at h
    by_cases ej : j = i
    · subst ej
      rw [if_pos rfl] at h
      split at h
      · cases h; exact ⟨v, hσ, ok⟩
      · cases h
    · rw [if_neg ej] at h
      obtain ⟨u, h1, h2⟩ := s'.slot j d h
      have gj : gt ρ j ≠ none := by rw [h]; simp
      exact ⟨u, h1, h2.off fun q o fq hq => ag q o hq (off j u q ej gj h1 (bk0 j u q gj h1 fq))⟩
  · have g1 : gt ρ j ≠ none := by
      rw [gt_sv] at h1
      split at h1
      · rename_i z; rw [z]; exact hi
      · exact h1
    have g2 : gt ρ k ≠ none := by
      rw [gt_sv] at h2
      split at h2
      · rename_i z; rw [z]; exact hi
      · exact h2
    have c : ∀ a u, gt ρ a ≠ none → σ[a]? = some (some u) → foot H2 (md M a) u q → foot H (md M a) u q ∨ (a = i ∧ H q = none) := fun a u ga ha hf => by
      by_cases ea : a = i
      · subst ea
        rw [hσ] at ha
        cases ha
        rcases hb q hf with z | z
        · exact .inl z
        · exact .inr ⟨rfl, z⟩
      · exact .inl (bk a u q ea ga ha hf)
    have there : ∀ a u, gt ρ a ≠ none → σ[a]? = some (some u) → foot H (md M a) u q → H q ≠ none := fun a u ga ha hf => by
      obtain ⟨d1, _, k1⟩ := s.slotAt ga ha
      obtain ⟨⟨o, ho⟩, _⟩ := k1.footAt hf
      rw [ho]; simp
    rcases c j u g1 h3 h5 with z1 | ⟨e1, n1⟩
    · rcases c k w g2 h4 h6 with z2 | ⟨e2, n2⟩
      · exact s.dis j k u w q hjk g1 g2 h3 h4 z1 z2
      · exact there j u g1 h3 z1 n2
    · rcases c k w g2 h4 h6 with z2 | ⟨e2, n2⟩
      · exact there k w g2 h4 z2 n1
      · exact hjk (e1.trans e2.symm)
end
def dset (f : Str) (d : D) : List (D × D) → List (D × D)
  | [] => []
  | (k, x) :: r => match k with
    | .str g => if g = f then (.str g, d) :: r else (.str g, x) :: dset f d r
    | _ => (k, x) :: dset f d r
def fkind (f : Str) : List (Str × Fk) → Option Fk
  | [] => none
  | (g, k) :: r => if g = f then some k else fkind f r
section
variable {K : PySem.W.Frag} {g : Rg} {F H H2 : Hp} {eH : Hp}
/-- fields stay where their lists stay -/
theorem FldOk.stay (h : ∀ p vs, H p = some (.lst vs) → H2 p = some (.lst vs)) (h' : ∀ p vs, H p = some (.dK vs) → H2 p = some (.dK vs)) : ∀ {k : Fk} {d : D} {v : V}, FldOk K F H g eH k d v → FldOk K F H2 g eH k d v
  | .val, _, _, q => q
  | .own, _, _, ⟨p, vs, ds, h1, h2, h3, h4, h5, h6, h7⟩ => ⟨p, vs, ds, h1, h2, h _ _ h3, h4, h5, h6, h7⟩
  | .od, _, _, ⟨p, vs, ds, h1, h2, h3, h4, h5, h6, h7⟩ => ⟨p, vs, ds, h1, h2, h' _ _ h3, h4, h5, h6, h7⟩
theorem FldsOk.stay (h : ∀ p vs, H p = some (.lst vs) → H2 p = some (.lst vs)) (h' : ∀ p vs, H p = some (.dK vs) → H2 p = some (.dK vs)) : ∀ {fks : List (Str × Fk)} {fs : List (Str × V)} {ks : List (D × D)}, FldsOk K F H g eH fks fs ks → FldsOk K F H2 g eH fks fs ks
  | [], _, _, q => q
  | _ :: _, _, _, ⟨x, d, fr, kr, h1, h2, h3, h4⟩ => ⟨x, d, fr, kr, h1, h2, h3.stay h h', FldsOk.stay h h' h4⟩
theorem FldsOk.put {f : Str} {k : Fk} {d : D} {v : V} (ok : FldOk K F H g eH k d v) : ∀ {fks : List (Str × Fk)} {fs : List (Str × V)} {ks : List (D × D)}, fkind f fks = some k → FldsOk K F H g eH fks fs ks → FldsOk K F H g eH fks (putF f v fs) (dset f d ks)
  | [], _, _, e, _ => by cases e
  | (y, k2) :: r, fs, ks, e, h => by
    obtain ⟨x, d2, fr, kr, rfl, rfl, h3, h4⟩ := h
    have e : (if y = f then some k2 else fkind f r) = some k := e
    by_cases c : y = f
    · rw [if_pos c] at e
      cases e
      refine ⟨v, d, fr, kr, ?_, ?_, ok, h4⟩
      · show (if y = f then (y, v) :: fr else (y, x) :: putF f v fr) = _
        rw [if_pos c]
      · show (if y = f then (.str y, d) :: kr else (.str y, d2) :: dset f d kr) = _
        rw [if_pos c]
    · rw [if_neg c] at e
      refine ⟨x, d2, putF f v fr, dset f d kr, ?_, ?_, h3, FldsOk.put ok e h4⟩
      · show (if y = f then (y, v) :: fr else (y, x) :: putF f v fr) = _
        rw [if_neg c]
      · show (if y = f then (.str y, d) :: kr else (.str y, d2) :: dset f d kr) = _
        rw [if_neg c]
theorem FldsOk.len : ∀ {fks : List (Str × Fk)} {fs : List (Str × V)} {ks : List (D × D)}, FldsOk K F H g eH fks fs ks → fs.length = fks.length
  | [], _, _, h => by rw [h.1]; rfl
  | _ :: _, _, _, ⟨x, d, fr, kr, h1, h2, h3, h4⟩ => by rw [h1, List.length_cons, List.length_cons, FldsOk.len h4]
/-- what is ours of the fields is there -/
theorem FldsOk.ours : ∀ {fks : List (Str × Fk)} {fs : List (Str × V)} {ks : List (D × D)}, FldsOk K F H g eH fks fs ks → ∀ p ∈ ownA fks fs, (∃ vs, H p = some (.lst vs)) ∨ ∃ ps, H p = some (.dK ps)
  | [], fs, _, h, p, hp => by
    obtain ⟨rfl, _⟩ := h
    cases hp
  | (y, k) :: r, fs, ks, h, p, hp => by
    obtain ⟨x, d2, fr, kr, rfl, rfl, h3, h4⟩ := h
    rw [ownA_cons] at hp
    rcases List.mem_append.mp hp with hp | hp
    · cases k with
      | val => cases hp
      | own =>
        obtain ⟨q, vs, ds, rfl, _, h5, _⟩ := h3
        rw [List.mem_singleton.mp hp]
        exact .inl ⟨vs, h5⟩
      | od =>
        obtain ⟨q, vs, ds, rfl, _, h5, _⟩ := h3
        rw [List.mem_singleton.mp hp]
        exact .inr ⟨vs, h5⟩
    · exact FldsOk.ours h4 p hp
/-- a new list in a field of ours -/
theorem ownA_put {f : Str} {q : Addr} : ∀ {fks : List (Str × Fk)} {fs : List (Str × V)}, q ∉ ownA fks fs → (ownA fks fs).Nodup → (ownA fks (putF f (.ref q) fs)).Nodup ∧ ∀ p ∈ ownA fks (putF f (.ref q) fs), p = q ∨ p ∈ ownA fks fs
  | [], fs, _, _ => by
    have e : ∀ l, ownA [] l = [] := fun l => by cases l <;> rfl
    rw [e]
    exact ⟨List.nodup_nil, fun p h => by cases h⟩
  | (y, k) :: r, [], hq, hn => by
    have e : ownA r ([] : List (Str × V)) = [] := by cases r <;> rfl
    show (ownA ((y, k) :: r) [(f, V.ref q)]).Nodup ∧ _
    have e2 : ownA ((y, k) :: r) [(f, V.ref q)] = own1 k (V.ref q) ++ ownA r [] := ownA_cons _ _ _ _ _ _
    show (ownA ((y, k) :: r) [(f, V.ref q)]).Nodup ∧ ∀ p ∈ ownA ((y, k) :: r) [(f, V.ref q)], p = q ∨ p ∈ ownA ((y, k) :: r) []
    rw [e2, e]
    cases k <;> simp [own1]
  | (y, k) :: r, (z, x) :: fr, hq, hn => by
    have e1 : ∀ x', ownA ((y, k) :: r) ((z, x') :: fr) = own1 k x' ++ ownA r fr := fun _ => ownA_cons _ _ _ _ _ _
    rw [e1] at hq hn
    have q2 : q ∉ ownA r fr := fun h => hq (List.mem_append_right _ h)
    have n2 : (ownA r fr).Nodup := (List.nodup_append.mp hn).2.1
    by_cases c : z = f
    · have e : putF f (V.ref q) ((z, x) :: fr) = (z, .ref q) :: fr := by
        show (if z = f then (z, V.ref q) :: fr else _) = _
        rw [if_pos c]
      rw [e, e1, e1]
      cases k with
      | val => exact ⟨by simpa [own1] using n2, fun p h => .inr (by simpa [own1] using h)⟩
      | own =>
        refine ⟨List.nodup_append.mpr ⟨by simp [own1], n2, fun a ha b hb z => ?_⟩, fun p h => ?_⟩
        · rw [List.mem_singleton.mp ha] at z; exact q2 (z ▸ hb)
        · rcases List.mem_append.mp h with h | h
          · exact .inl (List.mem_singleton.mp h)
          · exact .inr (List.mem_append_right _ h)
      | od =>
        refine ⟨List.nodup_append.mpr ⟨by simp [own1], n2, fun a ha b hb z => ?_⟩, fun p h => ?_⟩
        · rw [List.mem_singleton.mp ha] at z; exact q2 (z ▸ hb)
        · rcases List.mem_append.mp h with h | h
          · exact .inl (List.mem_singleton.mp h)
          · exact .inr (List.mem_append_right _ h)
    · have e : putF f (V.ref q) ((z, x) :: fr) = (z, x) :: putF f (.ref q) fr := by
        show (if z = f then (z, V.ref q) :: fr else _) = _
        rw [if_neg c]
      obtain ⟨i1, i2⟩ := ownA_put (f := f) q2 n2
      have e3 : ownA ((y, k) :: r) ((z, x) :: putF f (.ref q) fr) = own1 k x ++ ownA r (putF f (.ref q) fr) := ownA_cons _ _ _ _ _ _
      rw [e, e3, e1]
      refine ⟨List.nodup_append.mpr ⟨(List.nodup_append.mp hn).1, i1, fun a ha b hb z => ?_⟩, fun p h => ?_⟩
      · rcases i2 b hb with w | w
        · exact hq (List.mem_append_left _ (w ▸ z ▸ ha))
        · exact (List.nodup_append.mp hn).2.2 a ha b w z
      · rcases List.mem_append.mp h with h | h
        · exact .inr (List.mem_append_left _ h)
        · rcases i2 p h with w | w
          · exact .inl w
          · exact .inr (List.mem_append_right _ w)
end
/-! ### x.f = e -/
section
variable {X : Cx} {e : Ent} {M : List Md} {a : Expr} {tF : DA} {ta : DT} {pos p1 p2 : Pos}
def tFset (i : Nat) (f : Str) (t : DT) : DTS := fun d ρ => t ρ fun x => match gt ρ i with
  | some (.dict (hd :: ks)) => d.nx (sv ρ i (some (.dict (hd :: dset f x ks))))
  | _ => False
theorem tFset_mono {i : Nat} {f : Str} {t : DT} (h : Mono t) : MonoS (tFset i f t) := fun d d' ρ k q => h ρ _ _ (fun x q => by
  split at q
  · exact k.nx _ q
  · exact q.elim) q
/-- a new list of ours into a field -/
theorem ds_fldSet (i : Nat) {y f : Str} {c : Str} {fks : List (Str × Fk)} (cf : ClsF X.K c (fks.map (·.1))) (ha : FE X e M a tF) (hf : f ∈ fks.map (·.1) := by decide) (hk : fkind f fks = some .own := by rfl) (hl : fks.length < 1000 := by decide) (hN : X.N[i]? = some y := by rfl)
    (hv : Vis X.env.scope y := by first | exact Or.inl rfl | exact Or.inr (Or.inl rfl) | exact Or.inr (Or.inr rfl)) (hm : md M i = .ob c fks := by rfl) (hd : (y == ("__debug__" : Str)) = false := by decide) (hcd : (y == ("__classdict__" : Str)) = false := by decide)
    (hs : swapsWith a (some (.Attribute (.Name y p1) f p2)) pos.line X.env = pure false := by rfl) : DS X e M (.Assign [.Attribute (.Name y p1) f p2] a pos) (tFset i f (tFz tF)) :=
  ⟨ps_imp (ps_fld (pe_var hN hv hd hcd) ha.pe hs) fun E σ H ⟨g, F, ρ, d, s, q, h⟩ => ⟨g, F, ρ, s, ha.mono ρ _ _ (fun xs hx F' H' p vs t hp hfp hh r => by
    have hx : (match gt ρ i with
      | some (.dict (hd :: ks)) => d.nx (sv ρ i (some (.dict (hd :: dset f (.list xs) ks))))
      | _ => False) := hx
    split at hx
    · rename_i hd0 ks hk2
      obtain ⟨v, h1, h2⟩ := s.slot i _ hk2
      rw [hm] at h2
      obtain ⟨b, dx, C, fs, ks2, e1, e2, h3, h4, h5, h6, h7, h8, h9, h10⟩ := h2
      subst e1
      obtain ⟨rfl, rfl⟩ := List.cons.inj (PyData.dict.inj e2)
      have s' := s.step t
      have h3' := t.keep _ _ h3 h8.1
      have h4' := t.keep _ _ h4 h8.2
      have n1 := t.no h3 h6.1
      have n2 := t.no h4 h6.2
      have pb : p ≠ b := fun z => by rw [z, h3] at hp; cases hp
      have db : dx ≠ b := fun z => by rw [z, h3] at h4; cases h4
      have pn : p ∉ ownA fks fs := fun z => by
        rcases h5.ours p z with ⟨_, w⟩ | ⟨_, w⟩ <;> rw [hp] at w <;> cases w
      have gi : gt ρ i ≠ none := by rw [hk2]; simp
      refine ⟨_, h1, b, C, dx, fs, rfl, h3', cf.cl C h10, cf.na C f h10 hf, by rw [h5.len]; exact hl, h.nx g F' _ σ _ (s.obj t gi h1 (fun x o hx hn => ?_) ?_ fun q hq => ?_) hx⟩
      · have : x ≠ b := fun z => hn (by rw [hm]; exact ⟨b, rfl, .inl z⟩)
        rw [upd_ne this]; exact hx
      · rw [hm]
        have st : ∀ x vs, H' x = some (.lst vs) → (upd H' b (.ins C dx (putF f (.ref p) fs))) x = some (.lst vs) := fun x vs hx => by
          rw [upd_ne fun z => by rw [z, h3'] at hx; cases hx]; exact hx
        have st2 : ∀ x vs, H' x = some (.dK vs) → (upd H' b (.ins C dx (putF f (.ref p) fs))) x = some (.dK vs) := fun x vs hx => by
          rw [upd_ne fun z => by rw [z, h3'] at hx; cases hx]; exact hx
        have okp : FldOk X.K F' (upd H' b (.ins C dx (putF f (.ref p) fs))) g e.H .own (.list xs) (.ref p) := ⟨p, vs, xs, rfl, rfl, st _ _ hh, r, hfp, s.old hp, s.nmem hp⟩
        exact ⟨b, dx, C, putF f (.ref p) fs, dset f (.list xs) ks, rfl, rfl, upd_same, by rw [upd_ne db]; exact h4', FldsOk.put okp hk ((h5.step t).stay st st2), ⟨n1, n2⟩, h7, h8, (ownA_put pn h9).1, h10⟩
      · rw [hm] at hq ⊢
        obtain ⟨b', eb, hq⟩ := hq
        cases eb
        rcases hq with hq | ⟨C', dx', fs', hv, hq⟩
        · exact .inl ⟨b, rfl, .inl hq⟩
        · rw [upd_same] at hv
          cases hv
          rcases hq with hq | hq
          · exact .inl ⟨b, rfl, .inr ⟨_, _, _, h3, .inl hq⟩⟩
          · rcases (ownA_put pn h9).2 q hq with hq | hq
            · rw [hq]; exact .inr hp
            · exact .inl ⟨b, rfl, .inr ⟨_, _, _, h3, .inr hq⟩⟩
    · exact hx.elim) q⟩, tFset_mono (fun ρ Q Q' f q => ha.mono ρ _ _ (fun _ q => f _ q) q)⟩
end
end PP

set_option Elab.async false
set_option linter.all false
set_option maxRecDepth 100000
set_option maxHeartbeats 4000000
namespace PP
open PySem PySem.Spec PyProof.Rows L2
/-! ### a list in a field changes -/
section
variable {K : PySem.W.Frag} {g : Rg} {F H H2 : Hp} {eH : Hp}
theorem FldOk.stayN {p : Addr} (h : ∀ q vs, q ≠ p → H q = some (.lst vs) → H2 q = some (.lst vs)) (h' : ∀ q vs, q ≠ p → H q = some (.dK vs) → H2 q = some (.dK vs)) : ∀ {k : Fk} {d : D} {v : V}, p ∉ own1 k v → FldOk K F H g eH k d v → FldOk K F H2 g eH k d v
  | .val, _, _, _, q => q
  | .own, _, _, n, ⟨q, vs, ds, h1, h2, h3, h4, h5, h6, h7⟩ => ⟨q, vs, ds, h1, h2, h _ _ (fun z => n (by subst h1; subst z; simp [own1])) h3, h4, h5, h6, h7⟩
  | .od, _, _, n, ⟨q, vs, ds, h1, h2, h3, h4, h5, h6, h7⟩ => ⟨q, vs, ds, h1, h2, h' _ _ (fun z => n (by subst h1; subst z; simp [own1])) h3, h4, h5, h6, h7⟩
theorem FldsOk.stayN {p : Addr} (h : ∀ q vs, q ≠ p → H q = some (.lst vs) → H2 q = some (.lst vs)) (h' : ∀ q vs, q ≠ p → H q = some (.dK vs) → H2 q = some (.dK vs)) : ∀ {fks : List (Str × Fk)} {fs : List (Str × V)} {ks : List (D × D)}, p ∉ ownA fks fs → FldsOk K F H g eH fks fs ks → FldsOk K F H2 g eH fks fs ks
  | [], _, _, _, q => q
  | (y, k) :: r, _, _, n, ⟨x, d, fr, kr, h1, h2, h3, h4⟩ => by
    subst h1
    rw [ownA_cons] at n
    exact ⟨x, d, fr, kr, rfl, h2, h3.stayN h h' (fun z => n (List.mem_append_left _ z)), FldsOk.stayN h h' (fun z => n (List.mem_append_right _ z)) h4⟩
theorem look_ne {f y : Str} {x : V} {fr : List (Str × V)} (h : ¬ y = f) : List.lookup f ((y, x) :: fr) = fr.lookup f := by
  have : (f == y) = false := by simpa using fun z : f = y => h z.symm
  simp only [List.lookup, this]
theorem look_eq {f : Str} {x : V} {fr : List (Str × V)} : List.lookup f ((f, x) :: fr) = some x := by simp [List.lookup]
theorem FldsOk.at {f : Str} {k : Fk} : ∀ {fks : List (Str × Fk)} {fs : List (Str × V)} {ks : List (D × D)}, fkind f fks = some k → FldsOk K F H g eH fks fs ks → ∃ x d, fs.lookup f = some x ∧ dlook f ks = some d ∧ FldOk K F H g eH k d x ∧ ∀ p ∈ own1 k x, p ∈ ownA fks fs
  | [], _, _, e, _ => by cases e
  | (y, k2) :: r, fs, ks, e, h => by
    obtain ⟨x, d, fr, kr, rfl, rfl, h3, h4⟩ := h
    have e : (if y = f then some k2 else fkind f r) = some k := e
    by_cases c : y = f
    · rw [if_pos c] at e
      cases e
      subst c
      refine ⟨x, d, look_eq, ?_, h3, fun p hp => by rw [ownA_cons]; exact List.mem_append_left _ hp⟩
      show (if y = y then some d else dlook y kr) = some d
      rw [if_pos rfl]
    · rw [if_neg c] at e
      obtain ⟨x2, d2, q1, q2, q3, q4⟩ := FldsOk.at e h4
      refine ⟨x2, d2, by rw [look_ne c]; exact q1, ?_, q3, fun p hp => by rw [ownA_cons]; exact List.mem_append_right _ (q4 p hp)⟩
      show (if f = y then some d else dlook f kr) = some d2
      rw [if_neg (fun z => c z.symm)]
      exact q2
theorem FldsOk.poke {f : Str} {p : Addr} {d' : D} (h : ∀ q vs, q ≠ p → H q = some (.lst vs) → H2 q = some (.lst vs)) (h' : ∀ q vs, q ≠ p → H q = some (.dK vs) → H2 q = some (.dK vs)) (new : FldOk K F H2 g eH .own d' (.ref p)) :
    ∀ {fks : List (Str × Fk)} {fs : List (Str × V)} {ks : List (D × D)}, fkind f fks = some .own → fs.lookup f = some (.ref p) → (ownA fks fs).Nodup → FldsOk K F H g eH fks fs ks → FldsOk K F H2 g eH fks fs (dset f d' ks)
  | [], _, _, e, _, _, _ => by cases e
  | (y, k2) :: r, fs, ks, e, l, n, q => by
    obtain ⟨x, d, fr, kr, rfl, rfl, h3, h4⟩ := q
    have e : (if y = f then some k2 else fkind f r) = some .own := e
    rw [ownA_cons] at n
    by_cases c : y = f
    · rw [if_pos c] at e
      cases e
      subst c
      rw [look_eq] at l
      cases l
      refine ⟨.ref p, d', fr, kr, rfl, ?_, new, FldsOk.stayN h h' (fun z => ?_) h4⟩
      · show (if y = y then (.str y, d') :: kr else (.str y, d) :: dset y d' kr) = _
        rw [if_pos rfl]
      · exact (List.nodup_append.mp n).2.2 p (by simp [own1]) p z rfl
    · rw [if_neg c] at e
      rw [look_ne c] at l
      obtain ⟨x2, d2, q1, q2, q3, q4⟩ := FldsOk.at e h4
      rw [l] at q1
      cases q1
      have pin : p ∈ ownA r fr := q4 p (by simp [own1])
      refine ⟨x, d, fr, dset f d' kr, rfl, ?_, h3.stayN h h' (fun z => (List.nodup_append.mp n).2.2 p z p pin rfl), FldsOk.poke h h' new e l (List.nodup_append.mp n).2.1 h4⟩
      show (if y = f then (.str y, d') :: kr else (.str y, d) :: dset f d' kr) = _
      rw [if_neg c]
end
section
variable {X : Cx} {e : Ent} {M : List Md} {a : Expr} {ta : DT} {pos p1 p2 p3 spos : Pos}
/-- x.f.append(e), x.f.extend(e) -/
def tFapp (i : Nat) (f : Str) (up : List D → D → (List D → Prop) → Prop) (te : DT) : DTS := fun d ρ => match gt ρ i with
  | some (.dict (hd :: ks)) => (match dlook f ks with
    | some (.list xs) => te ρ fun y => up xs y fun zs => d.nx (sv ρ i (some (.dict (hd :: dset f (.list zs) ks))))
    | _ => False)
  | _ => False
theorem tFapp_mono {i : Nat} {f : Str} {up : List D → D → (List D → Prop) → Prop} (hu : ∀ xs y (Q Q' : List D → Prop), (∀ z, Q z → Q' z) → up xs y Q → up xs y Q') (h : Mono ta) : MonoS (tFapp i f up ta) := fun d d' ρ k q => by
  unfold tFapp at q ⊢
  split at q
  · split at q
    · exact h ρ _ _ (fun y q => hu _ _ _ _ (fun z q => k.nx _ q) q) q
    · exact q.elim
  · exact q.elim
def upApp : List D → D → (List D → Prop) → Prop := fun xs y Q => xs.length < sizeLine ∧ Q (xs ++ [y])
def upExt : List D → D → (List D → Prop) → Prop := fun xs y Q => match y with | .list ys => xs.length + ys.length ≤ sizeLine ∧ Q (xs ++ ys) | _ => False
/-- the list of a field of ours changes -/
theorem SR.pokeF {K : PySem.W.Frag} {g : Rg} {F H : Hp} {σ : L2.St} {ρ : En} (s : SR K e M g F H σ ρ) {i : Nat} {c : Str} {fks : List (Str × Fk)} {f : Str} {hd0 : D × D} {ks : List (D × D)} {xs : List D} (hm : md M i = .ob c fks) (hk : fkind f fks = some .own) (h : gt ρ i = some (.dict (hd0 :: ks))) (hl : dlook f ks = some (.list xs)) :
    ∃ b dx C fs p vs, σ[i]? = some (some (.ref b)) ∧ H b = some (.ins C dx fs) ∧ OneC K c C ∧ fs.lookup f = some (.ref p) ∧ H p = some (.lst vs) ∧ RpL K F xs vs ∧ F p = none ∧ ¬ g.mem p ∧
      ∀ (F' H' : Hp) (ws : List V) (zs : List D), Stp g F H F' H' → RpL K F' zs ws → SR K e M g F' (upd H' p (.lst ws)) σ (sv ρ i (some (.dict (hd0 :: dset f (.list zs) ks)))) := by
  obtain ⟨v, h1, h2⟩ := s.slot i _ h
  rw [hm] at h2
  obtain ⟨b, dx, C, fs, ks2, e1, e2, h3, h4, h5, h6, h7, h8, h9, h10⟩ := h2
  subst e1
  obtain ⟨rfl, rfl⟩ := List.cons.inj (PyData.dict.inj e2)
  obtain ⟨x, d, q1, q2, q3, q4⟩ := h5.at hk
  rw [hl] at q2
  cases q2
  obtain ⟨p, vs, ds, rfl, e3, k1, k2, k3, k4, k5⟩ := q3
  cases e3
  refine ⟨b, dx, C, fs, p, vs, h1, h3, h10, q1, k1, k2, k3, k5, fun F' H' ws zs t r => ?_⟩
  have s' := s.step t
  have pb : b ≠ p := fun z => by rw [z, k1] at h3; cases h3
  have pd : dx ≠ p := fun z => by rw [z, k1] at h4; cases h4
  have pF := t.no k1 k3
  have gi : gt ρ i ≠ none := by rw [h]; simp
  have pin : p ∈ ownA fks fs := q4 p (by simp [own1])
  have h3' := t.keep _ _ h3 h8.1
  refine s.obj t gi h1 (fun x o hx hn => ?_) ?_ fun q hq => ?_
  · have : x ≠ p := fun z => hn (by rw [hm]; exact ⟨b, rfl, .inr ⟨_, _, _, h3, .inr (by rw [z]; exact pin)⟩⟩)
    rw [upd_ne this]; exact hx
  · rw [hm]
    have st : ∀ q vs, q ≠ p → H' q = some (.lst vs) → (upd H' p (.lst ws)) q = some (.lst vs) := fun q vs n hx => by rw [upd_ne n]; exact hx
    have st2 : ∀ q vs, q ≠ p → H' q = some (.dK vs) → (upd H' p (.lst ws)) q = some (.dK vs) := fun q vs n hx => by rw [upd_ne n]; exact hx
    have new : FldOk K F' (upd H' p (.lst ws)) g e.H .own (.list zs) (.ref p) := ⟨p, ws, zs, rfl, rfl, upd_same, r, pF, k4, k5⟩
    exact ⟨b, dx, C, fs, dset f (.list zs) ks, rfl, rfl, by rw [upd_ne pb]; exact t.keep _ _ h3 h8.1, by rw [upd_ne pd]; exact t.keep _ _ h4 h8.2, FldsOk.poke st st2 new hk q1 h9 (h5.step t), ⟨t.no h3 h6.1, t.no h4 h6.2⟩, h7, h8, h9, h10⟩
  · rw [hm] at hq ⊢
    obtain ⟨b', eb, hq⟩ := hq
    cases eb
    refine .inl ⟨b, rfl, ?_⟩
    rcases hq with hq | ⟨C', dx', fs', hv, hq⟩
    · exact .inl hq
    · rw [upd_ne pb, h3'] at hv
      cases hv
      exact .inr ⟨_, _, _, h3, hq⟩
theorem ds_fldApp (i : Nat) {y f : Str} {c : Str} {fks : List (Str × Fk)} (cf : ClsF X.K c (fks.map (·.1))) (ha : DE X e M a ta) (hf : f ∈ fks.map (·.1) := by decide) (hk : fkind f fks = some .own := by rfl) (hN : X.N[i]? = some y := by rfl)
    (hv : Vis X.env.scope y := by first | exact Or.inl rfl | exact Or.inr (Or.inl rfl) | exact Or.inr (Or.inr rfl)) (hm : md M i = .ob c fks := by rfl) (hd : (y == ("__debug__" : Str)) = false := by decide) (hcd : (y == ("__classdict__" : Str)) = false := by decide)
    (hb : attributeBase (.Name y p1) f X.env (eval (.Name y p1) X.env) = eval (.Name y p1) X.env := by rfl)
    (h1 : starEach [a] X.env = (false, eval a X.env) :: starEach [] X.env := by rfl)
    (hE : ∀ {to : TE} {t : TA}, PE X (.Attribute (.Name y p1) f p2) to → PA X [a] t → PE X (.Call (.Attribute (.Attribute (.Name y p1) f p2) "append" p3) [a] [] pos) (tBM X.K "list" rAppend to t) := by
      intro to t h h'; exact pe_bm PySem.F.plainAttrs_list PySem.F.slot_list_append PySem.F.type_list_append mt_append h h')
    (hs : swapsWith (.Call (.Attribute (.Attribute (.Name y p1) f p2) "append" p3) [a] [] pos) none spos.line X.env = pure false := by rfl) : DS X e M (.Expr (.Call (.Attribute (.Attribute (.Name y p1) f p2) "append" p3) [a] [] pos) spos) (tFapp i f upApp ta) :=
  ⟨ps_imp (ps_expr (hE (pe_fld (pe_var hN hv hd hcd) hb) (pa_cons ha.pe pa_nil h1)) hs) fun E σ H ⟨g, F, ρ, d, s, q, h⟩ => by
    unfold tFapp at q
    split at q
    · rename_i hd0 ks hk0
      split at q
      · rename_i xs hx
        obtain ⟨b, dx, C, fs, p, vs, h1, h3, h10, q1, k1, k2, k3, k5, put⟩ := s.pokeF hm hk hk0 hx
        refine ⟨_, h1, b, C, dx, fs, .ref p, rfl, h3, cf.cl C h10, cf.na C f h10 hf, q1, .inl ⟨rfl, vs, .inl (.inl k1)⟩, g, F, ρ, s, ha.mono ρ _ _ (fun y ⟨hl, hn⟩ F' H' v t r => ?_) q⟩
        exact ⟨p, vs, v, rfl, rfl, t.keep _ _ k1 k5, by rw [k2.length]; exact hl, h.nx g F' _ σ _ (put F' H' (vs ++ [v]) (xs ++ [y]) t ((k2.mono t.mono).append (.cons r .nil))) hn⟩
      · exact q.elim
    · exact q.elim, tFapp_mono (fun _ _ _ _ f q => ⟨q.1, f _ q.2⟩) ha.mono⟩
theorem ds_fldExt (i : Nat) {y f : Str} {c : Str} {fks : List (Str × Fk)} (cf : ClsF X.K c (fks.map (·.1))) (ha : DE X e M a ta) (hf : f ∈ fks.map (·.1) := by decide) (hk : fkind f fks = some .own := by rfl) (hN : X.N[i]? = some y := by rfl)
    (hv : Vis X.env.scope y := by first | exact Or.inl rfl | exact Or.inr (Or.inl rfl) | exact Or.inr (Or.inr rfl)) (hm : md M i = .ob c fks := by rfl) (hd : (y == ("__debug__" : Str)) = false := by decide) (hcd : (y == ("__classdict__" : Str)) = false := by decide)
    (hb : attributeBase (.Name y p1) f X.env (eval (.Name y p1) X.env) = eval (.Name y p1) X.env := by rfl)
    (h1 : starEach [a] X.env = (false, eval a X.env) :: starEach [] X.env := by rfl)
    (hE : ∀ {to : TE} {t : TA}, PE X (.Attribute (.Name y p1) f p2) to → PA X [a] t → PE X (.Call (.Attribute (.Attribute (.Name y p1) f p2) "extend" p3) [a] [] pos) (tBM X.K "list" rExtend to t) := by
      intro to t h h'; exact pe_bm PySem.F.plainAttrs_list PySem.F.slot_list_extend PySem.F.type_list_extend mt_extend h h')
    (hs : swapsWith (.Call (.Attribute (.Attribute (.Name y p1) f p2) "extend" p3) [a] [] pos) none spos.line X.env = pure false := by rfl) : DS X e M (.Expr (.Call (.Attribute (.Attribute (.Name y p1) f p2) "extend" p3) [a] [] pos) spos) (tFapp i f upExt ta) :=
  ⟨ps_imp (ps_expr (hE (pe_fld (pe_var hN hv hd hcd) hb) (pa_cons ha.pe pa_nil h1)) hs) fun E σ H ⟨g, F, ρ, d, s, q, h⟩ => by
    unfold tFapp at q
    split at q
    · rename_i hd0 ks hk0
      split at q
      · rename_i xs hx
        obtain ⟨b, dx, C, fs, p, vs, h1, h3, h10, q1, k1, k2, k3, k5, put⟩ := s.pokeF hm hk hk0 hx
        refine ⟨_, h1, b, C, dx, fs, .ref p, rfl, h3, cf.cl C h10, cf.na C f h10 hf, q1, .inl ⟨rfl, vs, .inl (.inl k1)⟩, g, F, ρ, s, ha.mono ρ _ _ (fun y hy F' H' v t r => ?_) q⟩
        unfold upExt at hy
        split at hy
        · obtain ⟨b2, zs, rfl, hb2, rb⟩ := r
          exact ⟨p, b2, vs, zs, rfl, rfl, t.keep _ _ k1 k5, t.sub _ _ hb2, by rw [k2.length, rb.length]; exact hy.1, h.nx g F' _ σ _ (put F' H' (vs ++ zs) _ t ((k2.mono t.mono).append rb)) hy.2⟩
        · exact hy.elim
      · exact q.elim
    · exact q.elim, tFapp_mono (fun xs y Q Q' f q => by
      unfold upExt at q ⊢
      split at q
      · exact ⟨q.1, f _ q.2⟩
      · exact q.elim) ha.mono⟩
end
end PP

set_option Elab.async false
set_option linter.all false
set_option maxRecDepth 100000
set_option maxHeartbeats 4000000
namespace PP
open PySem PySem.Spec PyProof.Rows L2
/-! ### values that may change what stands -/
abbrev DTm := En → (D → En → Prop) → Prop
abbrev DBm := En → (Bool → En → Prop) → Prop
def MonoM {α : Type} (t : En → (α → En → Prop) → Prop) : Prop := ∀ ρ (Q Q' : α → En → Prop), (∀ d ρ', Q d ρ' → Q' d ρ') → t ρ Q → t ρ Q'
def rdEm (K : PySem.W.Frag) (e : Ent) (M : List Md) (t : DTm) : TE := fun σ H Q => ∃ g F ρ, SR K e M g F H σ ρ ∧ t ρ fun d ρ' => ∀ F' H' v, Le F F' → SR K e M g F' H' σ ρ' → Rp K F' d v → Q v H'
structure DEm (X : Cx) (e : Ent) (M : List Md) (x : Expr) (t : DTm) : Prop where
  pe : PE X x (rdEm X.K e M t)
  mono : MonoM t
section
variable {K : PySem.W.Frag} {g : Rg} {F H : Hp} {eH eH' : Hp}
theorem FldOk.reE (k : Fk) (d : D) (v : V) (h : ∀ p ∈ own1 k v, eH' p = none) (q : FldOk K F H g eH k d v) : FldOk K F H g eH' k d v := by
  cases k with
  | val => exact q
  | own =>
    obtain ⟨p, vs, ds, rfl, h2, h3, h4, h5, h6, h7⟩ := q
    exact ⟨p, vs, ds, rfl, h2, h3, h4, h5, h p (by simp [own1]), h7⟩
  | od =>
    obtain ⟨p, vs, ds, rfl, h2, h3, h4, h5, h6, h7⟩ := q
    exact ⟨p, vs, ds, rfl, h2, h3, h4, h5, h p (by simp [own1]), h7⟩
theorem FldsOk.reE : ∀ {fks : List (Str × Fk)} {fs : List (Str × V)} {ks : List (D × D)}, (∀ p ∈ ownA fks fs, eH' p = none) → FldsOk K F H g eH fks fs ks → FldsOk K F H g eH' fks fs ks
  | [], _, _, _, q => q
  | (y, k) :: r, _, _, n, ⟨x, d, fr, kr, h1, h2, h3, h4⟩ => by
    subst h1
    rw [ownA_cons] at n
    exact ⟨x, d, fr, kr, rfl, h2, h3.reE _ _ _ (fun p hp => n p (List.mem_append_left _ hp)), FldsOk.reE (fun p hp => n p (List.mem_append_right _ hp)) h4⟩
theorem FldsOk.ownE : ∀ {fks : List (Str × Fk)} {fs : List (Str × V)} {ks : List (D × D)}, FldsOk K F H g eH fks fs ks → ∀ p ∈ ownA fks fs, eH p = none ∧ ¬ g.mem p
  | [], fs, _, h, p, hp => by
    obtain ⟨rfl, _⟩ := h
    cases hp
  | (y, k) :: r, fs, ks, h, p, hp => by
    obtain ⟨x, d2, fr, kr, rfl, rfl, h3, h4⟩ := h
    rw [ownA_cons] at hp
    rcases List.mem_append.mp hp with hp | hp
    · cases k with
      | val => cases hp
      | own =>
        obtain ⟨q, vs, ds, rfl, _, _, _, _, h6, h7⟩ := h3
        rw [List.mem_singleton.mp hp]
        exact ⟨h6, h7⟩
      | od =>
        obtain ⟨q, vs, ds, rfl, _, _, _, _, h6, h7⟩ := h3
        rw [List.mem_singleton.mp hp]
        exact ⟨h6, h7⟩
    · exact FldsOk.ownE h4 p hp
theorem FldsOk.nolook {m : Str} : ∀ {fks : List (Str × Fk)} {fs : List (Str × V)} {ks : List (D × D)}, m ∉ fks.map (·.1) → FldsOk K F H g eH fks fs ks → fs.lookup m = none
  | [], fs, _, _, h => by
    obtain ⟨rfl, _⟩ := h
    rfl
  | (y, k) :: r, fs, ks, n, h => by
    obtain ⟨x, d2, fr, kr, rfl, rfl, h3, h4⟩ := h
    rw [List.map_cons, List.mem_cons] at n
    rw [look_ne (fun z => n (.inl z.symm))]
    exact FldsOk.nolook (fun z => n (.inr z)) h4
end
theorem unown_none {H : Hp} {a dx : Addr} {as : List Addr} {b : Addr} (h : unown H a dx as b = none) : (b = a ∨ b = dx ∨ b ∈ as) ∨ H b = none := by
  unfold unown at h
  split at h
  · rename_i q; exact .inl q
  · exact .inr h
theorem unown_some {H : Hp} {a dx : Addr} {as : List Addr} {b : Addr} {o : HO} (h : H b = some o) (n : ¬ (b = a ∨ b = dx ∨ b ∈ as)) : unown H a dx as b = some o := by
  unfold unown
  rw [if_neg n]
  exact h
/-- behind a method of our object -/
theorem SR.behind {K : PySem.W.Frag} {e : Ent} {M : List Md} {g : Rg} {F H F' H' : Hp} {σ : L2.St} {ρ : En} (s : SR K e M g F H σ ρ) {i : Nat} {c : Str} {fks : List (Str × Fk)} {a dx dx' : Addr} {fs fs' : List (Str × V)} {ks ks' : List (D × D)} (hm : md M i = .ob c fks) (hσ : σ[i]? = some (some (.ref a))) (gi : gt ρ i ≠ none)
    (ob : ObAt K F H g e.H c fks a dx fs ks) (t : Stp g F (unown H a dx (ownA fks fs)) F' H') (ob' : ObAt K F' H' g (unown H a dx (ownA fks fs)) c fks a dx' fs' ks') : SR K e M g F' H' σ (sv ρ i (some (.dict ((.none, .int ((a : Nat) : Int)) :: ks')))) := by
  obtain ⟨C, a3, a4, a5, a6, a8, a7, a9, a10⟩ := ob
  obtain ⟨C', b3, b4, b5, b6, b8, b7, b9, b10⟩ := ob'
  have opq : (md M i).opq = true := by rw [hm]; rfl
  have oE : ∀ b, (b = a ∨ b = dx ∨ b ∈ ownA fks fs) → e.H b = none ∧ ¬ g.mem b := fun b h => by
    rcases h with rfl | rfl | h
    · exact ⟨a7.1, a8.1⟩
    · exact ⟨a7.2, a8.2⟩
    · exact a5.ownE b h
  have uE : ∀ b, unown H a dx (ownA fks fs) b = none → e.H b = none := fun b h => by
    rcases unown_none h with q | q
    · exact (oE b q).1
    · exact s.old q
  have fi : ∀ b, (b = a ∨ b = dx ∨ b ∈ ownA fks fs) → foot H (md M i) (.ref a) b := fun b h => by
    rw [hm]
    rcases h with h | h | h
    · exact ⟨a, rfl, .inl h⟩
    · exact ⟨a, rfl, .inr ⟨_, _, _, a3, .inl h⟩⟩
    · exact ⟨a, rfl, .inr ⟨_, _, _, a3, .inr h⟩⟩
  have oth : ∀ j u q, j ≠ i → gt ρ j ≠ none → σ[j]? = some (some u) → foot H (md M j) u q → (∃ o, H q = some o ∧ H' q = some o) ∧ F' q = none ∧ unown H a dx (ownA fks fs) q ≠ none := fun j u q ej gj hu fq => by
    obtain ⟨d1, _, k1⟩ := s.slotAt gj hu
    obtain ⟨⟨o, ho⟩, f1, n1, m1⟩ := k1.footAt fq
    have nq : ¬ (q = a ∨ q = dx ∨ q ∈ ownA fks fs) := fun z => s.dis j i u _ q ej gj gi hu hσ fq (fi q z)
    have ho' := unown_some (a := a) (dx := dx) (as := ownA fks fs) ho nq
    exact ⟨⟨o, ho, t.keep q o ho' m1⟩, t.no ho' f1, by rw [ho']; simp⟩
  have bk : ∀ j u q, j ≠ i → gt ρ j ≠ none → σ[j]? = some (some u) → foot H' (md M j) u q → foot H (md M j) u q := fun j u q ej gj hu fq => by
    obtain ⟨d1, _, k1⟩ := s.slotAt gj hu
    exact k1.footBack (fun b o _ hb _ _ _ fb => by
      obtain ⟨⟨o', h1, h2⟩, _⟩ := oth j u b ej gj hu fb
      rw [hb] at h1; cases h1
      exact h2) fq
  have newf : ∀ q, foot H' (md M i) (.ref a) q → unown H a dx (ownA fks fs) q = none := fun q fq => by
    rw [hm] at fq
    obtain ⟨b', eb, hq⟩ := fq
    cases eb
    rcases hq with rfl | ⟨C2, dx2, fs2, hv, hq⟩
    · exact b7.1
    · rw [b3] at hv
      cases hv
      rcases hq with rfl | hq
      · exact b7.2
      · exact (b5.ownE q hq).1
  refine ⟨⟨t.sub, t.ok, fun b mb => ?_⟩, ⟨s.stp.mono.trans t.mono, t.sub, fun b o h => ?_, fun b o h mb => ?_, ?_⟩, s.grel, by rw [sv_len]; exact s.len, fun j d h => ?_, fun j k u w q hjk h1 h2 h3 h4 h5 h6 => ?_, s.low.trans t.mono, s.solo⟩
  · cases q : F' b with
    | none => rfl
    | some o =>
      exfalso
      rcases t.new b o q with w | w
      · rw [s.bs.out b mb] at w; cases w
      · rcases unown_none w with w | w
        · exact (oE b w).2 mb
        · exact g.dom _ s.bs.ok b mb w
  · rcases t.new b o h with w | w
    · exact s.stp.new b o w
    · exact .inr (uE b w)
  · have hH := s.stp.keep b o h mb
    have nb : ¬ (b = a ∨ b = dx ∨ b ∈ ownA fks fs) := fun z => by rw [(oE b z).1] at h; cases h
    exact t.keep b o (unown_some hH nb) (s.keepB h mb)
  · rcases s.grel with q | ⟨q, _⟩
    · rw [← q]; exact t.ok
    · rw [q]; trivial
  · rw [gt_sv] at h
    by_cases ej : j = i
    · subst ej
      rw [if_pos rfl] at h
      split at h
      · cases h
        refine ⟨.ref a, hσ, ?_⟩
        rw [hm]
        exact ⟨a, dx', C', fs', ks', rfl, rfl, b3, b4, b5.reE (fun p hp => uE p (b5.ownE p hp).1), b6, ⟨uE _ b7.1, uE _ b7.2⟩, b8, b9, b10⟩
      · cases h
    · rw [if_neg ej] at h
      obtain ⟨u, h1, h2⟩ := s.slot j d h
      have gj : gt ρ j ≠ none := by rw [h]; simp
      refine ⟨u, h1, ?_⟩
      have k1 : SlotOk K e g F H' (md M j) d u := h2.off fun q o fq ho => by
        obtain ⟨⟨o', z1, z2⟩, _⟩ := oth j u q ej gj h1 fq
        rw [ho] at z1; cases z1
        exact z2
      exact k1.upF t.mono fun q fq => (oth j u q ej gj h1 (bk j u q ej gj h1 fq)).2.1
  · have g1 : gt ρ j ≠ none := by
      rw [gt_sv] at h1
      split at h1
      · rename_i z; rw [z]; exact gi
      · exact h1
    have g2 : gt ρ k ≠ none := by
      rw [gt_sv] at h2
      split at h2
      · rename_i z; rw [z]; exact gi
      · exact h2
    by_cases ej : j = i
    · have nk : k ≠ i := fun z => hjk (ej.trans z.symm)
      subst ej
      rw [hσ] at h3; cases h3
      exact (oth k w q nk g2 h4 (bk k w q nk g2 h4 h6)).2.2 (newf q h5)
    · by_cases ek : k = i
      · subst ek
        rw [hσ] at h4; cases h4
        exact (oth j u q ej g1 h3 (bk j u q ej g1 h3 h5)).2.2 (newf q h6)
      · exact s.dis j k u w q hjk g1 g2 h3 h4 (bk j u q ej g1 h3 h5) (bk k w q ek g2 h4 h6)
/-! ### calls of methods -/
structure ClM (P : Program) (w : World) (K : PySem.W.Frag) (mg : Str → Option Value) (base : Heap) (k : Nat) (c m : Str) (fks : List (Str × Fk)) (ps : List Str) (ms : List Md) (km : KM) : Prop where
  ex : ∃ f fd, (∀ C, OneC K c C → Meth K C m f) ∧ Binds K fd ps [] ∧ FnG P w K mg base CX0 k f fd ps (spM K c fks ms km)
  mo : MonoKM km
section
variable {X : Cx} {e : Ent} {M ms : List Md} {a o : Expr} {xs : List Expr} {tr : DA} {pos p1 apos : Pos}
theorem pe_methG {k : Nat} {f : Addr} {fd : FuncData} {ps : List Str} {sp : Sp} {m : Str} {ta : TE} {t : TA} {pl : Sem Bool} (he : PE X o ta) (F : FnG X.prog X.w X.K X.mg X.base CX0 k f fd ps sp) (hr : Room k X.A) (hgd : X.A.guards = some []) (hb : Binds X.K fd ps []) (ha : PA X (a :: xs) t)
    (hst : starEach (a :: xs) X.env = (false, eval a X.env) :: starEach xs X.env := by rfl) (hpl : (backTo pos (starEach xs X.env)).any (·.1) = false := by rfl)
    (ht : eval (.Call (.Attribute o m apos) (a :: xs) [] pos) X.env = (do
      let ov ← eval o X.env
      standAt apos.atName
      let (f, first) ← holding [ov] (getMethod ov m pl)
      callWith pos f first (backTo pos (starEach (a :: xs) X.env)) (backToKw pos (keywordEach [] X.env))) := by rfl) :
    PE X (.Call (.Attribute o m apos) (a :: xs) [] pos) (fun σ H Q => ta σ H fun x H1 => ∃ b C dx fs, x = .ref b ∧ H1 b = some (.ins C dx fs) ∧ Cls X.K C ∧ Meth X.K C m f ∧ fs.lookup m = none ∧ t σ H1 fun vs H2 => sp (x :: vs) H2 Q (fun _ _ _ => False)) := by
  refine ⟨fun pins s σ H Q I h => ?_⟩
  refine PySem.W.methodCall_KW (pl := pl) (thn (he.run pins s σ H _ I h) fun u s1 ⟨x, H1, I1, rx, b, C, dx, fs, ex, ea, c, hm, l, q⟩ => ?_) ht
  subst ex
  obtain rfl : u = Value.ref b := rx
  refine getmeth_ok I1 ea c hm l ?_
  refine PySem.W.callWith_K (first := [.ref b]) (h₀ := X.base) I.ok.mod.kin hm.kp (thn (ha.run pos pins s1 σ H1 _ I1 q) fun us s2 ⟨vs, H2, I2, r, q2⟩ => ⟨I2.kIn, ?_⟩) hst hpl
  exact goG (us := .ref b :: us) (vs := .ref b :: vs) F hr hgd hb pass0 I2 (.cons rfl r) q2
def tMe (i : Nat) (km : KM) (tr : DA) : DTm := fun ρ Q => match gt ρ i with
  | some (.dict (hd :: ks)) => tr ρ fun ds => km ks ds fun d ks' => Q d (sv ρ i (some (.dict (hd :: ks'))))
  | _ => False
theorem tMe_mono {i : Nat} {km : KM} (mo : MonoKM km) (h : Mono tr) : MonoM (tMe i km tr) := fun ρ Q Q' f q => by
  unfold tMe at q ⊢
  split at q
  · exact h ρ _ _ (fun ds q => mo _ _ _ _ (fun d k q => f _ _ q) q) q
  · exact q.elim
/-- x.m(e, ..) -/
theorem me_call (i : Nat) {k : Nat} {y m : Str} {c : Str} {fks : List (Str × Fk)} {ps : List Str} {km : KM} {pl : Sem Bool} (cm : ClM X.prog X.w X.K X.mg X.base k c m fks ps ms km) (cf : ClsF X.K c (fks.map (·.1))) (hr : Room k X.A) (hgd : X.A.guards = some []) (ha : GA X e M ms (a :: xs) tr) (hn : m ∉ fks.map (·.1) := by decide) (hN : X.N[i]? = some y := by rfl)
    (hv : Vis X.env.scope y := by first | exact Or.inl rfl | exact Or.inr (Or.inl rfl) | exact Or.inr (Or.inr rfl)) (hm : md M i = .ob c fks := by rfl) (hd : (y == ("__debug__" : Str)) = false := by decide) (hcd : (y == ("__classdict__" : Str)) = false := by decide)
    (hst : starEach (a :: xs) X.env = (false, eval a X.env) :: starEach xs X.env := by rfl) (hpl : (backTo pos (starEach xs X.env)).any (·.1) = false := by rfl)
    (ht : eval (.Call (.Attribute (.Name y p1) m apos) (a :: xs) [] pos) X.env = (do
      let ov ← eval (.Name y p1) X.env
      standAt apos.atName
      let (f, first) ← holding [ov] (getMethod ov m pl)
      callWith pos f first (backTo pos (starEach (a :: xs) X.env)) (backToKw pos (keywordEach [] X.env))) := by rfl) :
    DEm X e M (.Call (.Attribute (.Name y p1) m apos) (a :: xs) [] pos) (tMe i km tr) := by
  obtain ⟨f, fd, h1, h2, h3⟩ := cm.ex
  refine ⟨pe_imp (pe_methG (pe_var hN hv hd hcd) h3 hr hgd h2 ha.pa hst hpl ht) fun σ H Q ⟨g, F, ρ, s, q⟩ => ?_, tMe_mono cm.mo ha.mono⟩
  unfold tMe at q
  split at q
  · rename_i hd0 ks hk0
    obtain ⟨v, q1, q2⟩ := s.slot i _ hk0
    rw [hm] at q2
    obtain ⟨b, dx, C, fs, ks2, e1, e2, a3, a4, a5, a6, a7, a8, a9, a10⟩ := q2
    subst e1
    obtain ⟨rfl, rfl⟩ := List.cons.inj (PyData.dict.inj e2)
    refine ⟨_, q1, b, C, dx, fs, rfl, a3, cf.cl C a10, h1 C a10, a5.nolook hn, g, F, ρ, s, ha.mono ρ _ _ (fun ds hq F1 H1 vs t ar => ?_) q⟩
    have s1 := s.step t
    have ob : ObAt X.K F1 H1 g e.H c fks b dx fs ks := ⟨C, t.keep _ _ a3 a8.1, t.keep _ _ a4 a8.2, a5.step t, ⟨t.no a3 a6.1, t.no a4 a6.2⟩, a8, a7, a9, a10⟩
    have ob0 : ObAt X.K F1 H1 g (unown H1 b dx (ownA fks fs)) c fks b dx fs ks := by
      obtain ⟨C, b3, b4, b5, b6, b8, b7, b9, b10⟩ := ob
      exact ⟨C, b3, b4, b5.reE (fun p hp => by unfold unown; rw [if_pos (.inr (.inr hp))]), b6, b8, ⟨by unfold unown; simp, by unfold unown; simp⟩, b9, b10⟩
    refine ⟨g, F1, b, dx, fs, ks, vs, ds, rfl, ob0, s1.bs, ar, cm.mo _ _ _ _ (fun d ks' hq F' H' v dx' fs' t' ob' r => ?_) hq⟩
    exact hq F' H' v (t.mono.trans t'.mono) (s1.behind hm q1 (by rw [hk0]; simp) ob t' ob') r
  · exact q.elim
end
end PP

set_option Elab.async false
set_option linter.all false
set_option maxRecDepth 100000
set_option maxHeartbeats 4000000
namespace PP
open PySem PySem.Spec PyProof.Rows L2
/-! ### tests and statements that may change what stands -/
def rdBm (K : PySem.W.Frag) (e : Ent) (M : List Md) (t : DBm) : TT := fun σ H Q => ∃ g F ρ, SR K e M g F H σ ρ ∧ t ρ fun b ρ' => ∀ F' H', Le F F' → SR K e M g F' H' σ ρ' → Q b H'
structure DCm (X : Cx) (e : Ent) (M : List Md) (x : Expr) (t : DBm) : Prop where
  pt : PT X x (rdBm X.K e M t)
  mono : MonoM t
structure DWm (X : Cx) (e : Ent) (M : List Md) (x : Expr) (t : DBm) : Prop where
  pw : PW X x (rdBm X.K e M t)
  mono : MonoM t
section
variable {X : Cx} {e : Ent} {M : List Md} {a b c x : Expr} {ta tb : DT} {tam : DTm} {tA : DB} {tAm tBm : DBm} {t u : DTS} {pos p2 : Pos}
theorem DE.m (h : DE X e M x ta) : DEm X e M x (fun ρ Q => ta ρ fun d => Q d ρ) :=
  ⟨pe_imp h.pe fun σ H Q ⟨g, F, ρ, s, q⟩ => ⟨g, F, ρ, s, h.mono ρ _ _ (fun d hd F' H' v t r => hd F' H' v t.mono (s.step t) r) q⟩, fun ρ Q Q' f q => h.mono ρ _ _ (fun d q => f _ _ q) q⟩
theorem DC.m (h : DC X e M x tA) : DCm X e M x (fun ρ Q => tA ρ fun d => Q d ρ) :=
  ⟨pt_imp h.pt fun σ H Q ⟨g, F, ρ, s, q⟩ => ⟨g, F, ρ, s, h.mono ρ _ _ (fun d hd F' H' t => hd F' H' t.mono (s.step t)) q⟩, fun ρ Q Q' f q => h.mono ρ _ _ (fun d q => f _ _ q) q⟩
theorem DWm.dc (h : DWm X e M x tAm) : DCm X e M x tAm := ⟨h.pw.pt, h.mono⟩
theorem DW.m (h : DW X e M x tA) : DWm X e M x (fun ρ Q => tA ρ fun d => Q d ρ) :=
  ⟨pw_imp h.pw fun σ H Q ⟨g, F, ρ, s, q⟩ => ⟨g, F, ρ, s, h.mono ρ _ _ (fun d hd F' H' t => hd F' H' t.mono (s.step t)) q⟩, fun ρ Q Q' f q => h.mono ρ _ _ (fun d q => f _ _ q) q⟩
/-- a != b, where a changes what stands -/
theorem mc_ne (hu : X.A.units + 64 < cLine) (ha : DEm X e M a tam) (hb : RE X e M b tb) : DCm X e M (.Compare a [.NotEq] [b] pos) (fun ρ Q => tam ρ fun x ρ' => tb ρ' fun y => kEq not x y fun d => match d with | .bool c => Q c ρ' | _ => False) :=
  ⟨pt_imp (pt_cmpR (op_neX hu) ha.pe hb.pe (nm (by decide) (by decide))) fun σ H Q ⟨g, F, ρ, s, q⟩ => ⟨g, F, ρ, s, ha.mono ρ _ _ (fun dx ρ' hx F1 H1 x l s1 rx => ⟨g, F1, ρ', s1, hb.mono _ _ _ (fun dy hy F2 H2 y t2 ry => by
    have s2 := s1.step t2
    refine says_eq (X := X) g F2 H2 dx dy x y _ _ s2.bs (.inl (rx.mono t2.mono)) ry hy fun d F' H' v hd t3 rv => ?_
    split at hd
    · exact ⟨_, rv, hd F' H' ((l.trans t2.mono).trans t3.mono) (s2.step t3)⟩
    · exact hd.elim) hx⟩) q⟩, fun ρ Q Q' f q => ha.mono ρ _ _ (fun dx ρ' q => hb.mono _ _ _ (fun dy q => kEq_mono _ _ _ _ (fun d q => by
    split at q
    · exact f _ _ q
    · exact q.elim) q) q) q⟩
theorem mw_or1 (ha : DCm X e M a tAm) : DWm X e M (.BoolOp .Or [a] pos) tAm := ⟨pw_or1 ha.pt, ha.mono⟩
theorem mw_or {rest : List Expr} (ha : DCm X e M a tAm) (hb : DWm X e M (.BoolOp .Or (b :: rest) pos) tBm) : DWm X e M (.BoolOp .Or (a :: b :: rest) pos) (fun ρ Q => tAm ρ fun k ρ' => if k = true then Q true ρ' else tBm ρ' Q) :=
  ⟨pw_imp (pw_or ha.pt hb.pw) fun σ H Q ⟨g, F, ρ, s, q⟩ => ⟨g, F, ρ, s, ha.mono ρ _ _ (fun k ρ' hk F1 H1 l s1 => by
    cases k with
    | true => exact hk F1 H1 l s1
    | false => exact ⟨g, F1, ρ', s1, hb.mono _ _ _ (fun k ρ2 hk F2 H2 l2 s2 => hk F2 H2 (l.trans l2) s2) hk⟩) q⟩, fun ρ Q Q' f q => ha.mono ρ _ _ (fun k ρ' q => by
    cases k with
    | true => exact f _ _ q
    | false => exact hb.mono _ _ _ f q) q⟩
theorem ds_ifM {xs ys : List Stmt} (hc : DCm X e M c tAm) (ha : DSs X e M xs t) (hb : DSs X e M ys u) : DS X e M (.If c xs ys pos) (fun d ρ => tAm ρ fun b ρ' => if b = true then t d ρ' else u d ρ') :=
  ⟨ps_imp (ps_if hc.pt ha.ps hb.ps) fun E σ H ⟨g, F, ρ, d, s, q, h⟩ => ⟨g, F, ρ, s, hc.mono ρ _ _ (fun b ρ' hb F' H' l s' => by
    cases b with
    | true => exact ⟨g, F', ρ', d, s', hb, h⟩
    | false => exact ⟨g, F', ρ', d, s', hb, h⟩) q⟩, fun d d' ρ i q => hc.mono ρ _ _ (fun b ρ' q => by
    cases b with
    | true => exact ha.mono d d' ρ' i q
    | false => exact hb.mono d d' ρ' i q) q⟩
theorem ds_exprM (ha : DEm X e M a tam) (hs : swapsWith a none pos.line X.env = pure false := by rfl) : DS X e M (.Expr a pos) (fun d ρ => tam ρ fun _ ρ' => d.nx ρ') :=
  ⟨ps_imp (ps_expr ha.pe hs) fun E σ H ⟨g, F, ρ, d, s, q, h⟩ => ⟨g, F, ρ, s, ha.mono ρ _ _ (fun x ρ' hx F' H' v l s' r => h.nx g F' H' σ ρ' s' hx) q⟩, fun d d' ρ i q => ha.mono ρ _ _ (fun _ ρ' q => i.nx ρ' q) q⟩
/-- y = x.m(..) -/
theorem ds_setM {i : Nat} {y : Str} (hN : X.N.Nodup) (hi : X.N[i]? = some y) (hx : Loc X.env.scope y) (ha : DEm X e M a tam) (hm : md M i = .val := by rfl) (hs : swapsWith a (some (.Name y p2)) pos.line X.env = pure false := by rfl)
    (hf : X.fn y = true ∨ X.env.scope.names.lookup y = some .local := by first | exact .inl rfl | exact .inr rfl | assumption) : DS X e M (.Assign [.Name y p2] a pos) (fun d ρ => tam ρ fun x ρ' => d.nx (sv ρ' i (some x))) :=
  ⟨ps_imp (L2.ps_set hN hi hx ha.pe hs hf) fun E σ H ⟨g, F, ρ, d, s, q, h⟩ => ⟨g, F, ρ, s, ha.mono ρ _ _ (fun x ρ' hx F' H' v l s' r => h.nx g F' H' _ _ (s'.setv hm r) hx) q⟩, fun d d' ρ i q => ha.mono ρ _ _ (fun _ ρ' q => i.nx _ q) q⟩
end
end PP

set_option Elab.async false
set_option linter.all false
set_option maxRecDepth 100000
set_option maxHeartbeats 4000000
namespace PP
open PySem PySem.Spec PyProof.Rows L2
/-! ### an object with one list is made -/
/-- __init__ that sets its one field to a new empty list -/
def spIni (K : PySem.W.Frag) (c f : Str) : Sp := fun vs H Q _ => ∃ b dx C, vs = [.ref b] ∧ H b = some (.ins C dx []) ∧ OneC K c C ∧ ∀ p, H p = none → Q .non (upd (upd H p (.lst [])) b (.ins C dx [(f, .ref p)]))
section
variable {P : Program} {w : World} {K : PySem.W.Frag} {mg : Str → Option Value} {base : Heap}
theorem ini_ok {c f : Str} {fks : List (Str × Fk)} {qual : Str} {st : Stmt} {fa : Addr} {fd : FuncData} {p1 p2 p3 p4 : Pos} (cf : ClsF K c (fks.map (·.1))) (hf : f ∈ fks.map (·.1)) (F : Fun K "__init__" qual st fa fd) (S : FnScope ["self"] ["self"] (defScope st))
    (hb : defBody st = [.Assign [.Attribute (.Name "self" p1) f p2] (.List [] p3) p4])
    (hv : ∀ (cdv : Value) (A : Around) (outer : List Env) (s : Shared) (H : Hp) (E : XK), PSs (cxOf CX0 P w K mg base ["self"] qual (defScope st) fa cdv A outer s H E).nox [.Assign [.Attribute (.Name "self" p1) f p2] (.List [] p3) p4] (sFld K (fun σ H Q => ∃ v, σ[0]? = some (some v) ∧ Q v H) (tLst tNil) f)) :
    FnOk P w K mg base CX0 1 fa fd ["self"] (spIni K c f) := by
  refine F.ok S (fun vs H Q E ⟨b, dx, C, e, _⟩ => by rw [e]; rfl) fun cdv A outer s H vs Q E hr h => ?_
  obtain ⟨b, dx, C, rfl, hb1, hc, q⟩ := h
  rw [hb]
  refine ⟨_, hv cdv A outer s H E, Nat.zero_le _, fun p hp => ?_⟩
  have pb : p ≠ b := fun z => by rw [z, hb1] at hp; cases hp
  exact ⟨.ref b, rfl, b, C, dx, [], rfl, by rw [upd_ne (Ne.symm pb)]; exact hb1, cf.cl C hc, cf.na C f hc hf, by decide, q p hp⟩
end
/-- what is made by its name -/
structure ClI (P : Program) (w : World) (K : PySem.W.Frag) (mg : Str → Option Value) (base : Heap) (k : Nat) (c f : Str) : Prop where
  ex : ∃ C fi fd, mg c = some (.ref C) ∧ OneC K c C ∧ Mk K C fi ∧ Binds K fd ["self"] [] ∧ FnOk P w K mg base CX0 k fi fd ["self"] (spIni K c f)
section
variable {X : Cx} {e : Ent} {M : List Md} {pos p1 p2 spos : Pos}
/-- x = C() -/
theorem ds_make0 {i : Nat} {y c f : Str} {k : Nat} (ci : ClI X.prog X.w X.K X.mg X.base k c f) (hr : Room (k + 1) X.A) (hg : Gl X c) (hN : X.N.Nodup) (hi : X.N[i]? = some y) (hx : Loc X.env.scope y) (hm : md M i = .ob c [(f, .own)] := by rfl)
    (hdb : (c == ("__debug__" : Str)) = false := by decide) (hs : swapsWith (.Call (.Name c p1) [] [] pos) (some (.Name y p2)) spos.line X.env = pure false := by rfl)
    (hf : X.fn y = true ∨ X.env.scope.names.lookup y = some .local := by first | exact .inl rfl | exact .inr rfl | assumption) : DS X e M (.Assign [.Name y p2] (.Call (.Name c p1) [] [] pos) spos) (fun d ρ => ∀ a : Addr, d.nx (sv ρ i (some (.dict [(.none, .int ((a : Nat) : Int)), (.str f, .list [])])))) := by
  obtain ⟨C, fi, fd, m1, m2, m3, m4, m5⟩ := ci.ex
  refine ⟨ps_imp (L2.ps_set hN hi hx (pe_make0 (E := fun _ _ _ => False) m3 m5 hr hg m1 m4 .nil pass0 hdb) hs hf) fun E σ H ⟨g, F, ρ, d, s, q, h⟩ => ?_, fun d d' ρ k q a => k.nx _ (q a)⟩
  intro x dx h1 h2 h3
  have xd : x ≠ dx := Ne.symm h3
  have hx1 : (upd H dx (.own x)) x = none := by rw [upd_ne xd]; exact h1
  refine ⟨x, dx, C, rfl, upd_same, m2, fun p hp => ⟨rfl, ?_⟩⟩
  have px : p ≠ x := fun z => by rw [z, upd_same] at hp; cases hp
  have pd : p ≠ dx := fun z => by rw [z, upd_ne (Ne.symm xd), upd_same] at hp; cases hp
  have hp0 : H p = none := by rw [upd_ne px, upd_ne pd] at hp; exact hp
  have b0 := s.bs
  have t1 : Stp g F H F (upd H dx (.own x)) := b0.hide h2 _
  have t2 : Stp g F H F (upd (upd H dx (.own x)) x (.ins C dx [])) := t1.trans ((t1.bs b0).hide hx1 _)
  have t3 : Stp g F H F (upd (upd (upd H dx (.own x)) x (.ins C dx [])) p (.lst [])) := t2.trans ((t2.bs b0).hide hp _)
  have fx := b0.sub.none h1
  have fd0 := b0.sub.none h2
  have fp := b0.sub.none hp0
  have t4 := t3.poke h1 fx (s.nmem h1) (.ins C dx [(f, .ref p)])
  refine h.nx g F _ _ _ (s.setmF t4 (fun q hq => ?_) ?_) (q x)
  · rw [hm] at hq
    obtain ⟨b', eb, hq⟩ := hq
    cases eb
    rcases hq with rfl | ⟨C2, dx2, fs2, hv, hq⟩
    · exact h1
    · rw [upd_same] at hv
      cases hv
      rcases hq with rfl | hq
      · exact h2
      · rw [ownA_cons] at hq
        have e : ownA ([] : List (Str × Fk)) ([] : List (Str × V)) = [] := rfl
        rw [e, List.append_nil] at hq
        rw [List.mem_singleton.mp hq]
        exact hp0
  rw [hm]
  refine ⟨x, dx, C, [(f, .ref p)], [(.str f, .list [])], rfl, rfl, upd_same, by rw [upd_ne h3, upd_ne (Ne.symm pd), upd_ne h3, upd_same], ⟨.ref p, .list [], [], [], rfl, rfl, ⟨p, [], [], rfl, rfl, by rw [upd_ne px, upd_same], rfl, fp, s.old hp0, s.nmem hp0⟩, rfl, rfl⟩, ⟨fx, fd0⟩, ⟨s.old h1, s.old h2⟩, ⟨s.nmem h1, s.nmem h2⟩, ?_, m2⟩
  rw [ownA_cons]
  have e : ownA ([] : List (Str × Fk)) ([] : List (Str × V)) = [] := rfl
  rw [e]
  simp [own1]
end
end PP

set_option Elab.async false
set_option linter.all false
set_option maxRecDepth 100000
set_option maxHeartbeats 4000000
namespace PP
open PySem PySem.Spec PyProof.Rows L2
section
variable {X : Cx} {e : Ent} {M : List Md} {pos p1 : Pos}
theorem rf (i : Nat) {y f : Str} {c : Str} {fks : List (Str × Fk)} (cf : ClsF X.K c (fks.map (·.1))) (hf : f ∈ fks.map (·.1) := by decide) (hN : X.N[i]? = some y := by rfl) (hv : Vis X.env.scope y := by first | exact Or.inl rfl | exact Or.inr (Or.inl rfl) | exact Or.inr (Or.inr rfl)) (hm : md M i = .ob c fks := by rfl)
    (hd : (y == ("__debug__" : Str)) = false := by decide) (hcd : (y == ("__classdict__" : Str)) = false := by decide) (hb : attributeBase (.Name y p1) f X.env (eval (.Name y p1) X.env) = eval (.Name y p1) X.env := by rfl) : RE X e M (.Attribute (.Name y p1) f pos) (tFl i f) := re_fld cf hf hN hv hm hd hcd hb
end
end PP

set_option Elab.async false
set_option linter.all false
set_option maxRecDepth 100000
set_option maxHeartbeats 4000000
namespace PP
open PySem PySem.Spec PyProof.Rows L2
section
variable {X : Cx} {e : Ent} {M : List Md} {a : Expr} {ta : DT} {pos p1 p2 p3 : Pos}
/-! ### x[::-1] of a list: new -/
def tRevF (ta : DT) : DA := fun ρ Q => ta ρ fun d => match d with | .list xs => Q xs.reverse | _ => False
theorem fe_revL {k : Nat} (ha : RE X e M a ta) : FE X e M (.Subscript a (.Slice none none (some (.UnaryOp .USub (.Constant (.int 1) k p1) p2)) p3) pos) (tRevF ta) :=
  ⟨pe_imp (pe_revL ha.pe) fun σ H Q ⟨g, F, ρ, sr, q⟩ => ⟨g, F, ρ, sr, ha.mono ρ _ _ (fun d hd F1 H1 v s1 rv => by
    split at hd
    · obtain ⟨p, vs, rfl, hp, m, r⟩ := rv.lst (s1.bs sr.bs)
      exact ⟨p, vs, rfl, .of hp, fun l hn => hd F1 _ l _ (s1.trans ((s1.bs sr.bs).hide hn _)) (s1.old hn) (s1.sub.none hn) upd_same r.reverse⟩
    · exact hd.elim) q⟩, fun ρ Q Q' f q => ha.mono ρ _ _ (fun d q => by
    split at q
    · exact f _ q
    · exact q.elim) q⟩
end
end PP

set_option Elab.async false
set_option linter.all false
set_option maxRecDepth 100000
set_option maxHeartbeats 4000000
namespace PP
open PySem PySem.Spec PyProof.Rows L2
/-! ### try with several clauses -/
/-- an exception that has landed, and is looked at by clauses -/
def Land (X : Cx) (pins : List (Addr × Obj)) (a : Addr) (σ : L2.St) (H : Hp) (cls : Value) (d : Option Addr) (s' : Shared) : Prop :=
  ∃ (B : Heap) (sI : Shared), Inv X pins σ H sI ∧ (∀ b o, sI.heap.get? b = some o → b ∉ frs X.stack → B.get? b = some o) ∧ sI.heap.UpToSlots s'.heap ∧ HandSPX.FlyingZ B (X.env :: X.outer) a (Zc cls d) s'.heap ∧ H a = none ∧ s'.os = sI.os ∧ AllBare s'.gens
def HsOk (X : Cx) (hs : List ExceptHandler) (w : Ends → WX) : Prop := ∀ (pins : List (Addr × Obj)) (D : Ends) (a : Addr) (σ : L2.St) (H : Hp) (cls : Value) (d : Option Addr) (s' : Shared), Land X pins a σ H cls d s' → w D cls d σ H →
  wpAny (model X.prog X.w) X.A (handleBy (.ref a) X.env hs) (SP X pins D) X.xe s'
section
variable {X : Cx} {x n : Str} {c : Value} {i : Nat} {body suite : List Stmt} {b₀ : Stmt} {np pos pos' : Pos} {tb : WX → TS} {ts : Addr → Value → Option Addr → TS} {Wout : WX} {hs : List ExceptHandler} {h₀ : ExceptHandler} {w : Ends → WX}
theorem hs_nil (hst : X.stack = X.env :: X.outer) (hf : X.env.frame = some X.env.locals) (tk : Takes X Wout) : HsOk X [] (fun _ => Wout) := by
  rintro pins D a σ H cls d s' ⟨B, sI, J, nb, up, fl3, na, os, ag⟩ hno
  refine wpAny_handleBy_nil ?_
  obtain ⟨k1, k2, k3, oe, vs, T, oT, ts', he, hz, hd, h1, hr⟩ := id fl3
  unfold PySem.passOn
  refine wpAny_bind (wpAny_field he hd h1 ?_)
  rw [if_neg (show ¬ ((Value.ref T == Value.none) = true) from by simp)]
  have fin : wpAny (model X.prog X.w) X.A (setFlight (.ref a) X.env.frame) (fun _ s4 => wpAny (model X.prog X.w) X.A (throw (.ref a) : Sem Flow) (SP X pins D) X.xe s4) X.xe s' := by
    rw [hf]
    refine HandSPX.setFlight_upZ fl3 fun h4 hh4 up4 => wpAny_throw (tk _ _ ?_)
    exact ⟨a, B, sI, pins, σ, H, cls, d, rfl, J, nb, up.trans up4, .inr (.inr (by rw [hst]; exact hh4)), na, os, ag, hno⟩
  first
    | exact wpAny_bind (wpAny_pure (wpAny_bind fin))
    | exact wpAny_bind fin
theorem hs_as (hst : X.stack = X.env :: X.outer) (hf : X.env.frame = some X.env.locals) (hN : X.N.Nodup) (hi : X.N[i]? = some n) (hln : X.env.kindOf n = some .local) (hc : Names X x c) (hr : HsOk X hs w)
    (hsu : ∀ (a : Addr) (oe : Obj) (cls : Value) (d : Option Addr) (pn : List (Addr × Obj)), Zc cls d oe → (∃ vs, oe.data = .fields vs) → PSs (X.suite a ((a, oe) :: pn)) (b₀ :: suite) (ts a cls d)) :
    HsOk X (.ExceptHandler (some (.Name x np)) (some n) (b₀ :: suite) pos' :: hs) (fun D => wAs X.K c i ts (w D) D) := by
  rintro pins D a σ' H' cls d s' ld ⟨b, hb1, hyes, hno⟩
  obtain ⟨B, sI, J, nb, up, fl3, na, os, ag⟩ := id ld
  have ok := J.ok
  have hloc : Loc X.env.scope n := .inl hln
  have J3 : Inv X pins σ' H' s' := J.landed nb fl3.1 up os ag
  obtain ⟨oe3, vs3, he3, hz3, hd3⟩ := fl3.there
  have notFr : ∀ {h : Heap} {o : Obj} {vs : Array Value}, h.FunFrames B (X.env :: X.outer) → h.get? a = some o → o.data = .fields vs → a ∉ frs (X.env :: X.outer) := fun {h o vs} ff e dd hm => by
    obtain ⟨_, o', e', hnf⟩ := ff.mem hm
    rw [e] at e'; cases e'
    exact hnf _ dd
  have nfr := notFr fl3.2.2.1 he3 hd3
  have nL : a ≠ X.env.locals := fun z => nfr (List.mem_filterMap.mpr ⟨X.env, List.mem_cons_self, by rw [hf, z]⟩)
  have nF : a ∉ X.fs := fun hm => by
    obtain ⟨e, he, q⟩ := List.mem_filterMap.mp hm
    exact nfr (List.mem_filterMap.mpr ⟨e, List.mem_cons_of_mem _ he, q⟩)
  have S3 := J3.suite he3 hd3 na nL nF
  refine wpAny_handleBy_cons (codeAny_handlers_test ?_) (by intro q; cases q)
  have LT : PySem.W.Looks (model X.prog X.w) s'.heap (typeOf (.ref a)) cls := fun A Q E s k q => wpAny_typeOf_ref (k _ _ he3) (by rw [hz3.1]; exact q)
  have LM := PySem.W.exm_one (M := model X.prog X.w) (J3.kIn) LT hb1
  have test : ∀ {Q : Value → Shared → Prop} {E : Value → Shared → Prop}, Q c s' → wpAny (model X.prog X.w) (X.A.mark (some (.ref a))) (eval (.Name x np) X.env) Q E s' := fun {Q E} q => by
    obtain ⟨hg, hdbg, hm | ⟨hm, hv, hnn⟩⟩ := hc
    · exact ld_glob (X := X.suite a ((a, oe3) :: (X.pn ++ pins))) S3 hg hm q hdbg
    · exact ld_blt (X := X.suite a ((a, oe3) :: (X.pn ++ pins))) S3 hg hm hv q hnn hdbg
  refine test (LM.here ?_)
  cases b with
  | true =>
    refine codeAny_handlers_suite_as ?_
    refine HandSPX.lands_againZ fl3 fun h4 fl4 up4 => ?_
    have J4 : Inv X pins σ' H' { s' with heap := h4 } := J.landed nb fl4.1 (up.trans up4) os ag
    obtain ⟨oe4, vs4, he4, hz4, hd4⟩ := fl4.there
    have S4 := J4.suite he4 hd4 na nL nF
    refine store_ok (X := X.suite a ((a, oe4) :: (X.pn ++ pins))) (v := .ref a) S4 hN hi hloc rfl (fun s5 S5 => ?_) (.inr hln)
    refine wpAny_mono ((hsu a oe4 cls d (X.pn ++ pins) hz4 ⟨_, hd4⟩).run [] s5 _ H' _ S5 (hyes rfl a na)) (fun f s6 hsp => ?_) (fun _ _ z => False.elim z)
    have end_ : ∀ {σ6 : L2.St} {H6 : Hp} {Q : Shared → Prop}, Inv (X.suite a ((a, oe4) :: (X.pn ++ pins))) [] σ6 H6 s6 → (∀ s7, Inv X pins (σ6.set i none) H6 s7 → Q s7) →
        wpAny (model X.prog X.w) X.A (do bindName X.env n .none; unbindBehindTheSuite X.env n pos') (fun _ s7 => Q s7) X.xe s6 := fun {σ6 H6 Q} S6 hq => gone_ok (S6.unsuite ok) hN hi hln hq
    cases f with
    | next =>
      obtain ⟨σ6, H6, S6, q6⟩ := hsp
      exact end_ S6 fun s7 J7 => ⟨_, _, J7, q6⟩
    | brk =>
      obtain ⟨σ6, H6, S6, q6⟩ := hsp
      exact end_ S6 fun s7 J7 => ⟨_, _, J7, q6⟩
    | cont =>
      obtain ⟨σ6, H6, S6, q6⟩ := hsp
      exact end_ S6 fun s7 J7 => ⟨_, _, J7, q6⟩
    | ret u =>
      obtain ⟨v6, σ6, H6, S6, r6, q6⟩ := hsp
      exact end_ S6 fun s7 J7 => ⟨_, _, _, J7, r6, q6⟩
  | false =>
    show wpAny _ X.A (handleBy (.ref a) X.env hs) _ _ _
    exact hr pins D a σ' H' cls d s' ld (hno rfl)
theorem ps_try_hs (hst : X.stack = X.env :: X.outer) (hf : X.env.frame = some X.env.locals) (hh : HsOk X (h₀ :: hs) w)
    (hb : ∀ (W : WX) (pn : List (Addr × Obj)) (xe : Value → Shared → Prop), Takes (X.tr pn xe) W → PassesOwn (model X.prog X.w) X.A X.env xe → PSs (X.tr pn xe) body (tb W)) :
    PS X (.Try body (h₀ :: hs) [] [] pos) (fun D σ H => tb (w D) D σ H) := by
  refine ⟨fun pins s σ H D I h => ?_⟩
  have ok := I.ok
  have hfr : X.A.frames = some (X.env :: X.outer) := by rw [ok.frames, hst]
  refine wpAny_Try_except ?_
  refine wpAny_mono ((hb (w D) (X.pn ++ pins) (fun e s₁ => wpAny (model X.prog X.w) X.A (noteFrame e X.env) (fun _ s₂ => wpAny (model X.prog X.w) X.A (setFlight e none) (fun _ s₃ =>
    wpAny (model X.prog X.w) X.A (handleBy e X.env (h₀ :: hs)) (SP X pins D) X.xe s₃) X.xe s₂) X.xe s₁) (fun u s' xx => ?_) PassesOwn.looking).run [] s σ H D (I.toTry _) h) (fun f s1 hsp => ?_) (fun e s1 he => he)
  · obtain ⟨a, B, sI, pins', σ', H', cls, d, rfl, J', nb, up, sky, na, os, ag, hw⟩ := xx
    have J : Inv X pins σ' H' sI := J'.ofTry ok
    have sky' : Sky B (X.env :: X.outer) a (Zc cls d) X.env.locals s'.heap := by rw [← hst]; exact sky
    show wpAny (model X.prog X.w) X.A (noteFrame (.ref a) X.env) _ _ _
    refine Sky.land Zc.steady hfr hf sky' fun h3 fl3 up3 => ?_
    exact hh pins D a σ' H' cls d { s' with heap := h3 } ⟨B, sI, J, nb, up.trans up3, fl3, na, os, ag⟩ hw
  · cases f with
    | next =>
      obtain ⟨σ', H', J', q⟩ := hsp
      exact wpAny_execs_nil ⟨σ', H', J'.ofTry ok, q⟩
    | brk =>
      obtain ⟨σ', H', J', q⟩ := hsp
      exact ⟨σ', H', J'.ofTry ok, q⟩
    | cont =>
      obtain ⟨σ', H', J', q⟩ := hsp
      exact ⟨σ', H', J'.ofTry ok, q⟩
    | ret u =>
      obtain ⟨v, σ', H', J', r, q⟩ := hsp
      exact ⟨v, σ', H', J'.ofTry ok, r, q⟩
end
end PP

set_option Elab.async false
set_option linter.all false
set_option maxRecDepth 100000
set_option maxHeartbeats 4000000
namespace PP
open PySem PySem.Spec PyProof.Rows L2
/-! ### exceptions with fields -/
abbrev XF := List (Str × D)
def XfR (K : PySem.W.Frag) (F : Hp) : XF → List (Str × V) → Prop
  | [], fs => fs = []
  | (f, d) :: ks, fs => ∃ v fr, fs = (f, v) :: fr ∧ Rp K F d v ∧ XfR K F ks fr
theorem XfR.mono {K : PySem.W.Frag} {F F' : Hp} (l : Le F F') : ∀ {ks : XF} {fs : List (Str × V)}, XfR K F ks fs → XfR K F' ks fs
  | [], _, h => h
  | _ :: _, _, ⟨v, fr, e, r, t⟩ => ⟨v, fr, e, r.mono l, XfR.mono l t⟩
/-- the dict of an exception -/
def XdOk (K : PySem.W.Frag) (F : Hp) : Option Addr → XF → Prop
  | none, ks => ks = []
  | some dd, ks => ∃ fs, F dd = some (.xd fs) ∧ XfR K F ks fs
theorem XdOk.mono {K : PySem.W.Frag} {F F' : Hp} (l : Le F F') : ∀ {d : Option Addr} {ks : XF}, XdOk K F d ks → XdOk K F' d ks
  | none, _, h => h
  | some _, _, ⟨fs, h, r⟩ => ⟨fs, l _ _ h, r.mono l⟩
/-- the wish about an exception: its class, its fields, and the slots as data -/
abbrev RXF := Value → XF → En → Prop
def WRF (K : PySem.W.Frag) (e : Ent) (M : List Md) (R : RXF) : WX := fun cls d σ H => ∃ g F ρ ks, SR K e M g F H σ ρ ∧ XdOk K F d ks ∧ R cls ks ρ
/-- exceptions that R allows are taken -/
def TakesR (X : Cx) (e : Ent) (M : List Md) (R : RXF) : Prop := ∃ W : WX, Takes X W ∧ ∀ cls d σ H g F ρ ks, SR X.K e M g F H σ ρ → XdOk X.K F d ks → R cls ks ρ → W cls d σ H
/-- __init__ of a class of errors with one field -/
def spXI (K : PySem.W.Frag) (C : Addr) (f : Str) : Sp := fun vs H Q _ => ∃ a v, vs = [.ref a, v] ∧ OexC K C ∧ PySem.W.findIn K (.ref C) f = some none ∧ H a = some (exo a C none) ∧ ∀ dx, H dx = none → dx ≠ a → Q .non (upd (upd H dx (exd dx [(f, v)])) a (exo a C (some dx)))
section
variable {P : Program} {w : World} {K : PySem.W.Frag} {mg : Str → Option Value} {base : Heap}
theorem iniX_ok {C : Addr} {f : Str} {qual : Str} {st : Stmt} {fa : Addr} {fd : FuncData} {p1 p2 p3 p4 : Pos} (F : Fun K "__init__" qual st fa fd) (S : FnScope ["self", f] ["self", f] (defScope st))
    (hb : defBody st = [.Assign [.Attribute (.Name "self" p1) f p2] (.Name f p3) p4])
    (hv : ∀ (cdv : Value) (A : Around) (outer : List Env) (s : Shared) (H : Hp) (E : XK), PSs (cxOf CX0 P w K mg base ["self", f] qual (defScope st) fa cdv A outer s H E).nox [.Assign [.Attribute (.Name "self" p1) f p2] (.Name f p3) p4] (tOst K f (fun σ H Q => ∃ v, σ[0]? = some (some v) ∧ Q v H) (fun σ H Q => ∃ v, σ[1]? = some (some v) ∧ Q v H))) :
    FnOk P w K mg base CX0 1 fa fd ["self", f] (spXI K C f) := by
  refine F.ok S (fun vs H Q E ⟨a, v, e, _⟩ => by rw [e]; rfl) fun cdv A outer s H vs Q E hr h => ?_
  obtain ⟨a, v, rfl, T, nf, ha, q⟩ := h
  rw [hb]
  refine ⟨_, hv cdv A outer s H E, v, rfl, .ref a, rfl, a, C, rfl, T, nf, .inl ⟨ha, fun dx h1 h2 => q dx h1 h2⟩⟩
/-- what is known of a class of errors with one field -/
structure XCl (P : Program) (w : World) (K : PySem.W.Frag) (mg : Str → Option Value) (base : Heap) (x f : Str) (C : Addr) : Prop where
  T : OexC K C
  nf : PySem.W.findIn K (.ref C) f = some none
  mgC : mg x = some (.ref C)
  ini : ∃ fI fd, PySem.W.findIn K (.ref C) "__init__" = some (some (.ref fI)) ∧ PySem.W.typeIn K (.ref fI) = some (.type "function") ∧ Binds K fd ["self", f] [] ∧ FnOk P w K mg base CX0 1 fI fd ["self", f] (spXI K C f)
end
section
variable {X : Cx} {e : Ent} {M : List Md} {x f : Str} {C : Addr} {a : Expr} {es : List Expr} {ta : DT} {tA : TA} {p pos rpos : Pos} {R : RXF}
theorem xd_heap {H1 : Hp} {C a dx : Addr} {f : Str} {v : V} (h : H1 a = none) (ne : dx ≠ a) : upd (L2.del (upd (upd (upd H1 a (exo a C none)) dx (exd dx [(f, v)])) a (exo a C (some dx))) a) dx (.xd [(f, v)]) = upd H1 dx (.xd [(f, v)]) := by
  funext b
  by_cases hb : b = dx
  · rw [hb, upd_same, upd_same]
  · rw [upd_ne hb, upd_ne hb]
    by_cases ha : b = a
    · rw [ha, del_same, h]
    · rw [del_ne ha, upd_ne ha, upd_ne hb, upd_ne ha]
/-- raise C(e), C with one field -/
theorem ds_raiseF (hc : X.calm = true) (tk : TakesR X e M R) (xc : XCl X.prog X.w X.K X.mg X.base x f C) (hr : Room 2 X.A) (ha : DE X e M a ta) (hg : Gl X x := by rfl)
    (hdb : (x == ("__debug__" : Str)) = false := by decide) (he : starEach [a] X.env = (false, eval a X.env) :: starEach [] X.env := by rfl) (hpl : (backTo pos (starEach [] X.env)).any (·.1) = false := by rfl) :
    DS X e M (.Raise (some (.Call (.Name x p) [a] [] pos)) none rpos) (fun _ ρ => ta ρ fun d => R (.ref C) [(f, d)] ρ) := by
  obtain ⟨fI, fd, i1, i2, i3, i4⟩ := xc.ini
  obtain ⟨W, tk, hW⟩ := tk
  refine ⟨ps_imp (ps_raise hc tk (pmk_oex (dvs := []) xc.T i1 i2 i4 hr i3 .nil pass0 hg xc.mgC (pa_cons ha.pe pa_nil he) hdb he hpl)) fun E σ H ⟨g, F, ρ, d, s, q, h⟩ => ⟨g, F, ρ, s, ha.mono ρ _ _ (fun x hx F1 H1 v t r => ⟨by show 1 ≤ 1000; decide, fun b hb => ?_⟩) q⟩, fun _ _ ρ _ q => ha.mono ρ _ _ (fun _ q => q) q⟩
  refine ⟨b, v, rfl, xc.T, xc.nf, upd_same, fun dx h1 h2 => ?_⟩
  have hd1 : H1 dx = none := by rw [upd_ne h2] at h1; exact h1
  refine ⟨rfl, dx, [(f, v)], upd_same, by rw [upd_ne h2, upd_same], hd1, ?_⟩
  rw [xd_heap hb h2]
  have s1 := s.step t
  have t2 := s1.bs.alloc hd1 (.xd [(f, v)])
  exact hW _ _ _ _ g _ ρ [(f, x)] (s1.step t2) ⟨_, upd_same, v, [], rfl, r.mono t2.mono, rfl⟩ hx
/-- raise C(), C without fields -/
theorem ds_raise0F {c : Value} {a : Expr} (hc : X.calm = true) (tk : TakesR X e M R) (he : PMk X a (fun _ H Q => Q c none H)) : DS X e M (.Raise (some a) none pos) (fun _ ρ => R c [] ρ) := by
  obtain ⟨W, tk, hW⟩ := tk
  exact ⟨ps_imp (ps_raise hc tk he) fun E σ H ⟨g, F, ρ, d, s, q, h⟩ => hW _ _ _ _ g F ρ [] s rfl q, fun _ _ _ _ q => q⟩
end
/-! ### a def that may let an exception out -/
abbrev KXF := List D → (D → Prop) → (Value → XF → Prop) → Prop
def MonoXF (k : KXF) : Prop := ∀ ds (Q Q' : D → Prop) (R R' : Value → XF → Prop), (∀ d, Q d → Q' d) → (∀ c ks, R c ks → R' c ks) → k ds Q R → k ds Q' R'
def spXF (K : PySem.W.Frag) (ms : List Md) (k : KXF) : Sp := fun vs H Q E =>
  ∃ g F ds, Bs g F H ∧ ArgsOk K g F H ms ds vs ∧ k ds (fun d => ∀ F' H' v, Stp g F H F' H' → Rp K F' d v → Q v H') fun cls ks => ∀ F' H' dd, Stp g F H F' H' → XdOk K F' dd ks → E cls dd H'
section
variable {P : Program} {w : World} {K : PySem.W.Frag} {mg : Str → Option Value} {base : Heap}
theorem fnXF {x qual : Str} {st : Stmt} {f : Addr} {fd : FuncData} {N ps : List Str} {M ms : List Md} {k : Nat} {kf : KXF} {t : RXF → DTS} (F : Fun K x qual st f fd) (S : FnScope N ps (defScope st)) (hM : M.take ms.length = ms) (hp : ms.all Md.par = true) (hms : ms.length = ps.length) (hn : ps.length ≤ N.length)
    (bd : ∀ (cdv : Value) (A : Around) (outer : List Env) (s : Shared) (H : Hp) (E : XK) (e : Ent) (R : RXF), Room k (A.deeper (envOfC qual (defScope st) s.heap.objs.size f cdv)) → (A.deeper (envOfC qual (defScope st) s.heap.objs.size f cdv)).guards = some [] →
      (∀ B, TakesR (cxOf (L2.CX P w) P w K mg base N qual (defScope st) f cdv A outer s H E) (e.low B) M R) →
      DSs (cxOf (L2.CX P w) P w K mg base N qual (defScope st) f cdv A outer s H E) e M (defBody st) (t R))
    (sp : ∀ ds (Q : D → Prop) (R : Value → XF → Prop), kf ds Q R → t (fun c ks _ => R c ks) { nx := fun _ => Q .none, rt := Q } (startD N.length ds)) : FnG P w K mg base (L2.CX P w) (k + 1) f fd ps (spXF K ms kf) := by
  refine fnG_of F S (fun vs H Q E ⟨g, F, ds, bs, a, _⟩ => ?_) fun cdv A outer s H vs Q E hr hg h => ?_
  · rw [a.len, hms]
  · obtain ⟨g, F0, ds, bs, a, q⟩ := h
    have tk0 := takes_of (X := cxOf (L2.CX P w) P w K mg base N qual (defScope st) f cdv A outer s H E) (E := E) rfl rfl rfl rfl
    have tk : ∀ B, TakesR (cxOf (L2.CX P w) P w K mg base N qual (defScope st) f cdv A outer s H E) ((⟨g, F0, H, F0⟩ : Ent).low B) M (fun cls ks _ => ∀ F' H' dd, Stp g F0 H F' H' → XdOk K F' dd ks → E cls dd H') :=
      fun B => ⟨_, tk0, fun cls d σ H' g' F' ρ ks sr xd hR => hR F' H' d sr.stp xd⟩
    have D := bd cdv A outer s H E ⟨g, F0, H, F0⟩ _ hr hg tk
    refine ⟨_, D.ps, g, F0, _, _, SR.begin bs a hM hp (by omega) rfl, sp ds _ _ q, ?_⟩
    exact ⟨fun g' F' H' σ' ρ' s' q' => q' F' H' .non s'.stp rfl, fun F' H' d v t' r q' => q' F' H' v t' r, fun _ _ _ _ _ _ z => z.elim, fun _ _ _ _ _ _ z => z.elim, fun _ _ _ _ _ _ _ _ _ z => z.elim⟩
structure ClXF (P : Program) (w : World) (K : PySem.W.Frag) (mg : Str → Option Value) (base : Heap) (k : Nat) (x : Str) (ps : List Str) (ms : List Md) (kf : KXF) : Prop where
  ex : ∃ f fd, mg x = some (.ref f) ∧ PySem.W.keepIn K (.ref f) = true ∧ Binds K fd ps [] ∧ FnG P w K mg base (L2.CX P w) k f fd ps (spXF K ms kf)
  mo : MonoXF kf
theorem clXF {x : Str} {st : Stmt} {N ps : List Str} {M ms : List Md} {k : Nat} {kf : KXF} (h : Hd K mg x st ps) (S : FnScope N ps (defScope st)) (mo : MonoXF kf)
    (hM : M.take ms.length = ms) (hp : ms.all Md.par = true) (hms : ms.length = ps.length) (hn : ps.length ≤ N.length)
    (bd : ∃ t : RXF → DTS, (∀ (f : Addr) (cdv : Value) (A : Around) (outer : List Env) (s : Shared) (H : Hp) (E : XK) (e : Ent) (R : RXF), Room k (A.deeper (envOfC x (defScope st) s.heap.objs.size f cdv)) → (A.deeper (envOfC x (defScope st) s.heap.objs.size f cdv)).guards = some [] →
      (∀ B, TakesR (cxOf (L2.CX P w) P w K mg base N x (defScope st) f cdv A outer s H E) (e.low B) M R) →
      DSs (cxOf (L2.CX P w) P w K mg base N x (defScope st) f cdv A outer s H E) e M (defBody st) (t R)) ∧
      (∀ ds (Q : D → Prop) (R : Value → XF → Prop), kf ds Q R → t (fun c ks _ => R c ks) { nx := fun _ => Q .none, rt := Q } (startD N.length ds))) : ClXF P w K mg base (k + 1) x ps ms kf := by
  obtain ⟨f, fd, F, b, m⟩ := h.ex
  obtain ⟨t, d, sp⟩ := bd
  exact ⟨⟨f, fd, m, F.kp, b, fnXF F S hM hp hms hn (fun cdv A outer s H E e R hr hg tk => d f cdv A outer s H E e R hr hg tk) sp⟩, mo⟩
end
section
variable {X : Cx} {e : Ent} {M ms : List Md} {a : Expr} {xs : List Expr} {tr : DA} {y : Str} {ps : List Str} {k : Nat} {p pos : Pos} {R : RXF}
def tClXF (kf : KXF) (R : RXF) (tr : DA) : DT := fun ρ Q => tr ρ fun ds => kf ds Q fun c ks => R c ks ρ
theorem de_callXF {kf : KXF} (Cx : ClXF X.prog X.w X.K X.mg X.base k y ps ms kf) (tk : TakesR X e M R) (hr : Room k X.A) (hgd : X.A.guards = some []) (ha : GA X e M ms (a :: xs) tr) (hg : Gl X y := by rfl)
    (hdb : (y == ("__debug__" : Str)) = false := by decide) (he : starEach (a :: xs) X.env = (false, eval a X.env) :: starEach xs X.env := by rfl)
    (hpl : (backTo pos (starEach xs X.env)).any (·.1) = false := by rfl) : DE X e M (.Call (.Name y p) (a :: xs) [] pos) (tClXF kf R tr) := by
  obtain ⟨f, fd, h1, h2, h3, h4⟩ := Cx.ex
  have mo := Cx.mo
  obtain ⟨W, tk, hW⟩ := tk
  refine ⟨pe_imp (pe_callGS h4 hr hgd hg h1 h2 h3 (fun σ => passAt tk σ) ha.pa hdb he hpl) fun σ H Q ⟨g, F, ρ, sr, q⟩ => ⟨g, F, ρ, sr, ha.mono ρ _ _ (fun ds hd F1 H1 vs s rv => ?_) q⟩, fun ρ Q Q' f q => ha.mono ρ _ _ (fun ds q => mo _ _ _ _ _ f (fun _ _ r => r) q) q⟩
  exact ⟨g, F1, ds, s.bs sr.bs, rv, mo _ _ _ _ _ (fun d hq F2 H2 v s2 r2 => hq F2 H2 v (s.trans s2) r2) (fun c ks hR F2 H2 dd s2 xd => hW _ _ _ _ g F2 ρ ks ((sr.step s).step s2) xd hR) hd⟩
end
end PP

set_option Elab.async false
set_option linter.all false
set_option maxRecDepth 100000
set_option maxHeartbeats 4000000
namespace PP
open PySem PySem.Spec PyProof.Rows L2
/-! ### a def that is handed a new object, and keeps it to itself -/
abbrev KN := List (D × D) → List D → (D → Prop) → (Value → XF → Prop) → Prop
def MonoKN (kn : KN) : Prop := ∀ ks ds (Q Q' : D → Prop) (R R' : Value → XF → Prop), (∀ d, Q d → Q' d) → (∀ c xs, R c xs → R' c xs) → kn ks ds Q R → kn ks ds Q' R'
def spN (K : PySem.W.Frag) (c : Str) (fks : List (Str × Fk)) (ms : List Md) (kn : KN) : Sp := fun vs H Q E => ∃ g F a dx fs ks vr ds, vs = .ref a :: vr ∧ ObAt K F H g (unown H a dx (ownA fks fs)) c fks a dx fs ks ∧ Bs g F H ∧ ArgsOk K g F H ms ds vr ∧
  kn ks ds (fun d => ∀ F' H' v, Stp g F (unown H a dx (ownA fks fs)) F' H' → Rp K F' d v → Q v H') fun cls xs => ∀ F' H' dd, Stp g F (unown H a dx (ownA fks fs)) F' H' → XdOk K F' dd xs → E cls dd H'
section
variable {P : Program} {w : World} {K : PySem.W.Frag} {mg : Str → Option Value} {base : Heap}
theorem fnN {x qual : Str} {st : Stmt} {f : Addr} {fd : FuncData} {N ps : List Str} {M ms : List Md} {c : Str} {fks : List (Str × Fk)} {k : Nat} {kn : KN} {t : RXF → DTS} (F : Fun K x qual st f fd) (S : FnScope N ps (defScope st)) (hM : M.take (ms.length + 1) = .ob c fks :: ms)
    (hp : ms.all (fun m => m == .val || m == .dk) = true) (hms : ms.length + 1 = ps.length) (hn : ps.length ≤ N.length)
    (bd : ∀ (cdv : Value) (A : Around) (outer : List Env) (s : Shared) (H : Hp) (E : XK) (e : Ent) (R : RXF), Room k (A.deeper (envOfC qual (defScope st) s.heap.objs.size f cdv)) → (A.deeper (envOfC qual (defScope st) s.heap.objs.size f cdv)).guards = some [] →
      (∀ B, TakesR (cxOf (L2.CX P w) P w K mg base N qual (defScope st) f cdv A outer s H E) (e.low B) M R) →
      DSs (cxOf (L2.CX P w) P w K mg base N qual (defScope st) f cdv A outer s H E) e M (defBody st) (t R))
    (sp : ∀ (a : Addr) ks ds (Q : D → Prop) (R : Value → XF → Prop), kn ks ds Q R → t (fun c ks _ => R c ks) { nx := fun _ => Q .none, rt := Q } (startD N.length (.dict ((.none, .int ((a : Nat) : Int)) :: ks) :: ds))) :
    FnG P w K mg base (L2.CX P w) (k + 1) f fd ps (spN K c fks ms kn) := by
  refine fnG_of F S (fun vs H Q E ⟨g, F, a, dx, fs, ks, vr, ds, e, _, _, ar, _⟩ => ?_) fun cdv A outer s H vs Q E hr hg h => ?_
  · rw [e, List.length_cons, ar.len, hms]
  · obtain ⟨g, F0, a, dx, fs, ks, vr, ds, rfl, ob, bs, ar, q⟩ := h
    have tk0 := takes_of (X := cxOf (L2.CX P w) P w K mg base N qual (defScope st) f cdv A outer s H E) (E := E) rfl rfl rfl rfl
    have tk : ∀ B, TakesR (cxOf (L2.CX P w) P w K mg base N qual (defScope st) f cdv A outer s H E) ((⟨g, F0, unown H a dx (ownA fks fs), F0⟩ : Ent).low B) M (fun cls xs _ => ∀ F' H' dd, Stp g F0 (unown H a dx (ownA fks fs)) F' H' → XdOk K F' dd xs → E cls dd H') :=
      fun B => ⟨_, tk0, fun cls d σ H' g' F' ρ ks sr xd hR => hR F' H' d sr.stp xd⟩
    have D := bd cdv A outer s H E ⟨g, F0, unown H a dx (ownA fks fs), F0⟩ _ hr hg tk
    refine ⟨_, D.ps, g, F0, _, _, SR.beginM bs ob ar hM hp (by omega) rfl, sp a ks ds _ _ q, ?_⟩
    exact ⟨fun g' F' H' σ' ρ' s' q' => q' F' H' .non s'.stp rfl, fun F' H' d v t' r q' => q' F' H' v t' r, fun _ _ _ _ _ _ z => z.elim, fun _ _ _ _ _ _ z => z.elim, fun _ _ _ _ _ _ _ _ _ z => z.elim⟩
structure ClN (P : Program) (w : World) (K : PySem.W.Frag) (mg : Str → Option Value) (base : Heap) (k : Nat) (x : Str) (ps : List Str) (c : Str) (fks : List (Str × Fk)) (ms : List Md) (kn : KN) : Prop where
  ex : ∃ f fd, mg x = some (.ref f) ∧ PySem.W.keepIn K (.ref f) = true ∧ Binds K fd ps [] ∧ FnG P w K mg base (L2.CX P w) k f fd ps (spN K c fks ms kn)
  mo : MonoKN kn
theorem clN {x : Str} {st : Stmt} {N ps : List Str} {M ms : List Md} {c : Str} {fks : List (Str × Fk)} {k : Nat} {kn : KN} (h : Hd K mg x st ps) (S : FnScope N ps (defScope st)) (mo : MonoKN kn) (hM : M.take (ms.length + 1) = .ob c fks :: ms)
    (hp : ms.all (fun m => m == .val || m == .dk) = true) (hms : ms.length + 1 = ps.length) (hn : ps.length ≤ N.length)
    (bd : ∃ t : RXF → DTS, (∀ (f : Addr) (cdv : Value) (A : Around) (outer : List Env) (s : Shared) (H : Hp) (E : XK) (e : Ent) (R : RXF), Room k (A.deeper (envOfC x (defScope st) s.heap.objs.size f cdv)) → (A.deeper (envOfC x (defScope st) s.heap.objs.size f cdv)).guards = some [] →
      (∀ B, TakesR (cxOf (L2.CX P w) P w K mg base N x (defScope st) f cdv A outer s H E) (e.low B) M R) →
      DSs (cxOf (L2.CX P w) P w K mg base N x (defScope st) f cdv A outer s H E) e M (defBody st) (t R)) ∧
      (∀ (a : Addr) ks ds (Q : D → Prop) (R : Value → XF → Prop), kn ks ds Q R → t (fun c ks _ => R c ks) { nx := fun _ => Q .none, rt := Q } (startD N.length (.dict ((.none, .int ((a : Nat) : Int)) :: ks) :: ds)))) : ClN P w K mg base (k + 1) x ps c fks ms kn := by
  obtain ⟨f, fd, F, b, m⟩ := h.ex
  obtain ⟨t, d, sp⟩ := bd
  exact ⟨⟨f, fd, m, F.kp, b, fnN F S hM hp hms hn (fun cdv A outer s H E e R hr hg tk => d f cdv A outer s H E e R hr hg tk) sp⟩, mo⟩
end
section
variable {X : Cx} {e : Ent} {M ms : List Md} {a : Expr} {xs : List Expr} {tr : DA} {y c f : Str} {ps : List Str} {k : Nat} {p p1 p2 pos : Pos} {R : RXF}
/-- y(C(), a, ..) -/
theorem de_newcall {kn : KN} (ci : ClI X.prog X.w X.K X.mg X.base 1 c f) (cn : ClN X.prog X.w X.K X.mg X.base k y ps c [(f, .own)] ms kn) (tk : TakesR X e M R) (hr1 : Room 2 X.A) (hr : Room k X.A) (hgd : X.A.guards = some []) (ha : GA X e M ms (a :: xs) tr) (hg : Gl X y := by rfl) (hgc : Gl X c := by rfl)
    (hdb : (y == ("__debug__" : Str)) = false := by decide) (hdc : (c == ("__debug__" : Str)) = false := by decide) (he : starEach (.Call (.Name c p1) [] [] p2 :: a :: xs) X.env = (false, eval (.Call (.Name c p1) [] [] p2) X.env) :: starEach (a :: xs) X.env := by rfl)
    (hpl : (backTo pos (starEach (a :: xs) X.env)).any (·.1) = false := by rfl) : DE X e M (.Call (.Name y p) (.Call (.Name c p1) [] [] p2 :: a :: xs) [] pos) (fun ρ Q => tr ρ fun ds => kn [(.str f, .list [])] ds Q fun cls xs => R cls xs ρ) := by
  obtain ⟨C, fi, fd, m1, m2, m3, m4, m5⟩ := ci.ex
  obtain ⟨f', fd', h1, h2, h3, h4⟩ := cn.ex
  have mo := cn.mo
  obtain ⟨W, tk, hW⟩ := tk
  refine ⟨pe_imp (pe_callGS h4 hr hgd hg h1 h2 h3 (fun σ => passAt tk σ) (pa_cons (pe_make0 (E := fun _ _ _ => False) m3 m5 hr1 hgc m1 m4 .nil pass0 hdc) ha.pa he) hdb he hpl) fun σ H Q ⟨g, F, ρ, s, q⟩ => ?_, fun ρ Q Q' f q => ha.mono ρ _ _ (fun ds q => mo _ _ _ _ _ _ f (fun _ _ r => r) q) q⟩
  intro x dx n1 n2 n3
  have xd : x ≠ dx := Ne.symm n3
  have hx1 : (upd H dx (.own x)) x = none := by rw [upd_ne xd]; exact n1
  refine ⟨x, dx, C, rfl, upd_same, m2, fun p hp => ⟨rfl, ?_⟩⟩
  have px : p ≠ x := fun z => by rw [z, upd_same] at hp; cases hp
  have pd : p ≠ dx := fun z => by rw [z, upd_ne (Ne.symm xd), upd_same] at hp; cases hp
  have hp0 : H p = none := by rw [upd_ne px, upd_ne pd] at hp; exact hp
  have b0 := s.bs
  have t1 : Stp g F H F (upd H dx (.own x)) := b0.hide n2 _
  have t2 : Stp g F H F (upd (upd H dx (.own x)) x (.ins C dx [])) := t1.trans ((t1.bs b0).hide hx1 _)
  have t3 : Stp g F H F (upd (upd (upd H dx (.own x)) x (.ins C dx [])) p (.lst [])) := t2.trans ((t2.bs b0).hide hp _)
  have fx := b0.sub.none n1
  have fd0 := b0.sub.none n2
  have fp := b0.sub.none hp0
  have t4 := t3.poke n1 fx (s.nmem n1) (.ins C dx [(f, .ref p)])
  refine ⟨g, F, ρ, s.step t4, ha.mono ρ _ _ (fun ds hd F1 H1 vs t5 rv => ?_) q⟩
  have mx := s.nmem n1
  have md := s.nmem n2
  have mp := s.nmem hp0
  have hx4 : (upd (upd (upd (upd H dx (.own x)) x (.ins C dx [])) p (.lst [])) x (.ins C dx [(f, .ref p)])) x = some (.ins C dx [(f, .ref p)]) := upd_same
  have hd4 : (upd (upd (upd (upd H dx (.own x)) x (.ins C dx [])) p (.lst [])) x (.ins C dx [(f, .ref p)])) dx = some (.own x) := by rw [upd_ne n3, upd_ne (Ne.symm pd), upd_ne n3, upd_same]
  have hp4 : (upd (upd (upd (upd H dx (.own x)) x (.ins C dx [])) p (.lst [])) x (.ins C dx [(f, .ref p)])) p = some (.lst []) := by rw [upd_ne px, upd_same]
  have kx := t5.keep _ _ hx4 mx
  have kd := t5.keep _ _ hd4 md
  have kp := t5.keep _ _ hp4 mp
  have fx1 := t5.no hx4 fx
  have fd1 := t5.no hd4 fd0
  have fp1 := t5.no hp4 fp
  have eo : ownA [(f, Fk.own)] [(f, V.ref p)] = [p] := rfl
  have un : ∀ b, (b = x ∨ b = dx ∨ b ∈ [p]) → unown H1 x dx [p] b = none := fun b hb => by unfold unown; rw [if_pos hb]
  have t45 := t4.trans t5
  have t6 : Stp g F H F1 (unown H1 x dx [p]) := {
    mono := t45.mono
    sub := fun b o h => by
      refine unown_some (t5.sub b o h) fun z => ?_
      rcases z with rfl | rfl | z
      · rw [fx1] at h; cases h
      · rw [fd1] at h; cases h
      · rw [List.mem_singleton.mp z, fp1] at h; cases h
    new := t45.new
    keep := fun b o h m => by
      refine unown_some (t45.keep b o h m) fun z => ?_
      rcases z with rfl | rfl | z
      · rw [n1] at h; cases h
      · rw [n2] at h; cases h
      · rw [List.mem_singleton.mp z, hp0] at h; cases h
    ok := g.loc _ _ (fun b hb => by
      unfold unown
      rw [if_neg]
      rintro (rfl | rfl | z)
      · exact mx hb
      · exact md hb
      · rw [List.mem_singleton.mp z] at hb; exact mp hb) t45.ok }
  refine ⟨g, F1, x, dx, [(f, .ref p)], [(.str f, .list [])], vs, ds, rfl, ?_, (t5.bs (t4.bs b0)), rv, ?_⟩
  · rw [eo]
    exact ⟨C, kx, kd, ⟨.ref p, .list [], [], [], rfl, rfl, ⟨p, [], [], rfl, rfl, kp, rfl, fp1, un p (.inr (.inr (List.mem_singleton.mpr rfl))), mp⟩, rfl, rfl⟩, ⟨fx1, fd1⟩, ⟨mx, md⟩, ⟨un x (.inl rfl), un dx (.inr (.inl rfl))⟩, by rw [eo]; simp, m2⟩
  · rw [eo]
    exact mo _ _ _ _ _ _ (fun d hq F2 H2 v t' r2 => hq F2 H2 v (t6.trans t') r2) (fun cls xs hR F2 H2 dd t' xd => hW _ _ _ _ g F2 ρ xs (s.step (t6.trans t')) xd hR) hd
end
end PP

set_option Elab.async false
set_option linter.all false
set_option maxRecDepth 100000
set_option maxHeartbeats 4000000
namespace PP
open PySem PySem.Spec PyProof.Rows L2
/-! ### try: .. except C as e: y = an expression over e -/
/-- what the clause's expression comes to, of an exception with the fields ks -/
def teX (K : PySem.W.Frag) (i : Nat) (a : Addr) (dd : Option Addr) (ks : XF) (x : D) : TE := fun σ H Q => ∃ g F, Bs g F H ∧ XdOk K F dd ks ∧ σ[i]? = some (some (.ref a)) ∧ ∀ F' H' v, Stp g F H F' H' → Rp K F' x v → Q v H'
/-- isinstance(e, c), e with a dict -/
def rIsX (K : PySem.W.Frag) (D a dd : Addr) : List V → Hp → VK → Prop := fun xs H Q => ∃ (c : V) (cv : Value) (b : Bool) (fs : List (Str × V)), xs = [.ref a, c] ∧ (∀ u, RelV c u → u = cv) ∧ PySem.W.kitOne K (.ref D) cv = some b ∧ H dd = some (.xd fs) ∧ Q (.bl b) H
theorem call_isX {X : Cx} {a D dd : Addr} {oe : Obj} {pn : List (Addr × Obj)} (C : ExcC X.K D) (hz : Zc (.ref D) (some dd) oe) (hf : ∃ vs, oe.data = .fields vs) : CallR (X.suite a ((a, oe) :: pn)) (.builtin "isinstance") (rIsX X.K D a dd) := by
  intro pins s σ H xs us Q I r h
  obtain ⟨c, cv, b, fs, rfl, hcv, e, ed, q⟩ := h
  cases r with
  | cons rx rr =>
    cases rr with
    | cons rt rr =>
      cases rr
      cases rx
      have ec := hcv _ rt
      subst ec
      obtain ⟨hget, _⟩ := I.pin (a, oe) (List.mem_append.mpr (.inl List.mem_cons_self))
      obtain ⟨vs, hv⟩ := hf
      have hx : ObjOk X.prog X.w H s.heap dd (.xd fs) := I.hok dd _ ed
      obtain ⟨mA, hns, hr⟩ := hx
      obtain ⟨od, ho, hl⟩ := lookIn_ns hns
      have J : PySem.W.InstAt s.heap a oe D (some od) := ⟨hget, hz.1, by unfold PySem.W.notCls; rw [hv] <;> rfl, by rw [hz.2]; exact ho⟩
      have hcl : (PySem.W.clsIn X.K D).isSome = true := by
        obtain ⟨cd, hc, _⟩ := PySem.W.any_some C.hd
        rw [hc]; rfl
      exact PySem.W.kia_one (PySem.W.kitx_exc hcl C.hg C.hk C.hs C.ha C.hn C.ht C.hm) I.kIn J e (fun z => nomatch z) fun tk => ⟨.bl b, H, I.kept (t' := tk) fun _ _ z => z, rfl, q⟩
theorem formA_te {K : PySem.W.Frag} {i : Nat} {a dd C CW : Addr} {f s s2 : Str} {x : D} {σ : L2.St} {H : Hp} {Q : VK} (kW : PySem.W.kitOne K (.ref C) (.ref CW) = some true) (h : teX K i a (some dd) [(f, x)] (.list [.str s, x]) σ H Q) :
    tIf (tB (tCB (rIsX K C a dd) (tCons (tVar i) (tCons (tC (.ref CW)) tNil)))) (tLst (tCons (tC (.str s)) (tCons (tXf a (.ref C) (some dd) C f (tVar i)) tNil))) (tLst (tCons (tC (.str s2)) tNil)) σ H Q := by
  obtain ⟨g, F, bs, ⟨fs, hF, v, fr, rfl, r, rfl⟩, hσ, q⟩ := h
  have hH := bs.sub _ _ hF
  refine ⟨_, hσ, .ref CW, .ref CW, true, _, rfl, fun u r => r, kW, hH, true, rfl, ?_⟩
  refine L2.iteT ?_
  refine ⟨_, hσ, rfl, rfl, dd, _, v, rfl, hH, by simp [List.lookup], show 2 ≤ sizeLine by decide, fun p hp => ?_⟩
  have t := bs.alloc hp (.lst [.str s, v])
  exact q _ _ _ t ⟨p, _, rfl, upd_same, .cons (show Rp K _ (.str s) (.str s) from rfl) (.cons (r.mono t.mono) .nil)⟩
theorem formB_te {K : PySem.W.Frag} {i : Nat} {a dd C CW : Addr} {f s : Str} {x : D} {σ : L2.St} {H : Hp} {Q : VK} (kW : PySem.W.kitOne K (.ref C) (.ref CW) = some true) (h : teX K i a (some dd) [(f, x)] (.list [.str s, x, .bool true]) σ H Q) :
    tLst (tCons (tC (.str s)) (tCons (tXf a (.ref C) (some dd) C f (tVar i)) (tCons (tCB (rIsX K C a dd) (tCons (tVar i) (tCons (tC (.ref CW)) tNil))) tNil))) σ H Q := by
  obtain ⟨g, F, bs, ⟨fs, hF, v, fr, rfl, r, rfl⟩, hσ, q⟩ := h
  have hH := bs.sub _ _ hF
  refine ⟨_, hσ, rfl, rfl, dd, _, v, rfl, hH, by simp [List.lookup], ?_⟩
  refine ⟨_, hσ, .ref CW, .ref CW, true, _, rfl, fun u r => r, kW, hH, show 3 ≤ sizeLine by decide, fun p hp => ?_⟩
  have t := bs.alloc hp (.lst [.str s, v, .bl true])
  exact q _ _ _ t ⟨p, _, rfl, upd_same, .cons (show Rp K _ (.str s) (.str s) from rfl) (.cons (r.mono t.mono) (.cons (show Rp K _ (.bool true) (.bl true) from rfl) .nil))⟩
/-! ### the clauses, as data -/
structure HdOk (X : Cx) (e : Ent) (M : List Md) (hs : List ExceptHandler) (r : DEnds → RXF) : Prop where
  ex : ∃ w : Ends → WX, HsOk X hs w ∧ ∀ d D, Hooks X.K e M d D → ∀ cls dd σ H, WRF X.K e M (r d) cls dd σ H → w D cls dd σ H
  mo : ∀ d d', DImp d d' → ∀ c ks ρ, r d c ks ρ → r d' c ks ρ
section
variable {X : Cx} {e : Ent} {M : List Md} {i j : Nat} {x n y : Str} {c : Value} {body : List Stmt} {ex : Expr} {np p4 p5 pos pos' : Pos} {t : RXF → DTS} {hs : List ExceptHandler} {h₀ : ExceptHandler} {r : DEnds → RXF}
theorem hd_nil (hst : X.stack = X.env :: X.outer := by rfl) (hf : X.env.frame = some X.env.locals := by rfl) : HdOk X e M [] (fun _ _ _ _ => False) :=
  ⟨⟨_, hs_nil (Wout := fun _ _ _ _ => False) hst hf (fun u s' ⟨a, B, sI, pins, σ, H, cls, d, _, _, _, _, _, _, _, _, w⟩ => w.elim), fun d D h cls dd σ H ⟨g, F, ρ, ks, sr, xd, z⟩ => z⟩, fun _ _ _ _ _ _ z => z⟩
def tAs (K : PySem.W.Frag) (c : Value) (i j : Nat) (val : Addr → XF → D → Prop) (r : DEnds → RXF) : DEnds → RXF := fun d cls ks ρ => ∃ C b, cls = .ref C ∧ PySem.W.exmOne K (.ref C) c = some b ∧ (b = true → (i < ρ.length ∧ gt ρ i = none) ∧ ∃ z, val C ks z ∧ d.nx (sv ρ j (some z))) ∧ (b = false → r d cls ks ρ)
theorem hd_as {K : PySem.W.Frag} (hK : X.K = K) (val : Addr → XF → D → Prop) (hr : HdOk X e M hs r) (hN : X.N.Nodup) (hc : Names X x c)
    (hval : ∀ (a : Addr) (oe : Obj) (C : Addr) (dd : Option Addr) (ks : XF) (z : D) (pn : List (Addr × Obj)), Zc (.ref C) dd oe → (∃ vs, oe.data = .fields vs) → (dd = none → ks = []) → val C ks z → PE (X.suite a ((a, oe) :: pn)) ex (teX K i a dd ks z))
    (hi : X.N[i]? = some n := by rfl) (hln : X.env.kindOf n = some .local := by rfl) (hj : X.N[j]? = some y := by rfl) (hy : Loc X.env.scope y := by first | exact .inl rfl | exact .inr rfl) (hyl : X.fn y = true ∨ X.env.scope.names.lookup y = some .local := by first | exact .inl rfl | exact .inr rfl) (hij : i ≠ j := by decide) (hm : md M j = .val := by rfl)
    (hsw : swapsWith ex (some (.Name y p4)) p5.line X.env = pure false := by rfl) (hst : X.stack = X.env :: X.outer := by rfl) (hf : X.env.frame = some X.env.locals := by rfl) :
    HdOk X e M (.ExceptHandler (some (.Name x np)) (some n) [.Assign [.Name y p4] ex p5] pos' :: hs) (tAs K c i j val r) := by
  subst hK
  obtain ⟨w, hw, hk⟩ := hr.ex
  refine ⟨⟨_, hs_as (ts := fun a cls dd E2 σ H => ∃ (C : Addr) (ks : XF) (z : D), cls = .ref C ∧ (dd = none → ks = []) ∧ val C ks z ∧ teX X.K i a dd ks z σ H (fun v H2 => E2.nx (σ.set j (some v)) H2)) hst hf hN hi hln hc hw (fun a oe cls dd pn hz hfd => ?_), fun d D h cls dd σ H ⟨g, F, ρ, ks, sr, xd, C, b, ec, hb, h1, h2⟩ => ?_⟩, fun d d' k cls ks ρ ⟨C, b, h1, h2, h3, h4⟩ => ⟨C, b, h1, h2, fun eb => ?_, fun eb => hr.mo d d' k _ _ _ (h4 eb)⟩⟩
  · refine ⟨fun pins s σ H D I h => ?_⟩
    obtain ⟨C, ks, z, e1, e2, hv, h⟩ := h
    subst e1
    have P := pss_cons (ps_set hN hj hy (hval a oe C dd ks z pn hz hfd e2 hv) hsw hyl) (X := X.suite a ((a, oe) :: pn)) pss_nil
    exact P.run pins s σ H D I h
  · subst ec
    refine ⟨b, hb, fun eb a ha => ?_, fun eb => hk d D h _ _ _ _ ⟨g, F, ρ, ks, sr, xd, h2 eb⟩⟩
    obtain ⟨⟨hl, h0⟩, z, hv, hnx⟩ := h1 eb
    have li : i < σ.length := by rw [sr.len]; exact hl
    refine ⟨C, ks, z, rfl, fun ed => ?_, hv, g, F, sr.bs, xd, by rw [List.getElem?_set_self li], fun F' H' v t rv => ?_⟩
    · subst ed; exact xd
    have s1 := sr.blank i (some (.ref a))
    rw [sv_same h0] at s1
    have s2 := (s1.step t).setv (i := j) (d := z) (v := v) hm rv
    have s3 := s2.blank i none
    have hg : gt (sv ρ j (some z)) i = none := by rw [gt_sv, if_neg hij]; exact h0
    rw [sv_same hg] at s3
    exact h.nx _ _ _ _ _ s3 hnx
  · obtain ⟨z1, z, hv, hnx⟩ := h3 eb
    exact ⟨z1, z, hv, k.nx _ hnx⟩
theorem ds_tryF (hh : HdOk X e M (h₀ :: hs) r)
    (mo : ∀ (R R' : RXF), (∀ c ks ρ, R c ks ρ → R' c ks ρ) → ∀ d ρ, t R d ρ → t R' d ρ)
    (hb : ∀ (R : RXF) (pn : List (Addr × Obj)) (xe : Value → Shared → Prop), TakesR (X.tr pn xe) e M R → DSs (X.tr pn xe) e M body (t R))
    (hst : X.stack = X.env :: X.outer := by rfl) (hf : X.env.frame = some X.env.locals := by rfl) : DS X e M (.Try body (h₀ :: hs) [] [] pos) (fun d ρ => t (r d) d ρ) := by
  obtain ⟨w, hw, hk⟩ := hh.ex
  refine ⟨ps_imp (ps_try_hs (tb := fun W D σ H => ∃ R : RXF, (∀ c d σ H, WRF X.K e M R c d σ H → W c d σ H) ∧ rdS X.K e M (t R) D σ H) hst hf hw (fun W pn xe tk pw => ?_)) ?_, ?_⟩
  · refine ⟨fun pins s σ H D I h => ?_⟩
    obtain ⟨R, hR, h⟩ := h
    exact (hb R pn xe ⟨_, tk, fun cls d σ H g F ρ ks sr xd hr => hR _ _ _ _ ⟨g, F, ρ, ks, sr, xd, hr⟩⟩).ps.run pins s σ H D I h
  · rintro E σ H ⟨g, F, ρ, d, s, q, h⟩
    exact ⟨r d, fun c dd σ H z => hk d E h c dd σ H z, g, F, ρ, d, s, q, h⟩
  · rintro d d' ρ k q
    exact mo _ _ (fun c ks ρ' z => hh.mo d d' k _ _ _ z) _ _ ((hb _ [] (fun _ _ => True) ⟨fun _ _ _ _ => True, fun _ _ _ => trivial, fun _ _ _ _ _ _ _ _ _ _ _ => trivial⟩).mono _ _ _ k q)
end
end PP

set_option Elab.async false
set_option linter.all false
set_option maxRecDepth 100000
set_option maxHeartbeats 4000000
namespace PP
open PySem PySem.Spec PyProof.Rows L2
/-! ### sorted of a dict with ints as keys; a written dict -/
def intK (ks : List (Int × D)) : List (D × D) := ks.map fun p => (.int p.1, p.2)
theorem RpK.keysI {K : PySem.W.Frag} {F : Hp} : ∀ {ks : List (Int × D)} {ps : List (Key × V)}, RpK K F (intK ks) ps → ps.map (·.1) = (ks.map (·.1)).map Sum.inl
  | [], _, h => by have h : _ = [] := h; subst h; rfl
  | p :: ks, _, ⟨c, x, r, e, ek, _, t⟩ => by
    subst e
    have : c = Sum.inl p.1 := by
      cases c with
      | inl i => cases ek; rfl
      | inr s => cases ek
    subst this
    simp [RpK.keysI t]
def kSortD : List D → (List D → Prop) → Prop := fun ds Q => ∃ ks : List (Int × D), ds = [.dict (intK ks)] ∧ ks.length < 64 ∧ Q ((srtI (ks.map (·.1))).map PyData.int)
section
variable {X : Cx} {e : Ent} {M : List Md} {a b c : Expr} {xs : List Expr} {tA : DA} {ta tb tc : DT} {pos p p1 p2 p3 : Pos} {k1 k2 k3 : Str}
theorem fe_sortD (hc : X.calm = true) (hg : Gl X "sorted") (hm : X.mg "sorted" = none) (ha : AR X e M (a :: xs) tA) (he : starEach (a :: xs) X.env = (false, eval a X.env) :: starEach xs X.env := by rfl) (hpl : (backTo pos (starEach xs X.env)).any (·.1) = false := by rfl) :
    FE X e M (.Call (.Name "sorted" p) (a :: xs) [] pos) (fun ρ Q => tA ρ fun ds => kSortD ds Q) :=
  ⟨pe_imp (pe_callB (call_sortedDI hc) hg hm (by decide +kernel) ha.pa (he := he) (hpl := hpl)) fun σ H Q ⟨g, F, ρ, sr, q⟩ => ⟨g, F, ρ, sr, ha.mono ρ _ _ (fun ds hd F1 H1 vs s rv => by
    have bs := s.bs sr.bs
    obtain ⟨ks, rfl, hl, hd⟩ := hd
    obtain ⟨v, rfl, r⟩ := rv.one
    obtain ⟨p, ps, rfl, hp, m, r⟩ := r.dct bs
    have ek := r.keysI
    exact ⟨p, ps, ks.map (·.1), rfl, .inl hp, ek, by rw [List.length_map]; exact hl, fun js l h1 h2 hn => by
      have e := srtI_eq h1 h2
      exact hd F1 _ l (js.map V.int) (s.trans (bs.hide hn _)) (s.old hn) (s.sub.none hn) upd_same (by rw [e]; exact RpL.ints _)⟩) q⟩,
    fun ρ Q Q' f q => ha.mono ρ _ _ (fun ds ⟨ks, h1, h2, q⟩ => ⟨ks, h1, h2, f _ q⟩) q⟩
/-- {'a': e, 'b': f, 'c': g} -/
theorem de_disp3 {q1 q2 q3 : Pos} {n1 n2 n3 : Nat} (ha : DE X e M a ta) (hb : DE X e M b tb) (hc : DE X e M c tc) (hM : ∀ x y z : V, mergeK [] [(Sum.inr k1, x), (Sum.inr k2, y), (Sum.inr k3, z)] = [(Sum.inr k1, x), (Sum.inr k2, y), (Sum.inr k3, z)] := by intro _ _ _; rfl) :
    DE X e M (.Dict [some (.Constant (.str k1) n1 q1), some (.Constant (.str k2) n2 q2), some (.Constant (.str k3) n3 q3)] [a, b, c] pos) (fun ρ Q => ta ρ fun x => tb ρ fun y => tc ρ fun z => Q (.dict [(.str k1, x), (.str k2, y), (.str k3, z)])) := by
  refine ⟨pe_imp (pe_disp (pps_cons pe_str ha.pe (pps_cons pe_str hb.pe (pps_cons pe_str hc.pe pps_nil))) rfl rfl (by simp) (by simp)) fun σ H Q ⟨g, F, ρ, s, q⟩ => ?_, fun ρ Q Q' f q => ha.mono ρ _ _ (fun _ q => hb.mono ρ _ _ (fun _ q => hc.mono ρ _ _ (fun _ q => f _ q) q) q) q⟩
  intro p hp
  have t0 := s.bs.hide hp (.dK [])
  have np := s.nmem hp
  have fp := s.bs.sub.none hp
  refine ⟨g, F, ρ, s.step t0, ha.mono ρ _ _ (fun x hx F1 H1 v1 t1 r1 => ?_) q⟩
  refine ⟨g, F1, ρ, (s.step t0).step t1, hb.mono ρ _ _ (fun y hy F2 H2 v2 t2 r2 => ?_) hx⟩
  refine ⟨g, F2, ρ, ((s.step t0).step t1).step t2, hc.mono ρ _ _ (fun z hz F3 H3 v3 t3 r3 => ?_) hy⟩
  have t123 := (t1.trans t2).trans t3
  have h3 : H3 p = some (.dK []) := t123.keep _ _ upd_same np
  have f3 : F3 p = none := t123.no upd_same fp
  refine ⟨h3, [(Sum.inr k1, v1), (Sum.inr k2, v2), (Sum.inr k3, v3)], rfl, by simp, ?_⟩
  rw [hM]
  have t4 : Stp g F H (upd F3 p (.dK [(Sum.inr k1, v1), (Sum.inr k2, v2), (Sum.inr k3, v3)])) (upd H3 p (.dK [(Sum.inr k1, v1), (Sum.inr k2, v2), (Sum.inr k3, v3)])) := by
    have t03 := t0.trans t123
    have tp := t03.poke hp f3 np (.dK [(Sum.inr k1, v1), (Sum.inr k2, v2), (Sum.inr k3, v3)])
    exact tp.freeze hp f3 upd_same
  have l3 : Le F3 (upd F3 p (.dK [(Sum.inr k1, v1), (Sum.inr k2, v2), (Sum.inr k3, v3)])) := .new f3
  exact hz _ _ _ t4 ⟨p, _, rfl, upd_same, _, v1, _, rfl, rfl, (r1.mono (t2.mono.trans t3.mono)).mono l3, _, v2, _, rfl, rfl, (r2.mono t3.mono).mono l3, _, v3, _, rfl, rfl, r3.mono l3, rfl⟩
/-- x, y, z = a, b, {} -/
theorem ds_par3D {i j l : Nat} {m n : Md} {x y z : Str} {kt k2 : Nat} {q1 q2 q3 : Pos} (hc : X.calm = true) (hN : X.N.Nodup) (hm : md M i = m) (hn : md M j = n) (hl : md M l = .od) (ha : SE X e M m a ta) (hb : SE X e M n b tb) (hi : X.N[i]? = some x := by rfl) (hj : X.N[j]? = some y := by rfl) (hz : X.N[l]? = some z := by rfl) (hij : i ≠ j := by decide) (hil : i ≠ l := by decide) (hjl : j ≠ l := by decide)
    (hx : X.env.scope.names.lookup x = some .local := by rfl) (hy : X.env.scope.names.lookup y = some .local := by rfl) (hzl : X.env.scope.names.lookup z = some .local := by rfl)
    (ea : starEach [a, b, .Dict [] [] q1] X.env = (false, eval a X.env) :: starEach [b, .Dict [] [] q1] X.env := by rfl) (eb : starEach [b, .Dict [] [] q1] X.env = (false, eval b X.env) :: starEach [.Dict [] [] q1] X.env := by rfl)
    (hw : swappedStores [.Tuple [.Name x p1, .Name y p2, .Name z p3] kt q2] (.Tuple [a, b, .Dict [] [] q1] k2 q3) X.env = pure (some [x, y, z]) := by rfl)
    (hs : swapsWithSole [.Tuple [.Name x p1, .Name y p2, .Name z p3] kt q2] (.Tuple [a, b, .Dict [] [] q1] k2 q3) pos.line X.env = pure false := by rfl) :
    DS X e M (.Assign [.Tuple [.Name x p1, .Name y p2, .Name z p3] kt q2] (.Tuple [a, b, .Dict [] [] q1] k2 q3) pos) (fun d ρ => ta ρ fun u => tb ρ fun v => d.nx (sv (sv (sv ρ i (some u)) j (some v)) l (some (.dict [])))) :=
  ⟨ps_imp (L2.ps_par3 hc hN hi hj hz hij hil hjl hx hy hzl (pa_cons ha.pe (pa_cons hb.pe (pa_cons pe_dnewK pa_nil) eb) ea) hw hs) fun E σ H ⟨g, F, ρ, d, s, q, h⟩ => ⟨g, F, ρ, s, ha.mono ρ _ _ (fun u hu F1 H1 v t1 r1 => ⟨g, F1, ρ, s.step t1, hb.mono ρ _ _ (fun u2 hu2 F2 H2 v2 t2 r2 => by
    intro p hp
    have s2 := (s.put t1 hm r1).put t2 hn r2
    exact ⟨v, v2, .ref p, rfl, h.nx g F2 _ _ _ (s2.setm (s2.bs.hide hp _) hp (by rw [hl]; exact ⟨p, [], [], rfl, rfl, upd_same, rfl, s2.bs.sub.none hp, s2.old hp, s2.nmem hp⟩)) hu2⟩) hu⟩) q⟩, fun d d' ρ k q => ha.mono ρ _ _ (fun x q => hb.mono ρ _ _ (fun y q => k.nx _ q) q) q⟩
/-- x, y, z = a, b, {} where one of the names is a cell -/
theorem ds_asg3D {i j l : Nat} {m n : Md} {x y z : Str} {kt k2 : Nat} {q1 q2 q3 : Pos} (hc : X.calm = true) (hN : X.N.Nodup) (hm : md M i = m) (hn : md M j = n) (hl : md M l = .od) (ha : SE X e M m a ta) (hb : SE X e M n b tb) (hi : X.N[i]? = some x := by rfl) (hj : X.N[j]? = some y := by rfl) (hz : X.N[l]? = some z := by rfl)
    (lx : Loc X.env.scope x := by first | exact .inl rfl | exact .inr rfl) (ly : Loc X.env.scope y := by first | exact .inl rfl | exact .inr rfl) (lz : Loc X.env.scope z := by first | exact .inl rfl | exact .inr rfl)
    (fx : X.fn x = true ∨ X.env.scope.names.lookup x = some .local := by first | exact .inl rfl | exact .inr rfl | assumption) (fy : X.fn y = true ∨ X.env.scope.names.lookup y = some .local := by first | exact .inl rfl | exact .inr rfl | assumption) (fz : X.fn z = true ∨ X.env.scope.names.lookup z = some .local := by first | exact .inl rfl | exact .inr rfl | assumption)
    (ea : starEach [a, b, .Dict [] [] q1] X.env = (false, eval a X.env) :: starEach [b, .Dict [] [] q1] X.env := by rfl) (eb : starEach [b, .Dict [] [] q1] X.env = (false, eval b X.env) :: starEach [.Dict [] [] q1] X.env := by rfl)
    (hs : swapsWithSole [.Tuple [.Name x p1, .Name y p2, .Name z p3] kt q2] (.Tuple [a, b, .Dict [] [] q1] k2 q3) pos.line X.env = pure false := by rfl)
    (hw : swappedStores [.Tuple [.Name x p1, .Name y p2, .Name z p3] kt q2] (.Tuple [a, b, .Dict [] [] q1] k2 q3) X.env = pure none := by rfl)
    (h1 : (assignEach [.Tuple [.Name x p1, .Name y p2, .Name z p3] kt q2] X.env).map (·.2) = [assign (.Tuple [.Name x p1, .Name y p2, .Name z p3] kt q2) X.env] := by rfl)
    (hn3 : (assignEach [.Name x p1, .Name y p2, .Name z p3] X.env).length = 3 := by rfl) (hst : (assignEach [.Name x p1, .Name y p2, .Name z p3] X.env).findIdx? (·.1) = none := by rfl) :
    DS X e M (.Assign [.Tuple [.Name x p1, .Name y p2, .Name z p3] kt q2] (.Tuple [a, b, .Dict [] [] q1] k2 q3) pos) (fun d ρ => ta ρ fun u => tb ρ fun v => d.nx (sv (sv (sv ρ i (some u)) j (some v)) l (some (.dict [])))) :=
  ⟨ps_imp (ps_asg (pe_tupP (pa_cons ha.pe (pa_cons hb.pe (pa_cons pe_dnewK pa_nil) eb) ea)) (pg_tup hc (pgs_cons (pg_name hN hi lx fx) (pgs_cons (pg_name hN hj ly fy) (pgs_cons (pg_name hN hz lz fz) pgs_nil))) hn3 hst) hs hw h1) fun E σ H ⟨g, F, ρ, d, s, q, h⟩ => ⟨g, F, ρ, s, ha.mono ρ _ _ (fun u hu F1 H1 v t1 r1 => ⟨g, F1, ρ, s.step t1, hb.mono ρ _ _ (fun u2 hu2 F2 H2 v2 t2 r2 => by
    intro p hp
    refine ⟨show 3 ≤ sizeLine by decide, fun z' o hn' hc' hd' => ?_⟩
    have s2 := (s.put t1 hm r1).put t2 hn r2
    have s3 := s2.setm (s2.bs.hide hp _) hp (i := l) (d := .dict []) (by rw [hl]; exact ⟨p, [], [], rfl, rfl, upd_same, rfl, s2.bs.sub.none hp, s2.old hp, s2.nmem hp⟩)
    have s4 := s3.step (s3.bs.hide hn' (.frz o (.tup [v, v2, .ref p])))
    exact ⟨z', _, rfl, (Le.refl _).sqT (FrT.new hc' hd'), rfl, _, _, rfl, _, _, rfl, _, _, rfl, rfl, h.nx g F2 _ _ _ s4 hu2⟩) hu⟩) q⟩, fun d d' ρ k q => ha.mono ρ _ _ (fun x q => hb.mono ρ _ _ (fun y q => k.nx _ q) q) q⟩
end
end PP

set_option Elab.async false
set_option linter.all false
set_option maxRecDepth 100000
set_option maxHeartbeats 4000000
namespace PP
open PySem PySem.Spec PyProof.Rows L2
/-! ### a tuple times an int, with no dict -/
def rRepP (K : PySem.W.Frag) : R2 := fun x y H Q => ∃ a k xs, x = .ref a ∧ y = .int k ∧ SqT K H a xs ∧ xs ≠ [] ∧ 2 ≤ k ∧ k ≤ 1000 ∧ xs.length ≤ 1000 ∧ NewT H (List.replicate k.toNat xs).flatten Q
section
variable {X : Cx} {e : Ent} {M : List Md} {a b : Expr} {ta tb : DT} {pos : Pos}
theorem op_repP : OpR X (binaryOp .Mult) (rRepP X.K) := by
  intro pins s σ H x y v u Q I rx ry ⟨ad, m, xs, ex, ey, sq, nx, m2, mk, xk, nw⟩
  subst ex ey
  obtain ⟨tk, rfl⟩ := ry
  cases rx
  obtain ⟨its, rv, ⟨⟨ocl, odd, odat, osl⟩, at_, ecl, sz, edat⟩, _⟩ := I.tuple sq
  simp only at ecl edat
  subst ecl edat
  have ln := rv.length
  have ln2 : its.toArray.size = xs.length := by rw [List.size_toArray]; exact ln.symm
  have few : (List.replicate m.toNat its).flatten.length ≤ sizeLine := by
    rw [PyProof.Rows.lm_len_rep_flat, sizeLine_eq]
    exact Nat.le_trans (Nat.mul_le_mul (show m.toNat ≤ 1000 by omega) (show its.length ≤ 1000 by omega)) (by decide)
  have top : ((its.toArray.size : Nat) : Int) * m ≤ 1000000 := by
    have := Int.mul_le_mul_of_nonneg_right (show ((its.toArray.size : Nat) : Int) ≤ 1000 by omega) (show 0 ≤ m by omega)
    omega
  have some1 : its.toArray.isEmpty = false := by
    cases its with
    | nil => exact absurd (rv.nil_iff.mp rfl) nx
    | cons a b => rfl
  have same := size_rep its m.toNat
  have inner := tuple_mulW ad its.toArray sz odd osl m tk (by rw [decide_eq_false (by omega), decide_eq_false (by omega)] <;> rfl) (by rw [some1, Bool.false_or]; exact beq_eq_false_iff_ne.mpr (by omega))
    (by rw [some1, Bool.or_false]; exact decide_eq_false (by omega)) (by omega) (by unfold Builtin.Tuple.tupleTooMany; rw [sizeLine_eq]; exact decide_eq_false (by omega)) (by rw [same, List.size_toArray]; exact few)
  refine wpAny_binaryOp_repeat_ref (T := "tuple") (U := "int") (by decide)
    ⟨_, at_, rfl⟩ (fun z => typeIs_int z m tk) noFill_tuple_mul F.fills_int_mul
    F.slot_int_rmul repeat_tuple F.slot_int_index.lookup ?_
  refine call_meets F.slot_int_rmul (typeIs_int s m tk) F.entry_int_rmul
    (F.args_int_rmul_2 _ _) (int_rmul_tuple m tk ad its.toArray sz odd osl) ⟨at_, rfl, ⟨_, at_, rfl⟩, ?_⟩
  refine call_meets F.slot_tuple_mul ⟨_, at_, rfl⟩ F.entry_tuple_mul
    (F.args_tuple_mul_2 _ _) inner ⟨at_, ?_⟩
  rw [same]
  exact new_tup I rfl rfl rfl ⟨_, rfl⟩ (by rw [(rv.rep m.toNat).length]; exact few) (rv.rep m.toNat) nw
def kMulT : K2 := fun x y Q => match x, y with
  | .tuple xs, .int k => (xs ≠ [] ∧ 2 ≤ k ∧ k ≤ 1000 ∧ xs.length ≤ 1000) ∧ Q (.tuple (repD k xs))
  | _, _ => False
theorem kMulT_mono : Mono2 kMulT := fun x y Q Q' h q => by
  unfold kMulT at q ⊢
  split at q
  · exact ⟨q.1, h _ q.2⟩
  · exact q.elim
theorem says_mulT : Says2 X (rRepP X.K) kMulT := by
  intro g F H dx dy x y Qv q bs rx ry hk k
  unfold kMulT at hk
  split at hk
  · rename_i xs i
    obtain ⟨p, vs, rfl, hp, r⟩ := rx.tup
    obtain ⟨⟨h0, h1, h2, h3⟩, hk⟩ := hk
    have hv : vs ≠ [] := fun z => h0 (r.nil_iff z)
    exact ⟨p, _, vs, rfl, ry.int, bs.sub.sqT hp, hv, h1, h2, by rw [r.length]; exact h3, fun p' o hn hc hd => k _ (upd F p' (.frz o (.tup (List.replicate _ vs).flatten))) _ _ hk (bs.alloc hn _) ⟨p', _, rfl, FrT.new hc hd, (r.rep _).mono (.new (bs.sub.none hn))⟩⟩
  · exact hk.elim
theorem de_mulT (ha : RE X e M a ta) (hb : RE X e M b tb) : DE X e M (.BinOp a .Mult b pos) (t2 kMulT ta tb) := de_op op_repP says_mulT kMulT_mono ha hb
end
end PP

set_option Elab.async false
set_option linter.all false
set_option maxRecDepth 100000
set_option maxHeartbeats 2000000
namespace PP
open PySem PySem.Spec PyProof.Rows L2
section
variable {S : Type} {X : Cx} {c : EC} {fm : Fam S} {M : List Md} {a b : Expr} {ta tb : ZT S D} {pos p1 p2 p3 spos : Pos}
/-- x[e] = f, where drawing goes on -/
def zPut (i : Nat) (te tk : ZT S D) : ZTS S := fun d ρ s => match gt ρ i with | some (.list xs) => te ρ s fun y s1 => tk ρ s1 fun k s2 => (match k with | .int n => (match ixN xs.length n with | some j => d.nx (sv ρ i (some (.list (xs.set j y)))) s2 | none => False) | _ => False) | _ => False
theorem zs_put (i : Nat) {y : Str} (ha : ZE X c fm M a ta) (hb : ZR X c fm M b tb) (hN : X.N[i]? = some y := by rfl) (hv : Vis X.env.scope y := by first | exact Or.inl rfl | exact Or.inr (Or.inl rfl) | exact Or.inr (Or.inr rfl)) (hm : md M i = .own := by rfl) (hd : (y == ("__debug__" : Str)) = false := by decide) (hcd : (y == ("__classdict__" : Str)) = false := by decide)
    (hE : ∀ {to ti te : TE}, PE X (.Name y p1) to → PE X b ti → PE X a te → PS X (.Assign [.Subscript (.Name y p1) b p2] a spos) (tAsg te (gSub to ti rSetL)) := by
      intro to ti te h1 h2 h3; exact ps_asg h3 (pg_sub h1 h2 set_list)) : ZS X c fm M (.Assign [.Subscript (.Name y p1) b p2] a spos) (zPut i ta tb) :=
  ⟨ps_imp (hE (pe_var hN hv hd hcd) hb.pe ha.pe) fun E σ H ⟨s, F, ρ, d, sr, q, h⟩ => by
    unfold zPut at q
    split at q
    · rename_i xs hx
      obtain ⟨p, vs, ds, e2, h1, h3, h4, h5, h6, h7⟩ := SR.ownAt sr hx hm
      cases e2
      refine ⟨s, F, ρ, sr, ha.mono _ _ _ _ (fun y s1 hy F' H' v t r => ⟨_, h1, s1, F', ρ, SS.step sr t, hb.mono _ _ _ _ (fun k s2 hk F2 H2 u t2 r2 => ?_) hy⟩) q⟩
      have k1 : H' p = some (.lst vs) := t.keep _ _ h3 (fm.nm s1 h7)
      have f1 : F' p = none := t.no h3 h5
      have k2 : H2 p = some (.lst vs) := t2.keep _ _ k1 (fm.nm s2 h7)
      have f2 : F2 p = none := t2.no k1 f1
      split at hk
      · split at hk
        · rename_i n _ j hj
          exact ⟨p, vs, n, j, rfl, r2.int, k2, by rw [h4.length]; exact hj, h.nx s2 F2 _ σ _ (SR.putL (SS.step (SS.step sr t) t2) hm hx h1 f2 h6 (fm.nm s2 h7) ((h4.mono (t.mono.trans t2.mono)).set j (r.mono t2.mono))) hk⟩
        · exact hk.elim
      · exact hk.elim
    · exact q.elim, fun d d' ρ s k q => by
    unfold zPut at q ⊢
    split at q
    · refine ha.mono _ _ _ _ (fun y s1 q => hb.mono _ _ _ _ (fun k' s2 q => ?_) q) q
      split at q
      · split at q
        · exact k.nx _ _ q
        · exact q.elim
      · exact q.elim
    · exact q.elim⟩
end
end PP

set_option Elab.async false
set_option linter.all false
set_option maxRecDepth 100000
set_option maxHeartbeats 4000000
namespace PP
open PySem PySem.Spec PyProof.Rows L2
/-! ### texts -/
section
variable {X : Cx} {e : Ent} {M : List Md} {a b : Expr} {xs : List Expr} {tA : DA} {ta tb : DT} {pos p p1 p2 : Pos}
theorem RpL.strs (ns : List Str) {K : PySem.W.Frag} {H : Hp} : RpL K H (ns.map PyData.str) (ns.map V.str) := by
  induction ns with
  | nil => rfl
  | cons n ns ih => exact ⟨_, _, rfl, rfl, ih⟩
theorem RpL.strs_inv {K : PySem.W.Frag} {H : Hp} : ∀ {ns : List Str} {vs : List V}, RpL K H (ns.map PyData.str) vs → vs = ns.map V.str
  | [], _, h => h
  | n :: ns, _, ⟨x, xs, e, h, t⟩ => by
    have h : x = .str n := h
    subst e h
    rw [RpL.strs_inv t]; rfl
def kStr : KC := fun ds Q => match ds with
  | [.int i] => i.natAbs.log2 < 1920 ∧ Q (.str (toString i))
  | [.str z] => Q (.str z)
  | _ => False
theorem kStr_mono : MonoC kStr := fun ds Q Q' f q => by
  unfold kStr at q ⊢
  split at q
  · exact ⟨q.1, f _ q.2⟩
  · exact f _ q
  · exact q.elim
theorem says_str : SaysC X (fun xs H Q => (∃ i, xs = [.int i] ∧ i.natAbs.log2 < 1920 ∧ Q (.str (toString i)) H) ∨ ∃ a, xs = [.str a] ∧ Q (.str a) H) kStr := by
  intro g F H ds vs Qv q bs rv hk k
  unfold kStr at hk
  split at hk
  · obtain ⟨v, rfl, r⟩ := rv.one
    obtain rfl := r.int
    exact .inl ⟨_, rfl, hk.1, k _ F H _ hk.2 bs.refl rfl⟩
  · obtain ⟨v, rfl, r⟩ := rv.one
    obtain rfl := r.str
    exact .inr ⟨_, rfl, k _ F H _ hk bs.refl rfl⟩
  · exact hk.elim
theorem de_strOf (hg : Gl X "str") (hm : X.mg "str" = none) (ha : AR X e M (a :: xs) tA) (he : starEach (a :: xs) X.env = (false, eval a X.env) :: starEach xs X.env := by rfl) (hpl : (backTo pos (starEach xs X.env)).any (·.1) = false := by rfl) :
    DE X e M (.Call (.Name "str" p) (a :: xs) [] pos) (tCl kStr tA) := de_callT (call_str_int.or SkE.call_str_str) says_str kStr_mono hg hm (by decide +kernel) ha (he := he) (hpl := hpl)
def kIntS : KC := fun ds Q => ∃ (z : Str) (n : Int), ds = [.str z] ∧ PySem.intText? z = some n ∧ z.length ≤ 640 ∧ Q (.int n)
theorem kIntS_mono : MonoC kIntS := fun ds Q Q' f ⟨z, n, h1, h2, h3, q⟩ => ⟨z, n, h1, h2, h3, f _ q⟩
theorem says_intS : SaysC X (fun xs H Q => ∃ a n, xs = [.str a] ∧ PySem.intText? a = some n ∧ a.length ≤ 640 ∧ Q (.int n) H) kIntS := by
  intro g F H ds vs Qv q bs rv hk k
  obtain ⟨z, n, rfl, h1, h2, hk⟩ := hk
  obtain ⟨v, rfl, r⟩ := rv.one
  obtain rfl := r.str
  exact ⟨_, _, rfl, h1, h2, k _ F H _ hk bs.refl rfl⟩
theorem de_intS (hg : Gl X "int") (hm : X.mg "int" = none) (ha : AR X e M (a :: xs) tA) (he : starEach (a :: xs) X.env = (false, eval a X.env) :: starEach xs X.env := by rfl) (hpl : (backTo pos (starEach xs X.env)).any (·.1) = false := by rfl) :
    DE X e M (.Call (.Name "int" p) (a :: xs) [] pos) (tCl kIntS tA) := de_callT call_int_str says_intS kIntS_mono hg hm (by decide +kernel) ha (he := he) (hpl := hpl)
def kLenS : KC := fun ds Q => ∃ z : Str, ds = [.str z] ∧ z.length ≤ sizeLine ∧ Q (.int ((z.length : Nat) : Int))
theorem kLenS_mono : MonoC kLenS := fun ds Q Q' f ⟨z, h1, h2, q⟩ => ⟨z, h1, h2, f _ q⟩
theorem says_lenS : SaysC X (fun xs H Q => ∃ z, xs = [.str z] ∧ z.length ≤ sizeLine ∧ Q (.int z.length) H) kLenS := by
  intro g F H ds vs Qv q bs rv hk k
  obtain ⟨z, rfl, h1, hk⟩ := hk
  obtain ⟨v, rfl, r⟩ := rv.one
  obtain rfl := r.str
  exact ⟨_, rfl, h1, k _ F H _ hk bs.refl rfl⟩
theorem de_lenS (hg : Gl X "len") (hm : X.mg "len" = none) (ha : AR X e M (a :: xs) tA) (he : starEach (a :: xs) X.env = (false, eval a X.env) :: starEach xs X.env := by rfl) (hpl : (backTo pos (starEach xs X.env)).any (·.1) = false := by rfl) :
    DE X e M (.Call (.Name "len" p) (a :: xs) [] pos) (tCl kLenS tA) := de_callB call_len_str says_lenS kLenS_mono hg hm PySem.boot_len ha (he := he) (hpl := hpl)
/-- sep.join(list of texts) -/
def kJoinT : K2 := fun x y Q => ∃ (z : Str) (ys : List Str), x = .str z ∧ y = .list (ys.map PyData.str) ∧ (ys.map (·.length)).sum + ys.length * z.length ≤ 16777216 ∧ Q (.str (Txt.join z ys))
theorem kJoinT_mono : Mono2 kJoinT := fun x y Q Q' f ⟨z, ys, h1, h2, h3, q⟩ => ⟨z, ys, h1, h2, h3, f _ q⟩
def kSplit : K2 := fun x y Q => ∃ (z c : Str), x = .str z ∧ y = .str c ∧ (c.length == 0) = false ∧ z.length + 2 ≤ sizeLine ∧ Q (.list ((Txt.split z c).map PyData.str))
theorem kSplit_mono : Mono2 kSplit := fun x y Q Q' f ⟨z, ys, h1, h2, h3, h4, q⟩ => ⟨z, ys, h1, h2, h3, h4, f _ q⟩
def kStarts : K2 := fun x y Q => ∃ (z c : Str), x = .str z ∧ y = .str c ∧ Q (.bool (Txt.startswith z c))
theorem kStarts_mono : Mono2 kStarts := fun x y Q Q' f ⟨z, ys, h1, h2, q⟩ => ⟨z, ys, h1, h2, f _ q⟩
def tMth (k : K2) (ta tb : DT) : DT := fun ρ Q => ta ρ fun x => (∃ z, x = .str z) ∧ tb ρ fun y => k x y Q
theorem tMth_mono {k : K2} (h : Mono2 k) (ha : Mono ta) (hb : Mono tb) : Mono (tMth k ta tb) := fun ρ Q Q' f q =>
  ha ρ _ _ (fun x q => ⟨q.1, hb ρ _ _ (fun y q => h x y _ _ f q) q.2⟩) q
theorem mth2 {r : V → List V → Hp → VK → Prop} {k : K2} (ha : RE X e M a ta) (hb : RE X e M b tb) (hs : Says2 X (fun x y H Q => r x [y] H Q) k) : ∀ σ H Q, rdE X.K e M (tMth k ta tb) σ H Q → tM1 r (rdR X.K e M ta) (rdR X.K e M tb) σ H Q := fun σ H Q ⟨g, F, ρ, sr, q⟩ =>
  ⟨g, F, ρ, sr, ha.mono ρ _ _ (fun dx hx F1 H1 x s1 rx => by
    obtain ⟨⟨z, rfl⟩, hx⟩ := hx
    exact ⟨⟨z, rx.str⟩, g, F1, ρ, sr.step s1, hb.mono ρ _ _ (fun dy hy F2 H2 y s2 ry =>
      hs g F2 H2 _ dy x y Q _ (s2.bs (s1.bs sr.bs)) (rx.step s2) ry hy fun d F' H' v q s3 rv => q F' H' v ((s1.trans s2).trans s3) rv) hx⟩) q⟩
theorem de_join (ha : RE X e M a ta) (hb : RE X e M b tb) (hs : starEach [b] X.env = [(false, eval b X.env)] := by rfl) (hbase : attributeBase a "join" X.env (eval a X.env) = eval a X.env := by rfl) (hline : (p1.endLine == pos.line) = true := by rfl) :
    DE X e M (.Call (.Attribute a "join" p1) [b] [] pos) (tMth kJoinT ta tb) :=
  ⟨pe_imp (pe_join ha.pe hb.pe hs hbase hline) (mth2 ha hb (by
    intro g F H dx dy x y Qv q bs rx ry hk k
    obtain ⟨z, ys, rfl, rfl, h3, hk⟩ := hk
    obtain rfl := rx.str
    obtain ⟨l, vs, rfl, hp, m, rl⟩ := ry.lst bs
    rw [RpL.strs_inv rl] at hp
    exact ⟨z, l, ys, rfl, rfl, .inl (.inl (.inl hp)), h3, k _ F H _ hk bs.refl rfl⟩)), tMth_mono kJoinT_mono ha.mono hb.mono⟩
theorem de_split (ha : RE X e M a ta) (hb : RE X e M b tb) (hs : starEach [b] X.env = [(false, eval b X.env)] := by rfl) (hbase : attributeBase a "split" X.env (eval a X.env) = eval a X.env := by rfl) (hline : (p1.endLine == pos.line) = true := by rfl) :
    DE X e M (.Call (.Attribute a "split" p1) [b] [] pos) (tMth kSplit ta tb) :=
  ⟨pe_imp (pe_split ha.pe hb.pe hs hbase hline) (mth2 ha hb (by
    intro g F H dx dy x y Qv q bs rx ry hk k
    obtain ⟨z, c, rfl, rfl, h1, h2, hk⟩ := hk
    obtain rfl := rx.str
    obtain rfl := ry.str
    exact ⟨z, c, rfl, rfl, h1, h2, fun l hn => k _ (upd F l _) _ _ hk (bs.alloc hn _) ⟨l, _, rfl, upd_same, RpL.strs _⟩⟩)), tMth_mono kSplit_mono ha.mono hb.mono⟩
theorem de_starts (ha : RE X e M a ta) (hb : RE X e M b tb) (hs : starEach [b] X.env = [(false, eval b X.env)] := by rfl) (hbase : attributeBase a "startswith" X.env (eval a X.env) = eval a X.env := by rfl) (hline : (p1.endLine == pos.line) = true := by rfl) :
    DE X e M (.Call (.Attribute a "startswith" p1) [b] [] pos) (tMth kStarts ta tb) :=
  ⟨pe_imp (pe_m1 F.slot_str_startswith F.type_str_startswith mt_startswith ha.pe hb.pe hs hbase hline) (mth2 ha hb (by
    intro g F H dx dy x y Qv q bs rx ry hk k
    obtain ⟨z, c, rfl, rfl, hk⟩ := hk
    obtain rfl := rx.str
    obtain rfl := ry.str
    exact ⟨z, c, rfl, rfl, k _ F H _ hk bs.refl rfl⟩)), tMth_mono kStarts_mono ha.mono hb.mono⟩
/-- x in y, texts -/
def kInS : K2 := fun x y Q => ∃ (i j : Str), x = .str i ∧ y = .str j ∧ Q (.bool (!(Builtin.Str.occurrences j i 0 j.length 1).isEmpty))
theorem kInS_mono : Mono2 kInS := fun x y Q Q' f ⟨z, ys, h1, h2, q⟩ => ⟨z, ys, h1, h2, f _ q⟩
theorem de_inS (ha : RE X e M a ta) (hb : RE X e M b tb) (hm : behindInMarks .In b = false := by rfl) : DE X e M (.Compare a [.In] [b] pos) (t2 kInS ta tb) := de_cmp op_in_str (by
    intro g F H dx dy x y Qv q bs rx ry hk k
    obtain ⟨z, c, rfl, rfl, hk⟩ := hk
    obtain rfl := rx.str
    obtain rfl := ry.str
    exact ⟨z, c, rfl, rfl, k _ F H _ hk bs.refl rfl⟩) kInS_mono ha hb hm
/-- x[lo:hi] of a text -/
def tSlS (ta : DT) (tl th : DO) : DT := fun ρ Q => ta ρ fun d => tl ρ fun lo => th ρ fun hi => match d with | .str z => z.length ≤ sizeLine ∧ Q (.str (cutS z lo hi)) | _ => False
theorem de_sliceS {lo hi : Option Expr} {tl th : DO} {p2 : Pos} (ha : RE X e M a ta) (hl : DPo X e M lo tl) (hh : DPo X e M hi th) : DE X e M (.Subscript a (.Slice lo hi none p2) pos) (tSlS ta tl th) :=
  ⟨pe_imp (pe_slice sl_str ha.pe hl.po hh.po) fun σ H Q ⟨g, F, ρ, sr, q⟩ => ⟨g, F, ρ, sr, ha.mono ρ _ _ (fun d hd F1 H1 v s1 rv => ⟨g, F1, ρ, sr.step s1, hl.mono ρ _ _ (fun lo hd F2 H2 s2 => ⟨g, F2, ρ, (sr.step s1).step s2, hh.mono ρ _ _ (fun hi hd F3 H3 s3 => by
    have s := (s1.trans s2).trans s3
    split at hd
    · exact ⟨_, rv.str, hd.1, hd.2 F3 H3 _ s rfl⟩
    · exact hd.elim) hd⟩) hd⟩) q⟩, fun ρ Q Q' f q => ha.mono ρ _ _ (fun d q => hl.mono ρ _ _ (fun lo q => hh.mono ρ _ _ (fun hi q => by
    split at q
    · exact ⟨q.1, f _ q.2⟩
    · exact q.elim) q) q) q⟩
/-- the signs of a text -/
def sgD (z : Str) : List D := z.cps.toList.map fun c => PyData.str ⟨#[c]⟩
theorem wk_str {K : PySem.W.Frag} {F : Hp} {z : Str} : Wk K (Its z) (sgD z) F := fun g F' H' bs l i => by
  have hl : (sgD z).length = z.cps.size := by simp [sgD]
  refine ⟨fun h => ⟨by show i < z.cps.size; omega, fun x H2 y => ?_⟩, fun h => by show z.cps.size ≤ i; omega⟩
  obtain ⟨e1, c, e2, e3⟩ := y
  subst e1 e3
  refine ⟨F', bs.refl, fun d hd => ?_⟩
  unfold sgD at hd
  rw [List.getElem?_map, Array.getElem?_toList, e2] at hd
  cases hd
  rfl
def tStrI (t : DT) : DA := fun ρ Q => t ρ fun d => match d with | .str z => Q (sgD z) | _ => False
theorem di_str {tg : Expr} (ha : RE X e M a ta) : DI X e M tg a (tStrI ta) :=
  ⟨pi_imp (pi_str ha.pe) fun σ H R ⟨g, F, ρ, s, q⟩ => ⟨g, F, ρ, s, ha.mono ρ _ _ (fun d hd F' H' v t r => by
    split at hd
    · exact ⟨_, r.str, hd F' H' _ t wk_str⟩
    · exact hd.elim) q⟩, fun ρ Q Q' f q => ha.mono ρ _ _ (fun d q => by
    split at q
    · exact f _ q
    · exact q.elim) q⟩
theorem de_gstr {y : Str} {i : Str} {u : Value} (hg : Gl X y) (hm : X.mg y = some u) (r : RelV (.str i) u) (hd : (y == ("__debug__" : Str)) = false := by decide) : DE X e M (.Name y pos) (tK (.str i)) := de_con (pe_glob hg hm r hd) fun _ => rfl
end
/-! ### f(k = v) -/
/-- a def that may be called by its one name -/
structure ClW (P : Program) (w : World) (K : PySem.W.Frag) (mg : Str → Option Value) (base : Heap) (k : Nat) (x y : Str) (kf : KF) : Prop where
  ex : ∃ f fd, mg x = some (.ref f) ∧ PySem.W.keepIn K (.ref f) = true ∧ (∀ (s : Shared) (u : Value), K.In s.heap → BindsTo s fd ⟨[], [(y, u)]⟩ [(y, u)]) ∧ FnG P w K mg base CX0 k f fd [y] (spD K [.val] kf)
  mo : MonoC kf
section
variable {X : Cx} {e : Ent} {M : List Md} {a : Expr} {ta : DT} {pos p kpos : Pos}
theorem clW {k : Nat} {y z : Str} {kf : KF} (C : ClW X.prog X.w X.K X.mg X.base k y z kf) (hr : Room k X.A) (hgd : X.A.guards = some []) (ha : DE X e M a ta)
    (hg : Gl X y := by rfl) (hdb : (y == ("__debug__" : Str)) = false := by decide) (hall : (backToKw pos (keywordEach [⟨some z, a, kpos⟩] X.env)).all (·.1.isSome) = true := by rfl) (hks : (backToKw pos (keywordEach [⟨some z, a, kpos⟩] X.env)).filterMap (·.1) = [z] := by rfl)
    (hpl : ((backTo pos (starEach [] X.env)).any (·.1) || (backToKw pos (keywordEach [⟨some z, a, kpos⟩] X.env)).any (·.1.isNone)) = false := by rfl) : DE X e M (.Call (.Name y p) [] [⟨some z, a, kpos⟩] pos) (tCl kf (tConsA ta tNilA)) := by
  obtain ⟨f, fd, h1, h2, h3, h4⟩ := C.ex
  refine ⟨⟨fun pins s σ H Q I h => ?_⟩, tCl_mono C.mo (fun ρ Q Q' f q => ha.mono ρ _ _ (fun x q => f _ q) q)⟩
  obtain ⟨g, F, ρ, sr, q⟩ := h
  refine wpAny_Call_Name_kw (ld_glob I hg h1 ?_ hdb)
  refine PySem.W.callWith_KW0 (h₀ := X.base) I.ok.mod.kin h2 hall (thn ((pk_cons ha.pe pk_nil).run pos pins s σ H (fun zs H2 => spD X.K [.val] kf zs H2 Q (fun _ _ _ => False)) I ?_) fun us s1 ⟨vs, H1, I1, r, q⟩ => ⟨I1.kIn, ?_⟩) hpl
  · refine ⟨g, F, ρ, sr, ha.mono ρ _ _ (fun d hd F1 H1 v s1 rv => ?_) q⟩
    exact ⟨g, F1, [d], s1.bs sr.bs, ⟨d, [], v, [], rfl, rfl, rv, rfl, rfl⟩, C.mo _ _ _ (fun d hq F2 H2 v s2 r2 => hq F2 H2 v (s1.trans s2) r2) hd⟩
  · rw [hks]
    have l1 : vs.length = 1 := h4.len _ _ _ _ q
    have l2 : us.length = 1 := by rw [← r.length]; exact l1
    match us, l2 with
    | [u], _ =>
      refine wpAny_call (codeAny_mono (h4.go X.A X.stack s1 H1 ⟨[], [(z, u)]⟩ [u] vs Q _ hr hgd I1.env0 (h3 s1 u I1.kIn) r q) ?_)
      intro res s' hq
      match res, hq with
      | .error e, hq => exact pass0 pins σ H1 s1 e s' I1 hq
      | .ok (.ret u), hq => exact I1.after hq
      | .ok .next, hq => exact False.elim hq
      | .ok .brk, hq => exact False.elim hq
      | .ok .cont, hq => exact False.elim hq
end
/-- a def that stands behind the top, and may be called by its one name -/
structure HdW (K : PySem.W.Frag) (mg : Str → Option Value) (x y : Str) (st : Stmt) : Prop where
  ex : ∃ f fd, Fun K x x st f fd ∧ (∀ (s : Shared) (u : Value), BindsTo s fd ⟨[], [(y, u)]⟩ [(y, u)]) ∧ mg x = some (.ref f)
section
variable {P : Program} {w : World} {K : PySem.W.Frag} {mg : Str → Option Value} {base : Heap}
theorem clDW {x y : Str} {st : Stmt} {N : List Str} {M : List Md} {k : Nat} {kf : KF} (h : HdW K mg x y st) (S : FnScope N [y] (defScope st)) (mo : MonoC kf)
    (hM : M.take 1 = [.val]) (hp : ([.val] : List Md).all Md.par = true) (hms : ([.val] : List Md).length = [y].length) (hn : [y].length ≤ N.length)
    (bd : ∃ t : DTS, (∀ (f : Addr) (cdv : Value) (A : Around) (outer : List Env) (s : Shared) (H : Hp) (E : XK) (e : Ent), Room k (A.deeper (envOfC x (defScope st) s.heap.objs.size f cdv)) → (A.deeper (envOfC x (defScope st) s.heap.objs.size f cdv)).guards = some [] →
      DSs (cxOf CX0 P w K mg base N x (defScope st) f cdv A outer s H E).nox e M (defBody st) t) ∧
      (∀ ds (Q : D → Prop), kf ds Q → t { nx := fun _ => Q .none, rt := Q } (startD N.length ds))) (hso : soloM M = true := by rfl) : ClW P w K mg base (k + 1) x y kf := by
  obtain ⟨f, fd, F, b, m⟩ := h.ex
  obtain ⟨t, d, sp⟩ := bd
  exact ⟨⟨f, fd, m, F.kp, fun s u _ => b s u, fnD F S hM hp hms hn hso (fun cdv A outer s H E e hr hg => d f cdv A outer s H E e hr hg) sp⟩, mo⟩
end
end PP

set_option Elab.async false
set_option linter.all false
set_option maxRecDepth 100000
set_option maxHeartbeats 4000000
namespace PP
open PySem PySem.Spec PyProof.Rows L2
/-! ### a written dict from texts to ints -/
def tabD (tab : List (Str × Int)) : List (D × D) := tab.map fun p => (.str p.1, .int p.2)
theorem rpK_tab {K : PySem.W.Frag} {H : Hp} : ∀ tab : List (Str × Int), RpK K H (tabD tab) (kvsOf tab)
  | [] => rfl
  | p :: tab => ⟨Sum.inr p.1, V.int p.2, kvsOf tab, rfl, rfl, rfl, rpK_tab tab⟩
theorem dGet_tab (z : Str) : ∀ tab : List (Str × Int), dGet (tabD tab) (Sum.inr z) = (tabFind tab z).map PyData.int
  | [] => rfl
  | p :: tab => by
    have ih := dGet_tab z tab
    unfold tabFind at ih ⊢
    show (if (some (Sum.inr p.1) : Option Key) = some (Sum.inr z) then some (PyData.int p.2) else dGet (tabD tab) (Sum.inr z)) = _
    by_cases c : p.1 = z
    · rw [if_pos (by rw [c]), List.find?_cons_of_pos (by simpa using c)]
      rfl
    · rw [if_neg (fun h => c (Sum.inr.inj (Option.some.inj h))), ih, List.find?_cons_of_neg (by simpa using c)]
section
variable {X : Cx} {e : Ent} {M : List Md} {a b : Expr} {xs : List Expr} {tA : DA} {ta tb : DT} {pos p p1 p2 p3 : Pos} {tab : List (Str × Int)}
theorem de_dispI {keys : List (Option Expr)} {values : List Expr} (h : PPs X pos keys values (pairTr tab)) (hall : keys.all (·.isSome) = true := by rfl) (hl : keys.length = values.length := by rfl) (h0 : keys ≠ [] := by exact fun z => nomatch z)
    (h15 : keys.length ≤ 15 := by decide) (h16 : tab.length ≤ 15 := by decide) (hM : mergeK [] (kvsOf tab) = kvsOf tab := by rfl) : DE X e M (.Dict keys values pos) (tK (.dict (tabD tab))) :=
  ⟨pe_imp (pe_disp h hall hl h0 h15) fun σ H Q ⟨g, F, ρ, sr, q⟩ => fun pd hp => by
    refine tPairs_con tab σ _ _ ⟨upd_same, kvsOf tab, by simp [kvsOf, kV], by simpa [kvsOf] using h16, ?_⟩
    rw [upd_upd, hM]
    have fp := sr.bs.sub.none hp
    have st : Stp g F H (upd F pd (.dK (kvsOf tab))) (upd H pd (.dK (kvsOf tab))) := (sr.bs.hide hp _).freeze hp fp upd_same
    exact q _ _ _ st ⟨pd, _, rfl, upd_same, rpK_tab tab⟩, fun ρ Q Q' f q => f _ q⟩
/-! ### the sign at a place of a text -/
def kIxS : K2 := fun x y Q => ∃ (z : Str) (i : Int) (c : Nat), x = .str z ∧ y = .int i ∧ z.length ≤ sizeLine ∧ atI z.cps.toList i = some c ∧ Q (.str ⟨#[c]⟩)
theorem kIxS_mono : Mono2 kIxS := fun x y Q Q' f ⟨z, i, c, h1, h2, h3, h4, q⟩ => ⟨z, i, c, h1, h2, h3, h4, f _ q⟩
theorem says_ixS : Says2 X rIxS kIxS := by
  intro g F H dx dy x y Qv q bs rx ry hk k
  obtain ⟨z, i, c, rfl, rfl, h3, h4, hk⟩ := hk
  exact ⟨z, i, c, rx.str, ry.int, h3, h4, k _ F H _ hk bs.refl rfl⟩
theorem de_itemS (ha : RE X e M a ta) (hb : RE X e M b tb) (hp : PlainIx b) : DE X e M (.Subscript a b pos) (t2 kIxS ta tb) := de_ix ix_str says_ixS kIxS_mono ha hb hp
/-! ### not in, texts -/
def kNotInS : K2 := fun x y Q => ∃ (i j : Str), x = .str i ∧ y = .str j ∧ Q (.bool (!(!(Builtin.Str.occurrences j i 0 j.length 1).isEmpty)))
theorem kNotInS_mono : Mono2 kNotInS := fun x y Q Q' f ⟨z, ys, h1, h2, q⟩ => ⟨z, ys, h1, h2, f _ q⟩
theorem dc_notInS (ha : RE X e M a ta) (hb : RE X e M b tb) (hm : behindInMarks .NotIn b = false := by rfl) : DC X e M (.Compare a [.NotIn] [b] pos) (tTst (t2 kNotInS ta tb)) := dc_cmp op_notIn_str (by
  intro g F H dx dy x y Qv q bs rx ry hk k
  obtain ⟨i, j, rfl, rfl, hk⟩ := hk
  exact ⟨i, j, rx.str, ry.str, k _ F H _ hk bs.refl rfl⟩) kNotInS_mono ha hb hm
/-! ### in, any values -/
theorem says_inD : Says2 X (rInD X.K) (kInD id) := by
  intro g F H dx dy x y Qv q bs rx ry hk k
  unfold kInD at hk
  split at hk
  · obtain ⟨⟨s1, s2⟩, hk⟩ := hk
    exact ⟨dx, _, (rx.now bs).dp _ _ (shaped_noDict s1), (ry.now bs).dp _ _ (shaped_noDict s2), s1, s2, k _ F H _ hk bs.refl rfl⟩
  · exact hk.elim
theorem dc_inD (hu : X.A.units + 65 < cLine) (ha : RE X e M a ta) (hb : RE X e M b tb) (hm : behindInMarks .In b = false := by rfl) : DC X e M (.Compare a [.In] [b] pos) (tTst (t2 (kInD id) ta tb)) := dc_cmp (op_inD hu) says_inD kInD_mono ha hb hm
/-- xs.index(k), any values -/
def tIdxD (ta tb : DT) : DT := fun ρ Q => ta ρ fun x => tb ρ fun y => ∃ (ds : List D) (j : Nat) (z : D), x = .list ds ∧ SeqAt.shaped (.list ds) = true ∧ SeqAt.shaped y = true ∧ ds[j]? = some z ∧ PyData.eqv z y = true ∧ (∀ (m : Nat) (z' : D), m < j → ds[m]? = some z' → PyData.eqv z' y = false) ∧ Q (.int (j : Nat))
theorem de_indexD (hu : X.A.units + 65 < cLine) (ha : DE X e M a ta) (hb : RE X e M b tb) (h1 : starEach [b] X.env = (false, eval b X.env) :: starEach [] X.env := by rfl)
    (hE : ∀ {to : TE} {t : TA}, PE X a to → PA X [b] t → PE X (.Call (.Attribute a "index" p1) [b] [] pos) (tBM X.K "list" (rIndexD X.K) to t) := by
      intro to t h h'; exact pe_bm PySem.F.plainAttrs_list PySem.F.slot_list_index PySem.F.type_list_index (mt_indexD (by first | assumption | exact Nat.lt_of_le_of_lt (Nat.add_le_add_left (by decide : 65 ≤ 80) _) (by assumption))) h h') :
    DE X e M (.Call (.Attribute a "index" p1) [b] [] pos) (fun ρ Q => ta ρ fun x => (∃ ds, x = .list ds) ∧ tIdxD (tK x) tb ρ Q) :=
  ⟨pe_imp (hE ha.pe (pa_cons hb.pe pa_nil h1)) fun σ H Q ⟨g, F, ρ, s, q⟩ => ⟨g, F, ρ, s, ha.mono ρ _ _ (fun dx hx F1 H1 x s1 rx => by
    obtain ⟨⟨ds, rfl⟩, hx⟩ := hx
    obtain ⟨p, vs, e0, hp, rl⟩ := (show ∃ a xs, x = V.ref a ∧ F1 a = some (.lst xs) ∧ RpL X.K F1 ds xs from rx)
    subst e0
    refine ⟨.inl ⟨rfl, vs, .inl (.inl ((s1.bs s.bs).sub _ _ hp))⟩, g, F1, ρ, s.step s1, hb.mono ρ _ _ (fun dy hy F2 H2 y s2 ry => ?_) hx⟩
    obtain ⟨ds', j, z, e1, h2, h3, h4, h5, h6, hq⟩ := hy
    cases e1
    have bs2 := s2.bs (s1.bs s.bs)
    exact ⟨p, y, dy, ds, j, z, rfl, rfl, ((show RdR X.K g F2 H2 (.list ds) (.ref p) from .inl (rx.mono s2.mono)).now bs2).dp _ _ (shaped_noDict h2), (ry.now bs2).dp _ _ (shaped_noDict h3), h2, h3, h4, h5, h6, hq F2 H2 _ (s1.trans s2) rfl⟩) q⟩, fun ρ Q Q' f q => ha.mono ρ _ _ (fun x ⟨h, q⟩ => ⟨h, hb.mono ρ _ _ (fun y ⟨ds, j, z, h1, h2, h3, h4, h5, h6, q⟩ => ⟨ds, j, z, h1, h2, h3, h4, h5, h6, f _ q⟩) q⟩) q⟩
/-- int(b), b a truth value -/
def kIntB : KC := fun ds Q => ∃ b : Bool, ds = [.bool b] ∧ Q (.int (if b then 1 else 0))
theorem kIntB_mono : MonoC kIntB := fun ds Q Q' f ⟨b, h, q⟩ => ⟨b, h, f _ q⟩
theorem says_intB : SaysC X (fun xs H Q => (∃ i, xs = [.int i] ∧ Q (.int i) H) ∨ ∃ k, xs = [.bl k] ∧ Q (.int (if k then 1 else 0)) H) kIntB := by
  intro g F H ds vs Qv q bs rv hk k
  obtain ⟨b, rfl, hk⟩ := hk
  obtain ⟨v, rfl, r⟩ := rv.one
  have e : v = V.bl b := r.rp rfl
  exact .inr ⟨b, by rw [e], k _ F H _ hk bs.refl rfl⟩
theorem de_intB (hg : Gl X "int") (hm : X.mg "int" = none) (ha : AR X e M (a :: xs) tA) (he : starEach (a :: xs) X.env = (false, eval a X.env) :: starEach xs X.env := by rfl) (hpl : (backTo pos (starEach xs X.env)).any (·.1) = false := by rfl) :
    DE X e M (.Call (.Name "int" p) (a :: xs) [] pos) (tCl kIntB tA) := de_callT call_int1 says_intB kIntB_mono hg hm (by decide +kernel) ha (he := he) (hpl := hpl)
end
/-! ### join of what draws -/
section
variable {S : Type} {X : Cx} {c : EC} {fm : Fam S} {M : List Md} {a b : Expr} {ta tb : ZT S D} {pos p1 : Pos}
def zMth (k : K2) (ta tb : ZT S D) : ZT S D := fun ρ s Q => ta ρ s fun x s1 => (∃ z, x = .str z) ∧ tb ρ s1 fun y s2 => k x y fun d => Q d s2
theorem zmth2 {r : V → List V → Hp → VK → Prop} {k : K2} (ha : ZR X c fm M a ta) (hb : ZR X c fm M b tb) (hs : Says2 X (fun x y H Q => r x [y] H Q) k) : ∀ σ H Q, zE X.K c fm M (zMth k ta tb) σ H Q → tM1 r (zR X.K c fm M ta) (zR X.K c fm M tb) σ H Q := fun σ H Q ⟨s, F, ρ, sr, q⟩ =>
  ⟨s, F, ρ, sr, ha.mono _ _ _ _ (fun dx s1 hx F1 H1 x u1 rx => by
    obtain ⟨⟨z, rfl⟩, hx⟩ := hx
    exact ⟨⟨z, rx.str⟩, s1, F1, ρ, SS.step sr u1, hb.mono _ _ _ _ (fun dy s2 hy F2 H2 y u2 ry =>
      hs (fm.rg s2) F2 H2 _ dy x y Q _ (Bs.stepZ (Bs.stepZ sr.bs u1) u2) (RdR.stepZ u2 rx) ry hy fun d F' H' v q u3 rv => q F' H' v (Stp.transZ (Stp.transZ u1 u2) u3) rv) hx⟩) q⟩
theorem z_join (ha : ZR X c fm M a ta) (hb : ZR X c fm M b tb) (hs : starEach [b] X.env = [(false, eval b X.env)] := by rfl) (hbase : attributeBase a "join" X.env (eval a X.env) = eval a X.env := by rfl) (hline : (p1.endLine == pos.line) = true := by rfl) :
    ZE X c fm M (.Call (.Attribute a "join" p1) [b] [] pos) (zMth kJoinT ta tb) :=
  ⟨pe_imp (pe_join ha.pe hb.pe hs hbase hline) (zmth2 ha hb (by
    intro g F H dx dy x y Qv q bs rx ry hk k
    obtain ⟨z, ys, rfl, rfl, h3, hk⟩ := hk
    obtain rfl := rx.str
    obtain ⟨l, vs, rfl, hp, m, rl⟩ := ry.lst bs
    rw [RpL.strs_inv rl] at hp
    exact ⟨z, l, ys, rfl, rfl, .inl (.inl (.inl hp)), h3, k _ F H _ hk bs.refl rfl⟩)), fun ρ s Q Q' f q => ha.mono _ _ _ _ (fun x s1 q => ⟨q.1, hb.mono _ _ _ _ (fun y s2 q => kJoinT_mono x y _ _ (fun d => f d s2) q) q.2⟩) q⟩
end
end PP

set_option Elab.async false
set_option linter.all false
set_option maxRecDepth 100000
set_option maxHeartbeats 4000000
namespace PP
open PySem PySem.Spec PyProof.Rows L2
/-! ### enumerate(list), its pairs with no dict -/
def ItL (K : PySem.W.Frag) (a : Addr) : It where
  go i H := ∃ xs x, SqL K H a xs ∧ xs[i]? = some x
  yld i H v H' := ∃ T x o, v = .ref T ∧ H T = none ∧ H' = upd H T (.frz o (.tup [.int (i : Nat), x])) ∧ (o.cls = Value.type "tuple" ∧ o.dict = none) ∧ ∀ xs, SqL K H a xs → xs[i]? = some x
  stop i H := ∃ xs, SqL K H a xs ∧ xs.length ≤ i
theorem turn_enL {P : Program} {w : World} {K : PySem.W.Frag} {elts : List Expr} {kk : Nat} {tpos : Pos} (a e it : Addr) :
    Turn P w K (.Tuple elts kk tpos) (ItL K a) [e, it] e (fun i h => (∃ old, IsEnum h e it ((i : Nat) : Int) old) ∧ h.IsListIter it a i ∧ e ≠ it) where
  mem := (turn_enum (P := P) (w := w) (K := K) (elts := elts) (kk := kk) (tpos := tpos) a e it).mem
  obj := (turn_enum (P := P) (w := w) (K := K) (elts := elts) (kk := kk) (tpos := tpos) a e it).obj
  keep := (turn_enum (P := P) (w := w) (K := K) (elts := elts) (kk := kk) (tpos := tpos) a e it).keep
  done := (turn_enum (P := P) (w := w) (K := K) (elts := elts) (kk := kk) (tpos := tpos) a e it).done
  self := (turn_enum (P := P) (w := w) (K := K) (elts := elts) (kk := kk) (tpos := tpos) a e it).self
  item := by
    rintro X rfl rfl rfl hc i pins s σ H E I free ⟨⟨old, isE⟩, isI, ne⟩ ⟨xs, x, sq, at_⟩
    have szE := Heap.lt_size isE
    have szI : it < s.heap.objs.size := by obtain ⟨_, q, _⟩ := isI; exact Heap.lt_size q
    obtain ⟨its, rv, lst, _⟩ := I.list sq
    obtain ⟨u, atu, ru⟩ := rv.get at_
    refine wpAny_pyNext_enum_item isE isI lst.isList (x := u) (by simpa using atu) ne fun h1 own1 it1 new1 _ same1 => ?_
    refine ⟨_, rfl, wpAny_letOwnedTupleGo_enum (s := { s with heap := h1, toks := s.toks + 1 }) own1 fun h2 own2 same2 => ?_⟩
    have at2 := (same2.2 _ (Nat.ne_of_gt szE)).trans new1
    have cell : ObjOk X.prog X.w (upd H s.heap.objs.size (.frz { cls := .type "tuple", data := .seq #[.int i s.toks, u] } (.tup [.int (i : Nat), x]))) h2 s.heap.objs.size (.frz { cls := .type "tuple", data := .seq #[.int i s.toks, u] } (.tup [.int (i : Nat), x])) :=
      ⟨at2, by show 2 ≤ sizeLine; decide, [.int i s.toks, u], .cons ⟨_, rfl⟩ (.cons ru .nil), ⟨_, at2, rfl, _, rfl⟩⟩
    have I2 : Inv X pins σ _ { s with heap := h2, toks := s.toks + 1 } := I.turnedNew (ch := [e, it]) (fun b ob out q => by
      have b1 : b ≠ e := fun z => out (by simp [z])
      have b2 : b ≠ it := fun z => out (by simp [z])
      exact (same2.2 b b1).trans (same1 b ob b1 b2 q)) free (Nat.le_refl _) cell
    refine ⟨.ref s.heap.objs.size, _, I2, rfl, ⟨_, x, _, rfl, I.hok.fresh (Nat.le_refl _), rfl, ⟨rfl, rfl⟩, fun ys sq2 => ?_⟩, ⟨⟨u, ?_⟩, ?_, ne⟩, fun b hb => ?_⟩
    · rw [I.list_inj sq2 sq]; exact at_
    · have up : ((i + 1 : Nat) : Int) = (i : Int) + 1 := by omega
      rw [up]; exact own2
    · exact it1.at fun o q => (same2.2 it (Ne.symm ne)).trans q
    · have below : b < s.heap.objs.size := by
        rcases List.mem_cons.mp hb with z | z
        · rw [z]; exact szE
        · rw [List.mem_singleton.mp z]; exact szI
      rw [upd_ne (Nat.ne_of_lt below)]
      exact (free b hb).1
section
variable {X : Cx} {e : Ent} {M : List Md} {a : Expr} {ta : DT} {p pos tpos : Pos} {elts : List Expr} {kk : Nat}
def iEnL (K : PySem.W.Frag) (ta : TA) : TI := fun σ H R => ta σ H fun vs H1 => ∃ b xs, vs = [.ref b] ∧ SqL K H1 b xs ∧ R (ItL K b) H1
theorem pi_enL {tA : TA} (hg : Gl X "enumerate") (hm : X.mg "enumerate" = none) (ha : PA X [a] tA) (hs : starEach [a] X.env = [(false, eval a X.env)] := by rfl) :
    PI X (.Tuple elts kk tpos) (.Call (.Name "enumerate" p) [a] [] pos) (iEnL X.K tA) := by
  constructor
  intro pins s σ H R I h
  refine Call_ (ld_blt I hg hm boot_enumerate (PyProof.Rows.callWith_type1 (thn (ha.run pos pins s σ H _ I h) ?_) hs rfl))
  rintro us s1 ⟨vs, H1, I1, r1, b, xs, rfl, hq, q⟩
  obtain rfl := r1.ref1
  have up : ∀ b, b ∈ [s1.heap.objs.size + 1, s1.heap.objs.size] → s1.heap.objs.size ≤ b := fun b hb => by
    rcases List.mem_cons.mp hb with z | z
    · rw [z]; exact Nat.le_add_right _ _
    · rw [List.mem_singleton.mp z]; exact Nat.le_refl _
  obtain ⟨its, rv, lst, hz⟩ := I1.list hq
  refine call_enumerate_list lst.isList fun h' isE isI _ kept => wpAny_pyIter_enum isE ?_
  exact ⟨_, _, _, _, H1, rfl, I1.kept (t' := s1.toks) kept, turn_enL b (s1.heap.objs.size + 1) s1.heap.objs.size, ⟨⟨.none, isE⟩, isI, Nat.succ_ne_self _⟩,
    fun b hb => I1.fpOk (up b hb) (I1.hok.fresh (up b hb)), q⟩
theorem wk_enLL {K : PySem.W.Frag} {F : Hp} {a : Addr} {xs : List V} {ds : List D} (h : F a = some (.lst xs)) (r : RpL K F ds xs) : Wk K (ItL K a) (enD ds) F := fun g F' H' bs l i => by
  have hq : SqL K H' a xs := .inl (.inl (bs.sub _ _ (l _ _ h)))
  have hl := r.length
  rw [enD_len]
  refine ⟨fun hi => ?_, fun hi => ⟨xs, hq, by omega⟩⟩
  have hx : i < xs.length := by omega
  refine ⟨⟨xs, xs[i], hq, by simp [hx]⟩, fun v H2 ⟨T, x, o, e1, nT, e2, oc, y⟩ => ?_⟩
  subst e1 e2
  refine ⟨upd F' T (.frz o (.tup [.int (i : Nat), x])), bs.alloc nT _, fun d hd => ?_⟩
  obtain ⟨z, h1, rfl⟩ := enD_get hd
  obtain ⟨v, h2, h3⟩ := (r.mono l).get h1
  have := y xs hq
  rw [h2] at this; cases this
  exact ⟨T, _, rfl, FrT.new oc.1 oc.2, _, _, rfl, rfl, _, _, rfl, h3.mono (.new (bs.sub.none nT)), rfl⟩
def tEnL (t : DT) : DA := fun ρ Q => t ρ fun d => match d with | .list ds => Q (enD ds) | _ => False
theorem di_enumL (hg : Gl X "enumerate") (hm : X.mg "enumerate" = none) (ha : DE X e M a ta) (hs : starEach [a] X.env = [(false, eval a X.env)] := by rfl) : DI X e M (.Tuple elts kk tpos) (.Call (.Name "enumerate" p) [a] [] pos) (tEnL ta) :=
  ⟨pi_imp (pi_enL hg hm (pa_cons ha.pe pa_nil hs) hs) fun σ H R ⟨g, F, ρ, s, q⟩ => ⟨g, F, ρ, s, ha.mono ρ _ _ (fun d hd F' H' v t r => by
    split at hd
    · obtain ⟨p, vs, rfl, hp, rl⟩ := r
      exact ⟨p, vs, rfl, .inl (.inl ((t.bs s.bs).sub _ _ hp)), hd F' H' _ t (wk_enLL hp rl)⟩
    · exact hd.elim) q⟩, fun ρ Q Q' f q => ha.mono ρ _ _ (fun d q => by
    split at q
    · exact f _ q
    · exact q.elim) q⟩
end
end PP

set_option Elab.async false
set_option linter.all false
set_option maxRecDepth 100000
set_option maxHeartbeats 4000000
namespace PP
open PySem PySem.Spec PyProof.Rows L2
/-! ### errors as values -/
section
variable {X : Cx}
/-- what makes an error to be raised makes one to be kept -/
theorem pe_ofMk {e : Expr} {t : L2.St → Hp → XK → Prop} (h : PMk X e t) : PE X e (fun σ H Q => t σ H fun cls d H' => ∀ a, H' a = none → Q (.ref a) (upd H' a (ExV cls d a))) := by
  refine ⟨fun pins s σ H Q I q => wpAny_mono (h pins s σ H _ I q) (fun u s1 hu => ?_) fun _ _ x => x⟩
  obtain ⟨a, oe, vs, sI, H', cls, d, rfl, J, kp, new, at_, hz, hd, h1, na, os, ag, _, q⟩ := hu
  have ok : ObjOk X.prog X.w (upd H' a (ExV cls d a)) s1.heap a (ExV cls d a) := ⟨⟨oe, vs, at_, hz, hd⟩, ⟨oe, at_⟩, fun _ _ ⟨o, v, g, r⟩ k => ⟨o, v, k o g, r⟩⟩
  have I2 := J.laidN (t' := s1.toks) kp new na ok
  exact ⟨.ref a, _, ⟨I2.ok, os.trans J.os, ag, I2.base, I2.loc, I2.cell, I2.free, I2.freeC, I2.pin, I2.hok, I2.len⟩, rfl, q a na⟩
/-- isinstance of an error that is kept -/
def rIsV (K : PySem.W.Frag) : List V → Hp → VK → Prop := fun xs H Q => ∃ (a D : Addr) (o : Option Addr) (c : V) (cv : Value) (b : Bool), xs = [.ref a, c] ∧ H a = some (ExV (.ref D) o a) ∧ ExcC K D ∧ (∀ u, RelV c u → u = cv) ∧ PySem.W.kitOne K (.ref D) cv = some b ∧ (∀ dx, o = some dx → ∃ fs, H dx = some (.xd fs)) ∧ Q (.bl b) H
theorem call_isV : CallR X (.builtin "isinstance") (rIsV X.K) := by
  intro pins s σ H xs us Q I r h
  obtain ⟨a, D, o, c, cv, b, rfl, ha, C, hcv, e, ed, q⟩ := h
  obtain ⟨u1, u2, rfl, rx, rt⟩ : ∃ u1 u2, us = [u1, u2] ∧ RelV (.ref a) u1 ∧ RelV c u2 := by
    cases r with
    | cons rx rr =>
      cases rr with
      | cons rt rr => cases rr; exact ⟨_, _, rfl, rx, rt⟩
  cases rx
  have ec := hcv _ rt
  subst ec
  obtain ⟨⟨oe, vs, hget, ⟨hc, hd⟩, hv⟩, _, _⟩ := I.hok a _ ha
  have fin : ∀ tk, EP X pins σ Q (.bool b) { s with toks := tk } := fun tk => ⟨.bl b, H, I.kept (t' := tk) fun _ _ z => z, rfl, q⟩
  cases o with
  | none =>
    have J : PySem.W.InstAt s.heap a oe D none := by
      obtain ⟨oc, od, oda, osl⟩ := oe
      dsimp only at hc hd hv
      subst hc hd hv
      exact ⟨hget, rfl, rfl, trivial⟩
    exact PySem.W.kia_one (PySem.W.handS_kitx_exc C.hg C.hk C.hs C.hd C.ha C.hn C.ht C.hm) I.kIn J e (fun z => nomatch z) fin
  | some dx =>
    obtain ⟨fs, hx⟩ := ed dx rfl
    have hx : ObjOk X.prog X.w H s.heap dx (.xd fs) := I.hok dx _ hx
    obtain ⟨mA, hns, hr⟩ := hx
    obtain ⟨od, ho, hl⟩ := lookIn_ns hns
    have J : PySem.W.InstAt s.heap a oe D (some od) := ⟨hget, hc, by unfold PySem.W.notCls; rw [hv] <;> rfl, by rw [hd]; exact ho⟩
    have hcl : (PySem.W.clsIn X.K D).isSome = true := by
      obtain ⟨cd, hc, _⟩ := PySem.W.any_some C.hd
      rw [hc]; rfl
    exact PySem.W.kia_one (PySem.W.kitx_exc hcl C.hg C.hk C.hs C.ha C.hn C.ht C.hm) I.kIn J e (fun z => nomatch z) fin
/-- the field of an error that is kept -/
def tXV (K : PySem.W.Frag) (n : Str) (te : TE) : TE := fun σ H Q => te σ H fun x H1 => ∃ (a C dx : Addr) (fs : List (Str × V)) (v : V), x = .ref a ∧ XfC K C ∧ PySem.W.findIn K (.ref C) n = some none ∧ H1 a = some (ExV (.ref C) (some dx) a) ∧ H1 dx = some (.xd fs) ∧ fs.lookup n = some v ∧ Q v H1
theorem pe_xV {e : Expr} {te : TE} {pos : Pos} {n : Str} (he : PE X e te) (hb : attributeBase e n X.env (eval e X.env) = eval e X.env := by rfl) : PE X (.Attribute e n pos) (tXV X.K n te) := by
  refine ⟨fun pins s σ H Q I h => attr_of hb (thn (he.run pins s σ H _ I h) fun u s1 ⟨x, H1, I1, rx, a, C, dx, fs, v, ex, T, no, ha, hx, l, q⟩ => ?_)⟩
  subst ex
  cases rx
  obtain ⟨⟨oe, vs, hget, ⟨hc, hd⟩, hv⟩, _, _⟩ := I1.hok a _ ha
  have hx : ObjOk X.prog X.w H1 s1.heap dx (.xd fs) := I1.hok dx _ hx
  obtain ⟨mA, hns, hr⟩ := hx
  obtain ⟨od, ho, hl⟩ := lookIn_ns hns
  obtain ⟨u, hu, ru⟩ := RelO.some_of (v := v) (o := mA n) (by rw [← l]; exact hr n)
  have J : PySem.W.InstAt s1.heap a oe C (some od) := ⟨hget, hc, by unfold PySem.W.notCls; rw [hv] <;> rfl, by rw [hd]; exact ho⟩
  exact HandSPX.exc_get I1.kIn J T.ga T.gg T.exC (PySem.W.findObj_own T.hdC no rfl (by rw [hl, hu])) (handed_of ru) ⟨v, H1, I1.tok _, ru, q⟩
end
end PP

set_option Elab.async false
set_option linter.all false
set_option maxRecDepth 100000
set_option maxHeartbeats 4000000
namespace PP
open PySem PySem.Spec PyProof.Rows L2
/-! ### errors as values, as data: mode .ex -/
theorem ExL.length {K : PySem.W.Frag} {F : Hp} : ∀ {ds : List D} {vs : List V}, ExL K F ds vs → vs.length = ds.length
  | [], _, h => by have h : _ = [] := h; subst h; rfl
  | _ :: _, _, ⟨x, t, e, _, r⟩ => by subst e; simp [ExL.length r]
theorem ExL.append {K : PySem.W.Frag} {F : Hp} : ∀ {ds es : List D} {vs us : List V}, ExL K F ds vs → ExL K F es us → ExL K F (ds ++ es) (vs ++ us)
  | [], _, _, _, h, k => by have h : _ = [] := h; subst h; exact k
  | _ :: _, _, _, _, ⟨x, t, e, h, r⟩, k => by subst e; exact ⟨x, _, rfl, h, ExL.append r k⟩
theorem ExL.at {K : PySem.W.Frag} {F : Hp} : ∀ {ds : List D} {vs : List V}, ExL K F ds vs → ∀ {i : Nat} {d : D}, ds[i]? = some d → ∃ v, vs[i]? = some v ∧ Ex1 K F d v
  | [], _, _, i, d, q => by cases q
  | d0 :: ds, _, ⟨x, t, e, h, r⟩, 0, d, q => by subst e; cases q; exact ⟨x, rfl, h⟩
  | d0 :: ds, _, ⟨x, t, e, h, r⟩, i + 1, d, q => by subst e; exact ExL.at r q
theorem exD_inj {C C1 : Addr} {ks ks1 : List (Str × D)} (h : exD C ks = exD C1 ks1) : C = C1 ∧ (ks.map fun p : Str × D => ((.str p.1, p.2) : D × D)) = ks1.map fun p => (.str p.1, p.2) := by
  unfold exD at h
  rw [PyData.tuple.injEq, List.cons.injEq, List.cons.injEq, PyData.int.injEq, PyData.dict.injEq] at h
  exact ⟨Int.ofNat.inj h.1, h.2.1⟩
theorem atI_atV {xs : List V} {j : Nat} (h : j < xs.length) : L2.atI xs (j : Int) = some xs[j] := by
  have e : xs[j]? = some xs[j] := List.getElem?_eq_getElem h
  unfold L2.atI
  first
    | simp [ixN, h]
    | (split <;> simp_all)
theorem exD_ne {C : Addr} {ks : List (Str × D)} {ds : List D} : exD C ks ≠ .list ds := fun z => by unfold exD at z; cases z
section
variable {X : Cx} {e : Ent} {M ms : List Md} {a b : Expr} {xs : List Expr} {ta tb : DT} {tA tr : DA} {x f n : Str} {C : Addr} {p pos : Pos} {i : Nat}
/-- C(e), C with one field -/
theorem se_new1 (xc : XCl X.prog X.w X.K X.mg X.base x f C) (hr : Room 2 X.A) (ha : DE X e M a ta) (hg : Gl X x := by rfl)
    (hdb : (x == ("__debug__" : Str)) = false := by decide) (he : starEach [a] X.env = (false, eval a X.env) :: starEach [] X.env := by rfl) (hpl : (backTo pos (starEach [] X.env)).any (·.1) = false := by rfl) :
    SE X e M .ex (.Call (.Name x p) [a] [] pos) (fun ρ Q => ta ρ fun d => Q (exD C [(f, d)])) := by
  obtain ⟨fI, fd, i1, i2, i3, i4⟩ := xc.ini
  refine ⟨pe_imp (pe_ofMk (pmk_oex (dvs := []) xc.T i1 i2 i4 hr i3 .nil pass0 hg xc.mgC (pa_cons ha.pe pa_nil he) hdb he hpl)) fun σ H Q ⟨g, F, ρ, s, q⟩ => ⟨g, F, ρ, s, ha.mono ρ _ _ (fun x hx F1 H1 v t r => ⟨by show 1 ≤ 1000; decide, fun b hb => ?_⟩) q⟩, fun ρ Q Q' k q => ha.mono ρ _ _ (fun _ q => k _ q) q⟩
  refine ⟨b, v, rfl, xc.T, xc.nf, upd_same, fun dx h1 h2 => ?_⟩
  have hd1 : H1 dx = none := by rw [upd_ne h2] at h1; exact h1
  refine ⟨rfl, dx, [(f, v)], upd_same, by rw [upd_ne h2, upd_same], hd1, fun a2 n2 => ?_⟩
  rw [xd_heap hb h2] at n2 ⊢
  have s1 := s.step t
  have t2 := s1.bs.alloc hd1 (.xd [(f, v)])
  have t3 := (s1.step t2).bs.alloc n2 (ExV (.ref C) (some dx) a2)
  have ne : a2 ≠ dx := fun z => by rw [z, upd_same] at n2; cases n2
  exact hx _ _ _ ((t.trans t2).trans t3) (.inl ⟨a2, C, some dx, [(f, x)], rfl, rfl, upd_same, (fun z => nomatch z), fun dx' ed => by
    cases ed
    exact ⟨[(f, v)], by rw [upd_ne (Ne.symm ne), upd_same], v, [], rfl, r.mono (t2.mono.trans t3.mono), rfl⟩⟩)
/-- C(), C without fields -/
theorem se_new0 (he : PMk X a (fun _ H Q => Q (.ref C) none H)) : SE X e M .ex a (fun _ Q => Q (exD C [])) :=
  ⟨pe_imp (pe_ofMk he) fun σ H Q ⟨g, F, ρ, s, q⟩ b hb => q _ _ _ (s.bs.alloc hb _) (.inl ⟨b, C, none, [], rfl, rfl, upd_same, fun _ => rfl, fun _ z => nomatch z⟩), fun ρ Q Q' k q => k _ q⟩
/-- [C(..), ..] -/
structure XA (X : Cx) (e : Ent) (M : List Md) (xs : List Expr) (t : DA) : Prop where
  pa : PA X xs (fun σ H Q => ∃ g F ρ, SR X.K e M g F H σ ρ ∧ t ρ fun ds => ∀ F' H' vs, Stp g F H F' H' → ExL X.K F' ds vs → Q vs H')
  mono : Mono t
theorem xa_nil : XA X e M [] tNilA := ⟨pa_imp pa_nil fun σ H Q ⟨g, F, ρ, s, q⟩ => q F H [] s.bs.refl rfl, fun _ _ _ f q => f _ q⟩
/-- one error -/
def tEx1 (t : DT) : DT := fun ρ Q => t ρ fun d => (∃ C ks, d = exD C ks) ∧ Q d
theorem xa_cons (ha : SE X e M .ex a ta) (hr : XA X e M xs tr) (hs : starEach (a :: xs) X.env = (false, eval a X.env) :: starEach xs X.env := by rfl) : XA X e M (a :: xs) (tConsA (tEx1 ta) tr) :=
  ⟨pa_imp (pa_cons ha.pe hr.pa hs) fun σ H Q ⟨g, F, ρ, s, q⟩ => ⟨g, F, ρ, s, ha.mono ρ _ _ (fun d ⟨⟨C, ks, ed⟩, hd⟩ F1 H1 v s1 r1 => ⟨g, F1, ρ, s.step s1, hr.mono ρ _ _ (fun ds hq F2 H2 vs s2 r2 =>
    hq F2 H2 (v :: vs) (s1.trans s2) ⟨v, vs, rfl, by
      rcases r1 with r1 | ⟨p, vs, es, e1, e2, _⟩
      · exact r1.mono s2.mono
      · rw [ed] at e2; exact absurd e2 exD_ne, r2⟩) hd⟩) q⟩, fun ρ Q Q' f q => ha.mono ρ _ _ (fun x ⟨h, q⟩ => ⟨h, hr.mono ρ _ _ (fun xs q => f _ q) q⟩) q⟩
theorem se_lst (h : XA X e M xs tA) : SE X e M .ex (.List xs pos) (fun ρ Q => tA ρ fun ds => ds.length ≤ sizeLine ∧ Q (.list ds)) :=
  ⟨pe_imp (pe_lst h.pa) fun σ H Q ⟨g, F, ρ, s, q⟩ => ⟨g, F, ρ, s, h.mono ρ _ _ (fun ds hd F1 H1 vs t r => ⟨by rw [r.length]; exact hd.1, fun p hn =>
    hd.2 _ _ _ (t.trans ((t.bs s.bs).alloc hn _)) (.inr ⟨p, vs, ds, rfl, rfl, upd_same, r.mono (.new ((t.bs s.bs).sub.none hn))⟩)⟩) q⟩, fun ρ Q Q' f q => h.mono ρ _ _ (fun ds q => ⟨q.1, f _ q.2⟩) q⟩
/-- a slot of mode .ex -/
theorem xv (i : Nat) {y : Str} (hN : X.N[i]? = some y := by rfl) (hv : Vis X.env.scope y := by first | exact Or.inl rfl | exact Or.inr (Or.inl rfl) | exact Or.inr (Or.inr rfl)) (hm : md M i = .ex := by rfl) (hd : (y == ("__debug__" : Str)) = false := by decide) (hcd : (y == ("__classdict__" : Str)) = false := by decide) :
    SE X e M .ex (.Name y pos) (tV i) :=
  ⟨pe_imp (pe_var hN hv hd hcd) fun σ H Q ⟨g, F, ρ, sr, q⟩ => by
    unfold tV at q
    split at q
    · rename_i d hd
      obtain ⟨v, h1, h2⟩ := sr.slot i d hd
      rw [hm] at h2
      exact ⟨v, h1, q F H v sr.bs.refl h2⟩
    · exact q.elim, tV_mono i⟩
/-- xs[k] -/
theorem se_item (ha : SE X e M .ex a ta) (hb : DE X e M b tb) (hp : PlainIx b) : SE X e M .ex (.Subscript a b pos) (fun ρ Q => ta ρ fun dx => tb ρ fun dy => ∃ (ds : List D) (k : Nat) (d : D), dx = .list ds ∧ dy = .int (k : Int) ∧ ds[k]? = some d ∧ Q d) :=
  ⟨pe_imp (pe_ix ix_list ha.pe hb.pe hp) fun σ H Q ⟨g, F, ρ, s, q⟩ => ⟨g, F, ρ, s, ha.mono ρ _ _ (fun dx hx F1 H1 v t1 r1 => ⟨g, F1, ρ, s.step t1, hb.mono ρ _ _ (fun dy ⟨ds, k, d, e1, e2, e3, hq⟩ F2 H2 y t2 r2 => by
    subst e1 e2
    have ey : y = .int (k : Int) := r2
    subst ey
    rcases r1 with ⟨_, C, o, ks, _, ed, _⟩ | ⟨p, vs, es, e4, e5, hp, rl⟩
    · exact absurd ed.symm exD_ne
    · subst e4
      cases e5
      obtain ⟨v, hv, rv⟩ := rl.at e3
      have hk : k < vs.length := (List.getElem?_eq_some_iff.mp hv).1
      have t12 := t1.trans t2
      refine ⟨p, vs, (k : Int), v, rfl, rfl, .inl (.inl ((t12.bs s.bs).sub _ _ (t2.mono _ _ hp))), ?_, hq F2 H2 v t12 (.inl (rv.mono t2.mono))⟩
      rw [atI_atV hk, ← List.getElem?_eq_getElem hk]
      exact hv) hx⟩) q⟩, fun ρ Q Q' f q => ha.mono ρ _ _ (fun x q => hb.mono ρ _ _ (fun y ⟨ds, k, d, h1, h2, h3, q⟩ => ⟨ds, k, d, h1, h2, h3, f _ q⟩) q) q⟩
/-- xs + ys -/
theorem se_add (ha : SE X e M .ex a ta) (hb : SE X e M .ex b tb) : SE X e M .ex (.BinOp a .Add b pos) (fun ρ Q => ta ρ fun dx => tb ρ fun dy => ∃ ds es : List D, dx = .list ds ∧ dy = .list es ∧ ds.length + es.length ≤ sizeLine ∧ Q (.list (ds ++ es))) :=
  ⟨pe_imp (pe_op op_cat ha.pe hb.pe) fun σ H Q ⟨g, F, ρ, s, q⟩ => ⟨g, F, ρ, s, ha.mono ρ _ _ (fun dx hx F1 H1 x t1 r1 => ⟨g, F1, ρ, s.step t1, hb.mono ρ _ _ (fun dy ⟨ds, es, e1, e2, hz, hq⟩ F2 H2 y t2 r2 => by
    subst e1 e2
    rcases r1 with ⟨_, C, o, ks, _, ed, _⟩ | ⟨p1, vs1, es1, f1, f2, hp1, rl1⟩
    · exact absurd ed.symm exD_ne
    rcases r2 with ⟨_, C, o, ks, _, ed, _⟩ | ⟨p2, vs2, es2, f3, f4, hp2, rl2⟩
    · exact absurd ed.symm exD_ne
    subst f1 f3
    cases f2
    cases f4
    have t12 := t1.trans t2
    have bs := t12.bs s.bs
    refine ⟨p1, p2, vs1, vs2, rfl, rfl, bs.sub _ _ (t2.mono _ _ hp1), bs.sub _ _ hp2, by rw [rl1.length, rl2.length]; exact hz, fun p hn => ?_⟩
    exact hq _ _ _ (t12.trans (bs.alloc hn _)) (.inr ⟨p, _, _, rfl, rfl, upd_same, ((rl1.mono t2.mono).append rl2).mono (.new (bs.sub.none hn))⟩)) hx⟩) q⟩,
    fun ρ Q Q' f q => ha.mono ρ _ _ (fun x q => hb.mono ρ _ _ (fun y ⟨ds, es, h1, h2, h3, q⟩ => ⟨ds, es, h1, h2, h3, f _ q⟩) q) q⟩
/-- isinstance(x, C) -/
theorem de_isV {K : PySem.W.Frag} (hK : X.K = K) {cv : Value} {vc : V} (ha : SE X e M .ex a ta) (hc : PE X b (tC vc)) (hv : ∀ u, RelV vc u → u = cv) (hg : Gl X "isinstance") (hm : X.mg "isinstance" = none)
    (hs1 : starEach [a, b] X.env = (false, eval a X.env) :: starEach [b] X.env := by rfl) (hs2 : starEach [b] X.env = (false, eval b X.env) :: starEach [] X.env := by rfl) (hpl : (backTo pos (starEach [b] X.env)).any (·.1) = false := by rfl) :
    DE X e M (.Call (.Name "isinstance" p) [a, b] [] pos) (fun ρ Q => ta ρ fun d => ∃ (C : Addr) (ks : List (Str × D)) (r : Bool), d = exD C ks ∧ ExcC K C ∧ PySem.W.kitOne K (.ref C) cv = some r ∧ Q (.bool r)) := by
  subst hK
  refine ⟨pe_imp (pe_callB call_isV hg hm (by decide +kernel) (pa_cons ha.pe (pa_cons hc pa_nil hs2) hs1) (he := hs1) (hpl := hpl)) fun σ H Q ⟨g, F, ρ, s, q⟩ => ⟨g, F, ρ, s, ha.mono ρ _ _ (fun d ⟨C, ks, r, ed, C2, hk, hq⟩ F1 H1 v t1 r1 => ?_) q⟩, fun ρ Q Q' f q => ha.mono ρ _ _ (fun d ⟨C, ks, r, h1, h2, h3, q⟩ => ⟨C, ks, r, h1, h2, h3, f _ q⟩) q⟩
  subst ed
  rcases r1 with ⟨a1, C1, o, ks1, e1, e2, h3, h4, h5⟩ | ⟨p, vs, es, e1, e2, _⟩
  rotate_left
  · exact absurd e2 exD_ne
  have eC : C1 = C := (exD_inj e2).1.symm
  subst e1 eC
  have bs := t1.bs s.bs
  exact ⟨a1, C1, o, vc, cv, r, rfl, bs.sub _ _ h3, C2, hv, hk, fun dx ed => let ⟨vs, h, _⟩ := h5 dx ed; ⟨vs, bs.sub _ _ h⟩, hq F1 H1 _ t1 rfl⟩
/-- x.f -/
theorem de_xV {K : PySem.W.Frag} (hK : X.K = K) (ha : SE X e M .ex a ta) (hb : attributeBase a n X.env (eval a X.env) = eval a X.env := by rfl) :
    DE X e M (.Attribute a n pos) (fun ρ Q => ta ρ fun d => ∃ (C : Addr) (x : D), d = exD C [(n, x)] ∧ XfC K C ∧ PySem.W.findIn K (.ref C) n = some none ∧ Q x) := by
  subst hK
  refine ⟨pe_imp (pe_xV ha.pe hb) fun σ H Q ⟨g, F, ρ, s, q⟩ => ⟨g, F, ρ, s, ha.mono ρ _ _ (fun d ⟨C, x, ed, T, no, hq⟩ F1 H1 v t1 r1 => ?_) q⟩, fun ρ Q Q' f q => ha.mono ρ _ _ (fun d ⟨C, x, h1, h2, h3, q⟩ => ⟨C, x, h1, h2, h3, f _ q⟩) q⟩
  subst ed
  rcases r1 with ⟨a1, C1, o, ks1, e1, e2, h3, h4, h5⟩ | ⟨p, vs, es, e1, e2, _⟩
  rotate_left
  · exact absurd e2 exD_ne
  obtain ⟨eC, e3⟩ := exD_inj e2
  obtain rfl : C1 = C := eC.symm
  subst e1
  have bs := t1.bs s.bs
  cases ks1 with
  | nil => cases e3
  | cons k1 kr =>
    rw [List.map_cons] at e3
    injection e3 with e5 e6
    cases kr with
    | cons _ _ => cases e6
    | nil =>
      obtain ⟨f1, x1⟩ := k1
      have ef : n = f1 ∧ x = x1 := by
        injection e5 with e7 e8
        injection e7 with e7
        exact ⟨e7, e8⟩
      obtain ⟨rfl, rfl⟩ := ef
      cases o with
      | none => exact absurd (h4 rfl) (by simp)
      | some dx =>
        obtain ⟨vs, hx, y, t, ev, ry, et⟩ := h5 dx rfl
        subst ev
        exact ⟨a1, C1, dx, _, y, rfl, T, no, bs.sub _ _ h3, bs.sub _ _ hx, by simp [List.lookup], hq F1 H1 y t1 ry⟩
/-- as an argument -/
theorem ga_ex (ha : SE X e M .ex a ta) (hr : GA X e M ms xs tr) (hs : starEach (a :: xs) X.env = (false, eval a X.env) :: starEach xs X.env := by rfl) : GA X e M (.ex :: ms) (a :: xs) (tConsA ta tr) :=
  ⟨pa_imp (pa_cons ha.pe hr.pa hs) fun σ H Q ⟨g, F, ρ, sr, q⟩ => ⟨g, F, ρ, sr, ha.mono ρ _ _ (fun d hd F1 H1 v s1 r1 => ⟨g, F1, ρ, sr.step s1, hr.mono ρ _ _ (fun ds hq F2 H2 vs s2 r2 =>
    hq F2 H2 (v :: vs) (s1.trans s2) ⟨d, ds, v, vs, rfl, rfl, ExM.mono s2.mono r1, r2⟩) hd⟩) q⟩, fun ρ Q Q' f q => ha.mono ρ _ _ (fun x q => hr.mono ρ _ _ (fun xs q => f _ q) q) q⟩
end
end PP

set_option Elab.async false
set_option linter.all false
set_option maxRecDepth 100000
set_option maxHeartbeats 4000000
namespace PySem
namespace PPV
open HandSPX
section
variable {prog : Program} {w : World} {M : Model} {A : Around} {E : Value → Shared → Prop} {R : Result → Shared → Prop} {h : Heap} {g : Array GenState} {d : Drawn} {t : Nat} {os : OsState}
variable {nm q : Str} {C N : Addr} {bs bm bmB : List Value} {hdct : Bool} {sn : List Str} {sub : List Value} {ab : Bool} {col : Option Bool} {dd : Option Addr} {k0 k1 k2 k3 k5 : Option Value} {B newId initId : String} {y : Str} {v : Value}
theorem check_new_kw (F : ExcBaseFacts B newId initId bmB) (hT : ∀ X : String, bm.contains (.type X) = bmB.contains (.type X)) {Q : Unit → Shared → Prop}
    (hC : h.get? C = some (excClassObj nm q C N bs bm hdct sn sub ab col dd k0 k1 k2 k3 k5 newId)) (hq : Q () ⟨h, g, d, t, os⟩) : wpAny M A (checkBuiltinCall newId ⟨[.ref C], [(y, v)]⟩) Q E ⟨h, g, d, t, os⟩ := by
  have has : (Value.ref C :: bm).contains (.type B) = true := by rw [List.contains_cons, hT, F.hasB, Bool.or_true]
  have star := F.noStar
  simp only [checkBuiltinCall, F.newKind, F.newSplit, F.newRow]
  repeat (first | refine wpAny_loadPart_at hC ?_ | (refine wpAny_isSubtype_exc hC ?_; rw [has]) | refine wpAny_staticBase_exc hC ?_ | refine wpAny_madeBy_exc hC ?_ | simp only [bne_self_eq_false, Bool.false_eq_true, if_false] | wp_step)
  exact hq
theorem new_kw (F : ExcBaseFacts B newId initId bmB) (hT : ∀ X : String, bm.contains (.type X) = bmB.contains (.type X))
    (hC : h.get? C = some (excClassObj nm q C N bs bm hdct sn sub ab col dd k0 k1 k2 k3 k5 newId))
    (hq : R (.ok (.ret (.ref (h.objs.size + 1)))) ⟨(h.push (W.kdv_tup [])).push (excO C h.objs.size), g, d, t, os⟩) :
    codeAny (model prog w) A (.builtin newId ⟨[.ref C], [(y, v)]⟩) R ⟨h, g, d, t, os⟩ := by
  have ends := F.ends
  have isB : (Value.ref C :: bm).contains (.type B) = true := by rw [List.contains_cons, hT, F.hasB, Bool.or_true]
  have isA : (Value.ref C :: bm).contains (.type "AttributeError") = false := by rw [List.contains_cons, hT, F.noAttr]; rfl
  have isN : (Value.ref C :: bm).contains (.type "NameError") = false := by rw [List.contains_cons, hT, F.noName]; rfl
  refine codeAny_builtinAt F.entry ?_
  unfold Builtin.«BaseException.__new__»
  refine wpAt_bind ?_
  show wpAt _ _ _ (stack >>= _) _ _ _
  refine wpAt_bind (wpAt_stack fun p below => wpAt_of_wpAny ?_)
  wp_walk
  refine wpAt_of_wpAny ?_
  rw [F.owner]
  repeat (first | with_reducible refine wpAny_madeHere_exc F.canon hC ?_ | with_reducible refine wpAny_loadPart_at hC ?_ | (with_reducible refine wpAny_isSubtype_exc hC ?_; first | rw [isB] | rw [isA] | rw [isN]) | wp_step)
  show R _ _
  rw [Heap.size_push]
  exact hq
theorem check_type_kw {Q : Unit → Shared → Prop} (hC : h.get? C = some (excClassObj nm q C N bs bm hdct sn sub ab col dd k0 k1 k2 k3 k5 newId))
    (hq : Q () ⟨h, g, d, t, os⟩) : wpAny M A (checkBuiltinCall "type.__call__" ⟨[.ref C], [(y, v)]⟩) Q E ⟨h, g, d, t, os⟩ := by
  have f3 := tc_sub
  have isT : (⟨h, g, d, t, os⟩ : Shared).TypeIs (.ref C) "type" := ⟨_, hC, rfl⟩
  simp only [checkBuiltinCall, tc_kind, tc_split]
  repeat (any_goals (first | assumption | with_reducible refine wpAny_loadPart_at hC ?_ | with_reducible refine wpAny_onRaise ?_ | with_reducible refine wpAny_map ?_ | wp_step))
theorem type_kw (F : ExcBaseFacts B newId initId bmB) (hT : ∀ X : String, bm.contains (.type X) = bmB.contains (.type X)) {fI : Addr} {Q : PySem.Fin → Shared → Prop}
    (hC : h.get? C = some (excClassObj nm q C N bs bm hdct sn sub ab col dd k0 k1 k2 k3 k5 newId))
    (hi : W.Looks (model prog w) h (typeLookup (.ref C) "__init__") (some (.ref fI))) (hb : ∀ self, W.Looks (model prog w) h (bindSpecial (.ref fI) self) (.ref fI, [self]))
    (hq : codeAny (model prog w) A (.call (.ref fI) ⟨[.ref (h.objs.size + 1)], [(y, v)]⟩)
      (fun r s' => match r with | .ok (.ret v) => v = .none ∧ Q (.done (.ret (.ref (h.objs.size + 1)))) s' | .ok _ => False | .error e => E e s')
      ⟨(h.push (W.kdv_tup [])).push (excO C h.objs.size), g, d, t, os⟩) :
    wpAny (model prog w) A (Builtin.«type.__call__» ⟨[.ref C], [(y, v)]⟩) Q E ⟨h, g, d, t, os⟩ := by
  repeat (first | with_reducible refine wpAny_loadPart_at hC ?_ | with_reducible refine wpAny_madeBy_exc hC ?_ | wp_step)
  refine codeAny_call_builtin_code (Code.quiet_builtin _ F.quiet) (check_new_kw F hT hC ?_)
  refine new_kw F hT hC ?_
  show wpAny _ _ _ _ _ _
  have kp : ∀ b o, h.get? b = some o → ((h.push (W.kdv_tup [])).push (excO C h.objs.size)).get? b = some o := fun b o e => Heap.get?_push_of_some _ (Heap.get?_push_of_some _ e)
  have atC := kp _ _ hC
  have atE : ((h.push (W.kdv_tup [])).push (excO C h.objs.size)).get? (h.objs.size + 1) = some (excO C h.objs.size) := by heap_get
  have isC : (Value.ref C :: bm).contains (.ref C) = true := by simp
  have i1 := hi.keeps kp
  have b1 := (hb (.ref (h.objs.size + 1))).keeps kp
  unfold isInstance
  repeat (first | with_reducible refine wpAny_loadPart_at atE ?_ | (with_reducible refine wpAny_isSubtype_exc atC ?_; rw [isC]) | wp_step)
  show wpAny _ _ (typeLookup (.ref C) _) _ _ _
  refine i1.at ?_
  refine wpAny_holding (wpAny_bind (b1.at ?_))
  refine wpAny_bind (wpAny_call (codeAny_mono hq fun r s' z => ?_))
  rcases r with e | (v | _ | _ | _) <;> first | exact z | exact z.elim | skip
  obtain ⟨rfl, z⟩ := z
  first
    | exact wpAny_pure (wpAny_pure z)
    | (wp_walk; exact z)
theorem call_kw (F : ExcBaseFacts B newId initId bmB) (hT : ∀ X : String, bm.contains (.type X) = bmB.contains (.type X)) {fI : Addr}
    (hC : h.get? C = some (excClassObj nm q C N bs bm hdct sn sub ab col dd k0 k1 k2 k3 k5 newId))
    (hi : W.Looks (model prog w) h (typeLookup (.ref C) "__init__") (some (.ref fI))) (hb : ∀ self, W.Looks (model prog w) h (bindSpecial (.ref fI) self) (.ref fI, [self]))
    (hq : codeAny (model prog w) (A.under (.builtin "type.__call__" ⟨[.ref C], [(y, v)]⟩)) (.call (.ref fI) ⟨[.ref (h.objs.size + 1)], [(y, v)]⟩) (W.InitBack (h.objs.size + 1) R)
      ⟨(h.push (W.kdv_tup [])).push (excO C h.objs.size), g, d, t, os⟩) :
    codeAny (model prog w) A (.call (.ref C) ⟨[], [(y, v)]⟩) R ⟨h, g, d, t, os⟩ := by
  have f1 := tc_lookup
  have f2 := tc_bind (.ref C)
  have isT : (⟨h, g, d, t, os⟩ : Shared).TypeIs (.ref C) "type" := ⟨_, hC, rfl⟩
  refine codeAny_of_tree ?_
  show wpAny _ _ (callAny (.ref C) _) _ _ _
  repeat (any_goals (first | assumption | with_reducible refine wpAny_loadPart_at hC ?_ | wp_step))
  refine ⟨rfl, ?_⟩
  refine codeAny_call_builtin_at (Code.quiet_builtin _ (by decide +kernel)) entry_typeCall (check_type_kw hC (type_kw F hT hC hi hb ?_))
  refine codeAny_mono hq fun r s' z => ?_
  rcases r with e | (v | _ | _ | _) <;> exact z
end
end PPV
end PySem

set_option Elab.async false
set_option linter.all false
set_option maxRecDepth 100000
set_option maxHeartbeats 4000000
namespace PP
open PySem PySem.Spec PyProof.Rows L2
/-! ### C(f=e), C an own class of errors with one field -/
def tMkK (C : Addr) (sp : Sp) (ta : TA) : L2.St → Hp → XK → Prop := fun σ H Q => ta σ H fun vs H1 => ∃ v, vs = [v] ∧ ∀ a, H1 a = none → sp [.ref a, v] (upd H1 a (exo a C none))
  (fun v H2 => v = .non ∧ ∃ (d : Addr) (fs : List (Str × V)), H2 a = some (exo a C (some d)) ∧ H2 d = some (exd d fs) ∧ H1 d = none ∧ Q (.ref C) (some d) (upd (L2.del H2 a) d (.xd fs))) (fun _ _ _ => False)
section
variable {X : Cx} {e : Ent} {M : List Md} {a : Expr} {ta : DT} {tA : TA} {x f : Str} {C fI : Addr} {k : Nat} {fd : FuncData} {sp : Sp} {p pos kpos : Pos}
theorem pmk_kw (T : OexC X.K C) (iC : PySem.W.findIn X.K (.ref C) "__init__" = some (some (.ref fI))) (tI : PySem.W.typeIn X.K (.ref fI) = some (.type "function"))
    (F1 : FnOk X.prog X.w X.K X.mg X.base CX0 k fI fd ["self", f] sp) (hr : Room (k + 1) X.A) (hb : ∀ (s : Shared) (u1 u2 : Value), X.K.In s.heap → BindsTo s fd ⟨[u1], [(f, u2)]⟩ [("self", u1), (f, u2)]) (hg : Gl X x) (hm : X.mg x = some (.ref C)) (ha : PK X [⟨some f, a, kpos⟩] tA)
    (hdb : (x == ("__debug__" : Str)) = false := by decide) (hall : (backToKw pos (keywordEach [⟨some f, a, kpos⟩] X.env)).all (·.1.isSome) = true := by rfl) (hks : (backToKw pos (keywordEach [⟨some f, a, kpos⟩] X.env)).filterMap (·.1) = [f] := by rfl)
    (hpl : ((backTo pos (starEach [] X.env)).any (·.1) || (backToKw pos (keywordEach [⟨some f, a, kpos⟩] X.env)).any (·.1.isNone)) = false := by rfl) :
    PMk X (.Call (.Name x p) [] [⟨some f, a, kpos⟩] pos) (tMkK C sp tA) := by
  intro pins s σ H Q I h
  obtain ⟨nm, q, N, bs, bm, sn, sub, ab, col, dd, k0, k1, k2, k3, k5, hC, hbm⟩ := T.cls
  refine wpAny_Call_Name_kw (ld_glob I hg hm ?_ hdb)
  refine PySem.W.callWith_KW0 (h₀ := X.base) I.ok.mod.kin T.kC hall (thn (ha.run pos pins s σ H _ I h) fun us s1 ⟨vs, H1, I1, r1, v, ev, q1⟩ => ⟨I1.kIn, ?_⟩) hpl
  subst ev
  rw [hks]
  obtain ⟨u, rfl, ru⟩ : ∃ u, us = [u] ∧ RelV v u := by
    cases r1 with
    | cons rx rr => cases rr; exact ⟨_, rfl, rx⟩
  obtain ⟨hp, g, dr, tk, os⟩ := s1
  have hsz : hp.objs.size ≤ hp.objs.size + 1 := Nat.le_succ _
  have hn : H1 (hp.objs.size + 1) = none := I1.hok.fresh hsz
  have hq := q1 (hp.objs.size + 1) hn
  have kk : ∀ b o, hp.get? b = some o → ((hp.push (PySem.W.kdv_tup [])).push (PySem.HandSPX.excO C hp.objs.size)).get? b = some o := fun b o e => Heap.get?_push_of_some _ (Heap.get?_push_of_some _ e)
  have hget : ((hp.push (PySem.W.kdv_tup [])).push (PySem.HandSPX.excO C hp.objs.size)).get? (hp.objs.size + 1) = some (PySem.HandSPX.excO C hp.objs.size) := by heap_get
  have I2 : Inv X pins σ (upd H1 (hp.objs.size + 1) (exo (hp.objs.size + 1) C none)) ⟨(hp.push (PySem.W.kdv_tup [])).push (PySem.HandSPX.excO C hp.objs.size), g, dr, tk, os⟩ :=
    I1.laid (t' := tk) (a := hp.objs.size + 1) (o := exo (hp.objs.size + 1) C none) (h' := (hp.push (PySem.W.kdv_tup [])).push (PySem.HandSPX.excO C hp.objs.size)) kk hsz (exo_ok hget)
  have r2 : Vals [V.ref (hp.objs.size + 1), v] [Value.ref (hp.objs.size + 1), u] := .cons rfl (.cons ru .nil)
  refine wpAny_call (PySem.PPV.call_kw F.excBase_ValueError (fun Y => PySem.HandSPX.refsVE_contains Y bm hbm) (I1.kIn _ _ hC) (PySem.W.looks_findIn I1.kIn iC) (fun self => PySem.W.bind_fn I1.kIn self tI)
    (codeAny_mono (F1.run _ X.stack _ _ ⟨[Value.ref (hp.objs.size + 1)], [(f, u)]⟩ [Value.ref (hp.objs.size + 1), u] _ _ (fun _ _ _ => False) (hr.make C [] [(f, u)]) (I2.env0.make C [] [(f, u)]) (hb _ _ _ I2.kIn) r2 hq) fun r s' hq' => ?_))
  cases r with
  | error er => exact pass0 pins σ _ _ er s' I2 hq'
  | ok fl =>
    cases fl with
    | ret u =>
      obtain ⟨v, H2, os2, bare2, un2, hok2, rv, ev, d, fs, ea, ed, hd1, q2⟩ := hq'
      subst ev
      obtain ⟨h2, g2, d2, t2, os'⟩ := s'
      exact ⟨rv, mk_end (raises_own T.exC T.tyC) I1 hsz kk un2 hok2 os2 bare2 ea ed hd1 q2⟩
    | next => exact False.elim hq'
    | brk => exact False.elim hq'
    | cont => exact False.elim hq'
/-- C(f=e) -/
theorem se_newK (xc : XCl X.prog X.w X.K X.mg X.base x f C) (ini : ∃ fI fd, PySem.W.findIn X.K (.ref C) "__init__" = some (some (.ref fI)) ∧ PySem.W.typeIn X.K (.ref fI) = some (.type "function") ∧ (∀ (s : Shared) (u1 u2 : Value), X.K.In s.heap → BindsTo s fd ⟨[u1], [(f, u2)]⟩ [("self", u1), (f, u2)]) ∧ FnOk X.prog X.w X.K X.mg X.base CX0 1 fI fd ["self", f] (spXI X.K C f)) (hr : Room 2 X.A) (ha : DE X e M a ta) (hg : Gl X x := by rfl)
    (hdb : (x == ("__debug__" : Str)) = false := by decide) (hall : (backToKw pos (keywordEach [⟨some f, a, kpos⟩] X.env)).all (·.1.isSome) = true := by rfl) (hks : (backToKw pos (keywordEach [⟨some f, a, kpos⟩] X.env)).filterMap (·.1) = [f] := by rfl)
    (hpl : ((backTo pos (starEach [] X.env)).any (·.1) || (backToKw pos (keywordEach [⟨some f, a, kpos⟩] X.env)).any (·.1.isNone)) = false := by rfl) :
    SE X e M .ex (.Call (.Name x p) [] [⟨some f, a, kpos⟩] pos) (fun ρ Q => ta ρ fun d => Q (exD C [(f, d)])) := by
  obtain ⟨fI, fd, i1, i2, i3, i4⟩ := ini
  refine ⟨pe_imp (pe_ofMk (pmk_kw xc.T i1 i2 i4 hr i3 hg xc.mgC (pk_cons ha.pe pk_nil) hdb hall hks hpl)) fun σ H Q ⟨g, F, ρ, s, q⟩ => ⟨g, F, ρ, s, ha.mono ρ _ _ (fun x hx F1 H1 v t r => ⟨v, rfl, fun b hb => ?_⟩) q⟩, fun ρ Q Q' k q => ha.mono ρ _ _ (fun _ q => k _ q) q⟩
  refine ⟨b, v, rfl, xc.T, xc.nf, upd_same, fun dx h1 h2 => ?_⟩
  have hd1 : H1 dx = none := by rw [upd_ne h2] at h1; exact h1
  refine ⟨rfl, dx, [(f, v)], upd_same, by rw [upd_ne h2, upd_same], hd1, fun a2 n2 => ?_⟩
  rw [xd_heap hb h2] at n2 ⊢
  have s1 := s.step t
  have t2 := s1.bs.alloc hd1 (.xd [(f, v)])
  have t3 := (s1.step t2).bs.alloc n2 (ExV (.ref C) (some dx) a2)
  have ne : a2 ≠ dx := fun z => by rw [z, upd_same] at n2; cases n2
  exact hx _ _ _ ((t.trans t2).trans t3) (.inl ⟨a2, C, some dx, [(f, x)], rfl, rfl, upd_same, (fun z => nomatch z), fun dx' ed => by
    cases ed
    exact ⟨[(f, v)], by rw [upd_ne (Ne.symm ne), upd_same], v, [], rfl, r.mono (t2.mono.trans t3.mono), rfl⟩⟩)
end
end PP

set_option Elab.async false
set_option linter.all false
set_option maxRecDepth 100000
set_option maxHeartbeats 4000000
namespace PySem
namespace PPV
open HandSPX Builtin Builtin.ObjectAttr
theorem le_pass (self : Value) (C : Addr) : refuseLoop self "__setattr__" [.ref C, .type "LookupError", .type "Exception", .type "BaseException", .type "object"] = pure () := by
  rw [refuseLoop_ref]
  first
    | exact F.store_LookupError.passes self
    | exact PySem.KE.store_LookupError.passes self
    | exact store_LookupError.passes self
section
variable {prog : Program} {w : World} {A : Around} {R : Result → Shared → Prop} {hp : Heap} {g : Array GenState} {d : Drawn} {t : Nat} {os : OsState}
/-- self.f = v on a new error of an own class whose one other base is a built-in error -/
theorem osaG {K : W.Frag} {name : Str} {tk : Tok} {v : Value} {x C : Addr} {fv : Array Value} {cd : ClassData} (X : K.In hp) (hx : hp.get? x = some { cls := .ref C, data := .fields fv }) (hcd : W.clsIn K C = some cd)
    (pass : refuseLoop (.ref x) "__setattr__" cd.mro = pure ()) (hob : cd.mro.contains (.type "object") = true) (ne : cd.mro.isEmpty = false) (hh : cd.hasDict = true) (ha : W.findIn K (.ref C) name = some none)
    (hq : ∀ h' tk' dx, (∀ b o, b ≠ x → hp.get? b = some o → h'.get? b = some o) → hp.objs.size ≤ dx → dx ≠ x → h'.get? x = some { cls := .ref C, dict := some dx, data := .fields fv } →
      h'.Ns1 dx (fun y => if y = name then some v else none) → R (.ok (.ret .none)) ⟨h', g, d, tk', os⟩) :
    codeAny (model prog w) A (.call (.builtin "object.__setattr__") ⟨[.ref x, .str name tk, v], []⟩) R ⟨hp, g, d, t, os⟩ := by
  have inst : W.InstAt hp x { cls := .ref C, data := .fields fv } C none := ⟨hx, rfl, rfl, trivial⟩
  have SF := F.store_object
  have far : x ≠ hp.objs.size := Nat.ne_of_lt (Heap.lt_size hx)
  have isO : W.Looks (model prog w) hp (isInstance (.ref x) (.type "object")) true := inst.type.andThen (W.looks_mroIn X (by unfold W.mroIn; rw [hcd, Option.bind_some, if_neg (by rw [ne]; decide), hob]))
  refine codeAny_call_builtin SF.slot.plain SF.entry (@W.check_slot (model prog w) _ _ ⟨hp, g, d, t, os⟩ "object.__setattr__" "object" "__setattr__" (.ref x) [.str name tk, v] [] _ SF.kind SF.split isO (SF.args (.ref x) (.str name tk) v) ?_)
  have mro : W.Looks (model prog w) hp (mroOf (.ref C)) cd.mro := (W.looks_clsIn X hcd).andThen .now
  have none3 : W.Looks (model prog w) hp (storeTaker? none) none := .now
  have cls : W.Looks (model prog w) hp (classData C) cd := W.looks_clsIn X hcd
  rw [W.osa_eq, refuse_eq]
  refine wpAny_bind (wpAny_bind (inst.type.at (wpAny_bind (mro.at ?_))))
  rw [pass]
  refine wpAny_pure (wpAny_bind (inst.type.at (wpAny_bind ((W.looks_findIn X ha).at (wpAny_bind (none3.at ?_))))))
  show wpAny _ _ (storeInOwnDict (.ref x) (.ref C) (.str name tk) name v false) _ _ _
  obtain ⟨nm, bs, mro, ns, qn, hd, sn, sb, ab, col, del⟩ := cd
  dsimp only at hh
  subst hh
  unfold storeInOwnDict ownDictForStores
  repeat (first | with_reducible refine store_in_new ?_ ?_ | with_reducible refine wpAny_loadPart_at hx ?_ | with_reducible refine cls.at ?_ | wp_step)
  · exact ⟨_, #[], _, (Heap.get?_update_ne _ _ _ _ far.symm).trans (Heap.get?_push_at rfl rfl), rfl, fun e he => absurd he (by simp), fun _ => rfl⟩
  · intro h' tk' hn' hs
    have atx : (hp.push { cls := .type "dict", data := .dict #[] }).get? x = some { cls := .ref C, data := .fields fv } := Heap.get?_push_of_some _ hx
    refine hq h' tk' hp.objs.size (fun b o hb ho => ?_) (Nat.le_refl _) far.symm ?_ hn'
    · exact (hs.2 b (Nat.ne_of_lt (Heap.lt_size ho))).trans ((Heap.get?_update_ne _ _ _ _ hb).trans (Heap.get?_push_of_some _ ho))
    · exact (hs.2 x far).trans (Heap.get?_update_self _ atx rfl)
end
end PPV
end PySem

set_option Elab.async false
set_option linter.all false
set_option maxRecDepth 100000
set_option maxHeartbeats 4000000
namespace PP
open PySem PySem.Spec PyProof.Rows L2
/-! ### own errors below LookupError, with one field -/
abbrev leTail : List Value := [.type "LookupError", .type "Exception", .type "BaseException", .type "object"]
structure OexL (K : PySem.W.Frag) (C : Addr) : Prop where
  cls : ∃ nm q N bs sn sub ab col dd k0 k1 k2 k3 k5, K.lookup C = some (excClassObj nm q C N bs leTail true sn sub ab col dd k0 k1 k2 k3 k5 "LookupError.__new__")
  sa : PySem.W.findIn K (.ref C) "__setattr__" = some (some (.builtin "object.__setattr__"))
  exC : PySem.W.subIn K (.ref C) (.type "BaseException") = some true
  tyC : PySem.W.typeIn K (.ref C) = some (.type "type")
  kC : PySem.W.keepIn K (.ref C) = true
section
variable {X : Cx} {pins : List (Addr × Obj)} {σ : L2.St} {H : Hp} {s : Shared} {a C : Addr} {f : Str} {y : V} {u : Value} {Q : Unit → Shared → Prop} {E : Value → Shared → Prop} {A : Around} {o e : Expr} {to te : TE} {p' pos : Pos}
theorem ost_newL (T : OexL X.K C) (I : Inv X pins σ H s) (at_ : H a = some (exo a C none)) (hno : PySem.W.findIn X.K (.ref C) f = some none) (ry : RelV y u)
    (h : ∀ dx s', H dx = none → dx ≠ a → Inv X pins σ (upd (upd H dx (exd dx [(f, y)])) a (exo a C (some dx))) s' → Q () s') : wpAny (model X.prog X.w) A (setAttr (.ref a) f u) Q E s := by
  obtain ⟨nm, q, N, bs, sn, sub, ab, col, dd, k0, k1, k2, k3, k5, hC⟩ := T.cls
  have isCls : PySem.W.clsIn X.K C = some { name := nm, bases := bs, mro := .ref C :: leTail, ns := N, qualname := q, hasDict := true, slotNames := sn, subclasses := sub, abstract := ab, collection := col, hasDel := false } := by unfold PySem.W.clsIn; rw [hC] <;> rfl
  obtain ⟨t1, ho⟩ := exo_at I.hok at_
  obtain ⟨hp, g, d, t, os⟩ := s
  refine PySem.W.set_plain I.kIn (ox := { cls := .ref C, dict := none, data := .fields #[.ref t1, .none, .none, .none, .bool false, .none] }) (od := none) ⟨ho, rfl, rfl, trivial⟩ T.sa ?_
  refine PySem.PPV.osaG I.kIn ho isCls (PySem.PPV.le_pass _ _) (by simp [leTail]) rfl rfl hno (fun h' tk' dx keep dn dne hx hn => ?_)
  have hnd : H dx = none := I.hok.fresh dn
  have nd : ∀ {b : Addr} {o : Obj}, hp.get? b = some o → b ≠ dx := fun {b o} q => Nat.ne_of_lt (Nat.lt_of_lt_of_le (Heap.lt_size q) dn)
  have na : ∀ {b : Addr}, H b = none → b ≠ a := fun {b} n z => by rw [z, at_] at n; cases n
  have U : Un X.fs [] H (upd (upd H dx (exd dx [(f, y)])) a (exo a C (some dx))) hp h' := {
    keep := fun b o q n _ _ => keep b o (na n) q
    slot := fun b o q n _ _ => ⟨o.slots, keep b o (na n) q⟩
    free := fun b o q n _ => by rw [upd_ne (na n), upd_ne (nd q)]; exact n
    there := fun b o q _ => by
      by_cases hb : b = a
      · exact ⟨_, by rw [hb]; exact hx⟩
      · exact ⟨o, keep b o hb q⟩
    tups := fun b xs q => by rw [upd_ne (at_ne at_ q exo_tup), upd_ne (ne_of_none q hnd)]; exact q
    frzs := fun b o v q => by rw [upd_ne (at_ne at_ q exo_frz), upd_ne (ne_of_none q hnd)]; exact q
    tbls := fun b ps q => ⟨#[], by rw [upd_ne (at_ne at_ q exo_tbl), upd_ne (ne_of_none q hnd), q]; simp⟩ }
  refine h dx _ hnd dne (I.un (t' := tk') U fun b o q => ?_)
  by_cases hb : b = a
  · subst hb
    rw [upd_same] at q
    cases q
    exact exo_ok hx
  · rw [upd_ne hb] at q
    by_cases hd : b = dx
    · subst hd
      rw [upd_same] at q
      cases q
      exact exd_ok hn (relO_put (fs := []) ry fun g => True.intro)
    · rw [upd_ne hd] at q
      exact (I.hok b o q).stay (fun c v hc z => keep c v (by
          rcases hc with hc | hc
          · rw [hc]; exact hb
          · exact at_ne at_ hc exo_own) z)
        (fun c hc => by rw [upd_ne (at_ne at_ hc exo_own), upd_ne (ne_of_none hc hnd)]; exact hc) (fun c xs hc => by rw [upd_ne (at_ne at_ hc exo_tup), upd_ne (ne_of_none hc hnd)]; exact hc)
def tOstL (K : PySem.W.Frag) (f : Str) (to te : TE) : TS := fun D σ H => te σ H fun y H1 => to σ H1 fun x H2 => ∃ a C : Addr, x = .ref a ∧ OexL K C ∧ PySem.W.findIn K (.ref C) f = some none ∧ H2 a = some (exo a C none) ∧ ∀ dx, H2 dx = none → dx ≠ a → D.nx σ (upd (upd H2 dx (exd dx [(f, y)])) a (exo a C (some dx)))
theorem ps_ostL (ho : PE X o to) (he : PE X e te) (hs : swapsWith e (some (.Attribute o f p')) pos.line X.env = pure false := by rfl) : PS X (.Assign [.Attribute o f p'] e pos) (tOstL X.K f to te) := by
  refine ⟨fun pins s σ H D I h => ?_⟩
  refine plainObj_wpAny_Assign_Attribute (thn (he.run pins s σ H _ I h) fun v s1 ⟨y, H1, I1, r1, q1⟩ => thn (ho.run pins s1 σ H1 _ I1 q1) fun u s2 ⟨x, H2, I2, r2, a, C, ex, T, hno, at_, q⟩ => ?_) hs
  subst ex
  cases r2
  exact ost_newL T I2 at_ hno r1 fun dx s' n ne J => ⟨σ, _, J, q dx n ne⟩
end
end PP

set_option Elab.async false
set_option linter.all false
set_option maxRecDepth 100000
set_option maxHeartbeats 4000000
namespace PP
open PySem PySem.Spec PyProof.Rows L2
def spXIL (K : PySem.W.Frag) (C : Addr) (f : Str) : Sp := fun vs H Q _ => ∃ a v, vs = [.ref a, v] ∧ OexL K C ∧ PySem.W.findIn K (.ref C) f = some none ∧ H a = some (exo a C none) ∧ ∀ dx, H dx = none → dx ≠ a → Q .non (upd (upd H dx (exd dx [(f, v)])) a (exo a C (some dx)))
section
variable {P : Program} {w : World} {K : PySem.W.Frag} {mg : Str → Option Value} {base : Heap}
theorem iniXL_ok {C : Addr} {f : Str} {qual : Str} {st : Stmt} {fa : Addr} {fd : FuncData} {p1 p2 p3 p4 : Pos} (F : Fun K "__init__" qual st fa fd) (S : FnScope ["self", f] ["self", f] (defScope st))
    (hb : defBody st = [.Assign [.Attribute (.Name "self" p1) f p2] (.Name f p3) p4])
    (hv : ∀ (cdv : Value) (A : Around) (outer : List Env) (s : Shared) (H : Hp) (E : XK), PSs (cxOf CX0 P w K mg base ["self", f] qual (defScope st) fa cdv A outer s H E).nox [.Assign [.Attribute (.Name "self" p1) f p2] (.Name f p3) p4] (tOstL K f (fun σ H Q => ∃ v, σ[0]? = some (some v) ∧ Q v H) (fun σ H Q => ∃ v, σ[1]? = some (some v) ∧ Q v H))) :
    FnOk P w K mg base CX0 1 fa fd ["self", f] (spXIL K C f) := by
  refine F.ok S (fun vs H Q E ⟨a, v, e, _⟩ => by rw [e]; rfl) fun cdv A outer s H vs Q E hr h => ?_
  obtain ⟨a, v, rfl, T, nf, ha, q⟩ := h
  rw [hb]
  exact ⟨_, hv cdv A outer s H E, v, rfl, .ref a, rfl, a, C, rfl, T, nf, ha, fun dx h1 h2 => q dx h1 h2⟩
structure XClL (P : Program) (w : World) (K : PySem.W.Frag) (mg : Str → Option Value) (base : Heap) (x f : Str) (C : Addr) : Prop where
  T : OexL K C
  nf : PySem.W.findIn K (.ref C) f = some none
  mgC : mg x = some (.ref C)
end
section
variable {X : Cx} {e : Ent} {M : List Md} {a : Expr} {ta : DT} {tA : TA} {x f : Str} {C fI : Addr} {k : Nat} {fd : FuncData} {sp : Sp} {p pos kpos : Pos}
theorem pmkL_kw (T : OexL X.K C) (iC : PySem.W.findIn X.K (.ref C) "__init__" = some (some (.ref fI))) (tI : PySem.W.typeIn X.K (.ref fI) = some (.type "function"))
    (F1 : FnOk X.prog X.w X.K X.mg X.base CX0 k fI fd ["self", f] sp) (hr : Room (k + 1) X.A) (hb : ∀ (s : Shared) (u1 u2 : Value), X.K.In s.heap → BindsTo s fd ⟨[u1], [(f, u2)]⟩ [("self", u1), (f, u2)]) (hg : Gl X x) (hm : X.mg x = some (.ref C)) (ha : PK X [⟨some f, a, kpos⟩] tA)
    (hdb : (x == ("__debug__" : Str)) = false := by decide) (hall : (backToKw pos (keywordEach [⟨some f, a, kpos⟩] X.env)).all (·.1.isSome) = true := by rfl) (hks : (backToKw pos (keywordEach [⟨some f, a, kpos⟩] X.env)).filterMap (·.1) = [f] := by rfl)
    (hpl : ((backTo pos (starEach [] X.env)).any (·.1) || (backToKw pos (keywordEach [⟨some f, a, kpos⟩] X.env)).any (·.1.isNone)) = false := by rfl) :
    PMk X (.Call (.Name x p) [] [⟨some f, a, kpos⟩] pos) (tMkK C sp tA) := by
  intro pins s σ H Q I h
  obtain ⟨nm, q, N, bs, sn, sub, ab, col, dd, k0, k1, k2, k3, k5, hC⟩ := T.cls
  refine wpAny_Call_Name_kw (ld_glob I hg hm ?_ hdb)
  refine PySem.W.callWith_KW0 (h₀ := X.base) I.ok.mod.kin T.kC hall (thn (ha.run pos pins s σ H _ I h) fun us s1 ⟨vs, H1, I1, r1, v, ev, q1⟩ => ⟨I1.kIn, ?_⟩) hpl
  subst ev
  rw [hks]
  obtain ⟨u, rfl, ru⟩ : ∃ u, us = [u] ∧ RelV v u := by
    cases r1 with
    | cons rx rr => cases rr; exact ⟨_, rfl, rx⟩
  obtain ⟨hp, g, dr, tk, os⟩ := s1
  have hsz : hp.objs.size ≤ hp.objs.size + 1 := Nat.le_succ _
  have hn : H1 (hp.objs.size + 1) = none := I1.hok.fresh hsz
  have hq := q1 (hp.objs.size + 1) hn
  have kk : ∀ b o, hp.get? b = some o → ((hp.push (PySem.W.kdv_tup [])).push (PySem.HandSPX.excO C hp.objs.size)).get? b = some o := fun b o e => Heap.get?_push_of_some _ (Heap.get?_push_of_some _ e)
  have hget : ((hp.push (PySem.W.kdv_tup [])).push (PySem.HandSPX.excO C hp.objs.size)).get? (hp.objs.size + 1) = some (PySem.HandSPX.excO C hp.objs.size) := by heap_get
  have I2 : Inv X pins σ (upd H1 (hp.objs.size + 1) (exo (hp.objs.size + 1) C none)) ⟨(hp.push (PySem.W.kdv_tup [])).push (PySem.HandSPX.excO C hp.objs.size), g, dr, tk, os⟩ :=
    I1.laid (t' := tk) (a := hp.objs.size + 1) (o := exo (hp.objs.size + 1) C none) (h' := (hp.push (PySem.W.kdv_tup [])).push (PySem.HandSPX.excO C hp.objs.size)) kk hsz (exo_ok hget)
  have r2 : Vals [V.ref (hp.objs.size + 1), v] [Value.ref (hp.objs.size + 1), u] := .cons rfl (.cons ru .nil)
  refine wpAny_call (PySem.PPV.call_kw F.excBase_LookupError (fun Y => rfl) (I1.kIn _ _ hC) (PySem.W.looks_findIn I1.kIn iC) (fun self => PySem.W.bind_fn I1.kIn self tI)
    (codeAny_mono (F1.run _ X.stack _ _ ⟨[Value.ref (hp.objs.size + 1)], [(f, u)]⟩ [Value.ref (hp.objs.size + 1), u] _ _ (fun _ _ _ => False) (hr.make C [] [(f, u)]) (I2.env0.make C [] [(f, u)]) (hb _ _ _ I2.kIn) r2 hq) fun r s' hq' => ?_))
  cases r with
  | error er => exact pass0 pins σ _ _ er s' I2 hq'
  | ok fl =>
    cases fl with
    | ret u =>
      obtain ⟨v, H2, os2, bare2, un2, hok2, rv, ev, d, fs, ea, ed, hd1, q2⟩ := hq'
      subst ev
      obtain ⟨h2, g2, d2, t2, os'⟩ := s'
      exact ⟨rv, mk_end (raises_own T.exC T.tyC) I1 hsz kk un2 hok2 os2 bare2 ea ed hd1 q2⟩
    | next => exact False.elim hq'
    | brk => exact False.elim hq'
    | cont => exact False.elim hq'
theorem pmkL (T : OexL X.K C) (iC : PySem.W.findIn X.K (.ref C) "__init__" = some (some (.ref fI))) (tI : PySem.W.typeIn X.K (.ref fI) = some (.type "function"))
    (F1 : FnOk X.prog X.w X.K X.mg X.base CX0 k fI fd ["self", f] sp) (hr : Room (k + 1) X.A) (hb : Binds X.K fd ["self", f] []) (hg : Gl X x) (hm : X.mg x = some (.ref C)) (ha : PA X [a] tA)
    (hdb : (x == ("__debug__" : Str)) = false := by decide) (he : starEach [a] X.env = (false, eval a X.env) :: starEach [] X.env := by rfl) (hpl : (backTo pos (starEach [] X.env)).any (·.1) = false := by rfl) :
    PMk X (.Call (.Name x p) [a] [] pos) (tMkK C sp tA) := by
  intro pins s σ H Q I h
  obtain ⟨nm, q, N, bs, sn, sub, ab, col, dd, k0, k1, k2, k3, k5, hC⟩ := T.cls
  refine wpAny_Call_Name_kw (ld_glob I hg hm ?_ hdb)
  refine PySem.W.callWith_K (h₀ := X.base) I.ok.mod.kin T.kC (thn (ha.run pos pins s σ H _ I h) fun us s1 ⟨vs, H1, I1, r1, v, ev, q1⟩ => ⟨I1.kIn, ?_⟩) he hpl
  subst ev
  obtain ⟨u, rfl, ru⟩ : ∃ u, us = [u] ∧ RelV v u := by
    cases r1 with
    | cons rx rr => cases rr; exact ⟨_, rfl, rx⟩
  show wpAny _ _ (call (.ref C) [u]) _ _ _
  obtain ⟨hp, g, dr, tk, os⟩ := s1
  have hsz : hp.objs.size ≤ hp.objs.size + 1 := Nat.le_succ _
  have hn : H1 (hp.objs.size + 1) = none := I1.hok.fresh hsz
  have hq := q1 (hp.objs.size + 1) hn
  have kk : ∀ b o, hp.get? b = some o → ((hp.push (PySem.W.kdv_tup [u])).push (PySem.HandSPX.excO C hp.objs.size)).get? b = some o := fun b o e => Heap.get?_push_of_some _ (Heap.get?_push_of_some _ e)
  have hget : ((hp.push (PySem.W.kdv_tup [u])).push (PySem.HandSPX.excO C hp.objs.size)).get? (hp.objs.size + 1) = some (PySem.HandSPX.excO C hp.objs.size) := by heap_get
  have I2 : Inv X pins σ (upd H1 (hp.objs.size + 1) (exo (hp.objs.size + 1) C none)) ⟨(hp.push (PySem.W.kdv_tup [u])).push (PySem.HandSPX.excO C hp.objs.size), g, dr, tk, os⟩ :=
    I1.laid (t' := tk) (a := hp.objs.size + 1) (o := exo (hp.objs.size + 1) C none) (h' := (hp.push (PySem.W.kdv_tup [u])).push (PySem.HandSPX.excO C hp.objs.size)) kk hsz (exo_ok hget)
  have r2 : Vals [V.ref (hp.objs.size + 1), v] [Value.ref (hp.objs.size + 1), u] := .cons rfl (.cons ru .nil)
  refine wpAny_call (PySem.HandSPX.call_own F.excBase_LookupError (fun Y => rfl) (I1.kIn _ _ hC) (PySem.W.looks_findIn I1.kIn iC) (fun self => PySem.W.bind_fn I1.kIn self tI) (by show 1 ≤ sizeLine; decide)
    (codeAny_mono (F1.run _ X.stack _ _ ⟨[Value.ref (hp.objs.size + 1), u], []⟩ [Value.ref (hp.objs.size + 1), u] _ _ (fun _ _ _ => False) (hr.make C [u] []) (I2.env0.make C [u] []) (hb _ [Value.ref (hp.objs.size + 1), u] I2.kIn rfl) r2 hq) fun r s' hq' => ?_))
  cases r with
  | error er => exact pass0 pins σ _ _ er s' I2 hq'
  | ok fl =>
    cases fl with
    | ret u =>
      obtain ⟨v, H2, os2, bare2, un2, hok2, rv, ev, d, fs, ea, ed, hd1, q2⟩ := hq'
      subst ev
      obtain ⟨h2, g2, d2, t2, os'⟩ := s'
      exact ⟨rv, mk_end (raises_own T.exC T.tyC) I1 hsz kk un2 hok2 os2 bare2 ea ed hd1 q2⟩
    | next => exact False.elim hq'
    | brk => exact False.elim hq'
    | cont => exact False.elim hq'
/-- C(f=e) -/
theorem se_newKL (xc : XClL X.prog X.w X.K X.mg X.base x f C) (ini : ∃ fI fd, PySem.W.findIn X.K (.ref C) "__init__" = some (some (.ref fI)) ∧ PySem.W.typeIn X.K (.ref fI) = some (.type "function") ∧ (∀ (s : Shared) (u1 u2 : Value), X.K.In s.heap → BindsTo s fd ⟨[u1], [(f, u2)]⟩ [("self", u1), (f, u2)]) ∧ FnOk X.prog X.w X.K X.mg X.base CX0 1 fI fd ["self", f] (spXIL X.K C f)) (hr : Room 2 X.A) (ha : DE X e M a ta) (hg : Gl X x := by rfl)
    (hdb : (x == ("__debug__" : Str)) = false := by decide) (hall : (backToKw pos (keywordEach [⟨some f, a, kpos⟩] X.env)).all (·.1.isSome) = true := by rfl) (hks : (backToKw pos (keywordEach [⟨some f, a, kpos⟩] X.env)).filterMap (·.1) = [f] := by rfl)
    (hpl : ((backTo pos (starEach [] X.env)).any (·.1) || (backToKw pos (keywordEach [⟨some f, a, kpos⟩] X.env)).any (·.1.isNone)) = false := by rfl) :
    SE X e M .ex (.Call (.Name x p) [] [⟨some f, a, kpos⟩] pos) (fun ρ Q => ta ρ fun d => Q (exD C [(f, d)])) := by
  obtain ⟨fI, fd, i1, i2, i3, i4⟩ := ini
  refine ⟨pe_imp (pe_ofMk (pmkL_kw xc.T i1 i2 i4 hr i3 hg xc.mgC (pk_cons ha.pe pk_nil) hdb hall hks hpl)) fun σ H Q ⟨g, F, ρ, s, q⟩ => ⟨g, F, ρ, s, ha.mono ρ _ _ (fun x hx F1 H1 v t r => ⟨v, rfl, fun b hb => ?_⟩) q⟩, fun ρ Q Q' k q => ha.mono ρ _ _ (fun _ q => k _ q) q⟩
  refine ⟨b, v, rfl, xc.T, xc.nf, upd_same, fun dx h1 h2 => ?_⟩
  have hd1 : H1 dx = none := by rw [upd_ne h2] at h1; exact h1
  refine ⟨rfl, dx, [(f, v)], upd_same, by rw [upd_ne h2, upd_same], hd1, fun a2 n2 => ?_⟩
  rw [xd_heap hb h2] at n2 ⊢
  have s1 := s.step t
  have t2 := s1.bs.alloc hd1 (.xd [(f, v)])
  have t3 := (s1.step t2).bs.alloc n2 (ExV (.ref C) (some dx) a2)
  have ne : a2 ≠ dx := fun z => by rw [z, upd_same] at n2; cases n2
  exact hx _ _ _ ((t.trans t2).trans t3) (.inl ⟨a2, C, some dx, [(f, x)], rfl, rfl, upd_same, (fun z => nomatch z), fun dx' ed => by
    cases ed
    exact ⟨[(f, v)], by rw [upd_ne (Ne.symm ne), upd_same], v, [], rfl, r.mono (t2.mono.trans t3.mono), rfl⟩⟩)
/-- C(e) -/
theorem se_new1L (xc : XClL X.prog X.w X.K X.mg X.base x f C) (ini : ∃ fI fd, PySem.W.findIn X.K (.ref C) "__init__" = some (some (.ref fI)) ∧ PySem.W.typeIn X.K (.ref fI) = some (.type "function") ∧ Binds X.K fd ["self", f] [] ∧ FnOk X.prog X.w X.K X.mg X.base CX0 1 fI fd ["self", f] (spXIL X.K C f)) (hr : Room 2 X.A) (ha : DE X e M a ta) (hg : Gl X x := by rfl)
    (hdb : (x == ("__debug__" : Str)) = false := by decide) (he : starEach [a] X.env = (false, eval a X.env) :: starEach [] X.env := by rfl) (hpl : (backTo pos (starEach [] X.env)).any (·.1) = false := by rfl) :
    SE X e M .ex (.Call (.Name x p) [a] [] pos) (fun ρ Q => ta ρ fun d => Q (exD C [(f, d)])) := by
  obtain ⟨fI, fd, i1, i2, i3, i4⟩ := ini
  refine ⟨pe_imp (pe_ofMk (pmkL xc.T i1 i2 i4 hr i3 hg xc.mgC (pa_cons ha.pe pa_nil he) hdb he hpl)) fun σ H Q ⟨g, F, ρ, s, q⟩ => ⟨g, F, ρ, s, ha.mono ρ _ _ (fun x hx F1 H1 v t r => ⟨v, rfl, fun b hb => ?_⟩) q⟩, fun ρ Q Q' k q => ha.mono ρ _ _ (fun _ q => k _ q) q⟩
  refine ⟨b, v, rfl, xc.T, xc.nf, upd_same, fun dx h1 h2 => ?_⟩
  have hd1 : H1 dx = none := by rw [upd_ne h2] at h1; exact h1
  refine ⟨rfl, dx, [(f, v)], upd_same, by rw [upd_ne h2, upd_same], hd1, fun a2 n2 => ?_⟩
  rw [xd_heap hb h2] at n2 ⊢
  have s1 := s.step t
  have t2 := s1.bs.alloc hd1 (.xd [(f, v)])
  have t3 := (s1.step t2).bs.alloc n2 (ExV (.ref C) (some dx) a2)
  have ne : a2 ≠ dx := fun z => by rw [z, upd_same] at n2; cases n2
  exact hx _ _ _ ((t.trans t2).trans t3) (.inl ⟨a2, C, some dx, [(f, x)], rfl, rfl, upd_same, (fun z => nomatch z), fun dx' ed => by
    cases ed
    exact ⟨[(f, v)], by rw [upd_ne (Ne.symm ne), upd_same], v, [], rfl, r.mono (t2.mono.trans t3.mono), rfl⟩⟩)
end
end PP

set_option Elab.async false
set_option linter.all false
set_option maxRecDepth 100000
set_option maxHeartbeats 1000000
namespace PP
open PySem PySem.Spec PyProof.Rows L2
def topS (i : Nat) : Stmt := PySem.Challenge.pw_pilepass_k57_errors_and_bounds.main.body.getD i (.Pass ⟨0, 0, 0, 0⟩)
abbrev s_law_draw : Stmt := topS 20
def deckFam (a b : Addr) : Fam Nat where
  rg := deckRg a b
  root := fun _ _ => rfl
  mem := fun _ _ => rfl
  some := fun s h => by have := congrArg Rg.root h; cases this
  deck := fun s t _ => ⟨a, b, t, rfl⟩
def IsF2 (fm : Fam Nat) : Prop := ∃ a b, fm = deckFam a b
theorem deck_stp {a b : Addr} {n m : Nat} {F H H' : Hp} (bs : Bs (deckRg a b n) F H) (h : ∀ x, x ≠ a → x ≠ b → H' x = H x) (ok : DeckIn a b m H') : Stp (deckRg a b m) F H F H' where
  mono := .refl _
  sub := fun x o e => by
    have n : ¬ (deckRg a b n).mem x := bs.nmem e
    have n1 : x ≠ a := fun z => n (.inl z)
    have n2 : x ≠ b := fun z => n (.inr z)
    rw [h x n1 n2]; exact bs.sub x o e
  new := fun x o e => .inl e
  keep := fun x o e n => by
    have n1 : x ≠ a := fun z => n (.inl z)
    have n2 : x ≠ b := fun z => n (.inr z)
    rw [h x n1 n2]; exact e
  ok := ok
/-- so often may be drawn -/
def capZ : Nat := 2 ^ 40
def kDraw : KZ Nat := fun ds s Q => match ds with
  | [_, .int b] => ((0 < b ∧ b < 2 ^ 62) ∧ s < capZ) ∧ ∀ n, 0 ≤ n → n < b → Q (.int n) (s + 1)
  | _ => False
theorem kDraw_mono : MonoK kDraw := fun ds s Q Q' f q => by
  unfold kDraw at q ⊢
  split at q
  · exact ⟨q.1, fun n h1 h2 => f _ _ (q.2 n h1 h2)⟩
  · exact q.elim
theorem sc_law_draw : FnScope ["deck", "many", "cell", "at", "mixed"] ["deck", "many"] (defScope s_law_draw) := ⟨rfl, rfl, rfl, by decide +kernel, rfl, by decide +kernel, by decide +kernel⟩
theorem sh_ints (gs : List Int) : SeqAt.shaped (.list (gs.map PyData.int)) = true := by
  have h1 : PyData.canLayAll0 (gs.map PyData.int) = true := by
    induction gs with
    | nil => rfl
    | cons g gs ih => simp [PyData.canLayAll0, PyData.canLay0, ih]
  have h2 : PyData.depthAll (gs.map PyData.int) ≤ 1 := by
    clear h1
    induction gs with
    | nil => simp [PyData.depthAll]
    | cons g gs ih => simp [PyData.depthAll, PyData.depth]; omega
  show (PyData.canLay0 (.list _) && decide (PyData.depth (.list _) ≤ 64)) = true
  simp [PyData.canLay0, h1, PyData.depth]
  omega
theorem eqv_nil (gs : List Int) : PyData.eqv (.list (gs.map PyData.int)) (.list []) = gs.isEmpty := by
  cases gs <;> simp [PyData.eqv, PyData.eqvAll]
section
variable {P : Program} {w : World} {K : PySem.W.Frag} {mg : Str → Option Value} {base : Heap}
theorem ok_law_draw {f : Addr} {fd : FuncData} (F : Fun K "_law_draw" "_law_draw" s_law_draw f fd) (mi : mg "int" = none) (ml : mg "len" = none) : FnOk P w K mg base CX0 1 f fd ["deck", "many"] (spZ IsF2 K [.dk, .val] kDraw) := by
  refine F.ok sc_law_draw (fun vs H Q E ⟨fm, s, F, ds, _, bs, a, _⟩ => a.len) (fun cdv A outer s H vs Q E hr h => ?_)
  obtain ⟨fm, n, F0, ds, ⟨a, b, rfl⟩, bs, ⟨d0, _, v0, _, rfl, rfl, ⟨rfl, _⟩, ⟨d1, _, v1, _, rfl, rfl, r1, ⟨rfl, rfl⟩⟩⟩, q⟩ := h
  unfold kDraw at q
  split at q
  case h_2 => exact q.elim
  rename_i bd heq
  cases heq
  obtain ⟨⟨⟨hb0, hb1⟩, hn⟩, q⟩ := q
  obtain rfl : v1 = .int bd := r1
  have hu := hr.units
  refine ⟨_, pss_cons (ps_asg (pe_op op_add (pe_ix ix_list (pv 0) pe_int (fun _ _ => rfl)) pe_int) (pg_sub (pv 0) pe_int set_list))
    (pss_cons (ps_asg (pe_tup (pa_cons pe_int (pa_cons (pe_un un_neg pe_int) pa_nil))) (pg_tup (by rfl) (pgs_cons (pg_name (i := 2) sc_law_draw.nd rfl (.inl rfl)) (pgs_cons (pg_name (i := 3) sc_law_draw.nd rfl (.inl rfl)) pgs_nil))))
    (C8.pss_cut (ps_if (pt_cmpR op_gt (pe_callB call_len_seq (by rfl) ml PySem.boot_len (pa_cons (pe_ix ix_list (pv 0) pe_int (fun _ _ => rfl)) pa_nil)) pe_int (nomark _))
      (pss_cons (ps_set (i := 3) sc_law_draw.nd rfl (.inl rfl) (pe_op op_mod (pe_callTy call_int1 (by rfl) mi (by decide +kernel) (pa_cons (pe_ix ix_list (pv 0) pe_int (fun _ _ => rfl)) pa_nil)) (pe_callB call_len_seq (by rfl) ml PySem.boot_len (pa_cons (pe_ix ix_list (pv 0) pe_int (fun _ _ => rfl)) pa_nil))))
      (pss_one (ps_set (i := 2) sc_law_draw.nd rfl (.inl rfl) (pe_ix ix_list (pe_ix ix_list (pv 0) pe_int (fun _ _ => rfl)) (pv 3) (fun _ _ => rfl))))) pss_nil)
    (pss_cons (ps_if (pt_cmpR op_ge (pv 2) (pe_op op_pow pe_int pe_int) (nomark _))
      (pss_cons (ps_asg (pe_op op_fdivW (pe_callTy call_int1 (by rfl) mi (by decide +kernel) (pa_cons (pv 2) pa_nil)) (pv 1)) (pg_sub (pe_ix ix_list (pv 0) pe_int (fun _ _ => rfl)) (pv 3) set_list))
      (pss_one (ps_ret (pe_op op_mod (pe_callTy call_int1 (by rfl) mi (by decide +kernel) (pa_cons (pv 2) pa_nil)) (pv 1))))) pss_nil)
    (pss_cons (ps_set (i := 4) sc_law_draw.nd rfl (.inl rfl) (pe_op op_add (pe_op op_add (pe_op op_mod (pe_callTy call_int1 (by rfl) mi (by decide +kernel) (pa_cons (pv 2) pa_nil)) pe_int)
        (pe_op op_mul pe_int (pe_ix ix_list (pv 0) pe_int (fun _ _ => rfl)))) pe_int))
    (pss_one (ps_ret (pe_op op_mod (pe_callTy call_int1 (by rfl) mi (by decide +kernel) (pa_cons (pe_op op_mod (pe_callTy call_int1 (by rfl) mi (by decide +kernel) (pa_cons (pe_op op_pow (pv 4) pe_int) pa_nil)) pe_int) pa_nil)) (pv 1)))))))), ?_⟩
  obtain ⟨nab, cs, ha, hb, lc, cpos⟩ := id (show DeckIn a b n H from bs.ok)
  have at0 : ∀ m : Int, atI [V.ref b, .int m] 0 = some (.ref b) := fun _ => rfl
  have at1 : ∀ m : Int, atI [V.ref b, .int m] 1 = some (.int m) := fun _ => rfl
  -- deck[1] = deck[1] + 1
  refine ⟨_, rfl, a, _, 1, _, rfl, rfl, .inl (.inl ha), at1 _, (n : Int), 1, rfl, rfl, _, rfl, a, _, 1, 1, rfl, rfl, ha, rfl, ?_⟩
  have ha1 : (upd H a (.lst ([V.ref b, .int (n : Int)].set 1 (.int ((n : Int) + 1))))) a = some (.lst [.ref b, .int ((n : Int) + 1)]) := upd_same
  have hb1' : (upd H a (.lst ([V.ref b, .int (n : Int)].set 1 (.int ((n : Int) + 1))))) b = some (.lst (cs.map V.int)) := by rw [upd_ne (Ne.symm nab)]; exact hb
  have oth : ∀ y, y ≠ a → y ≠ b → (upd H a (.lst ([V.ref b, .int (n : Int)].set 1 (.int ((n : Int) + 1))))) y = H y := fun y n1 _ => upd_ne n1
  generalize upd H a (.lst ([V.ref b, .int (n : Int)].set 1 (.int ((n : Int) + 1)))) = H1 at *
  have fin : ∀ H3 (x : Int), 0 ≤ x → x < bd → (∀ y, y ≠ a → y ≠ b → H3 y = H1 y) → DeckIn a b (n + 1) H3 → Q (.int x) H3 := fun H3 x x0 x1 h1 h2 =>
    q x x0 x1 F0 H3 _ (deck_stp bs (fun y n1 n2 => (h1 y n1 n2).trans (oth y n1 n2)) h2) rfl
  -- cell, at = (0, -1)
  refine ⟨1, rfl, by show 2 ≤ sizeLine; decide, fun l hl => ⟨l, _, rfl, .inl (.inl upd_same), rfl, _, _, rfl, _, _, rfl, rfl, ?_⟩⟩
  have la : a ≠ l := ne_of_none ha1 hl
  have lb : b ≠ l := ne_of_none hb1' hl
  have hl0 : H l = none := by rw [← oth l (Ne.symm la) (Ne.symm lb)]; exact hl
  have ha2 : (upd H1 l (.tup [.int 0, .int (-1)])) a = some (.lst [.ref b, .int ((n : Int) + 1)]) := by rw [upd_ne la]; exact ha1
  have hb2 : (upd H1 l (.tup [.int 0, .int (-1)])) b = some (.lst (cs.map V.int)) := by rw [upd_ne lb]; exact hb1'
  have sH : Stp (deckRg a b n) F0 H F0 (upd H l (.tup [.int 0, .int (-1)])) := bs.hide hl0 _
  have fin2 : ∀ H3 (x : Int), 0 ≤ x → x < bd → (∀ y, y ≠ a → y ≠ b → H3 y = (upd H1 l (.tup [.int 0, .int (-1)])) y) → DeckIn a b (n + 1) H3 → Q (.int x) H3 := fun H3 x x0 x1 h1 h2 => by
    refine q x x0 x1 F0 H3 _ (Stp.transZ (fm := deckFam a b) (s := n) (t := n + 1) sH (deck_stp (n := n) (sH.bs bs) (fun y n1 n2 => (h1 y n1 n2).trans ?_) h2)) rfl
    by_cases c : y = l
    · subst c; rw [upd_same, upd_same]
    · rw [upd_ne c, upd_ne c]; exact oth y n1 n2
  generalize upd H1 l (.tup [.int 0, .int (-1)]) = H2 at *
  -- if len(deck[0]) > 0
  refine ⟨fun σ' H' => ∃ x y : Int, σ' = [some (V.ref a), some (V.int bd), some (V.int x), some (V.int y), none] ∧ H' = H2 ∧ 0 ≤ x ∧ (0 < x → ∃ j : Nat, y = (j : Int) ∧ cs[j]? = some x), ?_, ?_⟩
  · refine ⟨_, rfl, a, _, 0, _, rfl, rfl, .inl (.inl ha2), at0 _, b, _, rfl, .inl (.inl (.inl hb2)), _, 0, rfl, rfl, _, rfl, ite2 (fun hc => ?_) (fun hc => ?_)⟩
    · have hlen : (0 : Int) < (cs.map V.int).length := by simpa using hc
      obtain ⟨j, hj⟩ : ∃ j : Nat, ((n : Int) + 1) % ((cs.map V.int).length : Int) = (j : Int) := ⟨(((n : Int) + 1) % ((cs.map V.int).length : Int)).toNat, (Int.toNat_of_nonneg (Int.emod_nonneg _ (by omega))).symm⟩
      have hjl : j < cs.length := by
        have := Int.emod_lt_of_pos ((n : Int) + 1) hlen
        rw [hj, List.length_map] at this; omega
      have hget : (cs.map V.int)[j]? = some (.int cs[j]) := by rw [List.getElem?_map, List.getElem?_eq_getElem hjl]; rfl
      refine ⟨_, rfl, a, _, 1, _, rfl, rfl, .inl (.inl ha2), at1 _, .inl ⟨(n : Int) + 1, rfl, _, rfl, a, _, 0, _, rfl, rfl, .inl (.inl ha2), at0 _, b, _, rfl, .inl (.inl (.inl hb2)), (n : Int) + 1, _, rfl, rfl, hlen, ?_⟩⟩
      refine ⟨_, rfl, a, _, 0, _, rfl, rfl, .inl (.inl ha2), at0 _, _, rfl, b, _, _, .int cs[j], rfl, rfl, .inl (.inl hb2), by rw [hj]; exact atI_nat hget, ?_⟩
      refine ⟨cs[j], (j : Int), ?_, rfl, cpos _ (List.getElem_mem hjl), fun _ => ⟨j, rfl, List.getElem?_eq_getElem hjl⟩⟩
      rw [← hj]
      rfl
    · exact ⟨0, -1, rfl, rfl, Int.le_refl _, fun z => absurd z (by decide)⟩
  rintro σ' H' ⟨x, y, rfl, rfl, x0, hx⟩
  refine ⟨_, rfl, 10, 18, rfl, rfl, ⟨by decide, by decide, by decide⟩, x, _, rfl, rfl, _, rfl, ite2 (fun hc => ?_) (fun hc => ?_)⟩
  · have hc : (10 : Int) ^ 18 ≤ x := by simpa using hc
    obtain ⟨j, rfl, hj⟩ := hx (by omega)
    have hjl : j < cs.length := (List.getElem?_eq_some_iff.mp hj).1
    have hmod : 0 ≤ x % bd ∧ x % bd < bd := ⟨Int.emod_nonneg _ (by omega), Int.emod_lt_of_pos _ hb0⟩
    refine ⟨_, rfl, .inl ⟨x, rfl, _, rfl, x, bd, rfl, rfl, wide_div hb0 (b := 62) (by omega) (by decide) (by decide), ?_⟩⟩
    refine ⟨_, rfl, a, _, 0, _, rfl, rfl, .inl (.inl ha2), at0 _, _, rfl, b, _, (j : Int), j, rfl, rfl, hb2, by unfold ixN; rw [if_pos (by omega), if_pos (by rw [List.length_map]; omega)]; rfl, ?_⟩
    refine ⟨_, rfl, .inl ⟨x, rfl, _, rfl, x, bd, rfl, rfl, hb0, fin2 _ _ hmod.1 hmod.2 (fun y n1 n2 => upd_ne n2) ?_⟩⟩
    refine ⟨nab, cs.set j (x / bd), by rw [upd_ne nab]; exact ha2, by rw [upd_same, List.map_set], by rw [List.length_set]; exact lc, fun c hc => ?_⟩
    rcases List.mem_or_eq_of_mem_set hc with h | h
    · exact cpos c h
    · rw [h]; exact Int.ediv_nonneg x0 (by omega)
  · refine ⟨_, rfl, .inl ⟨x, rfl, x, 2147483477, rfl, rfl, (by show (0 : Int) < 2147483477; decide), _, rfl, a, _, 1, _, rfl, rfl, .inl (.inl ha2), at1 _, 11213, (n : Int) + 1, rfl, rfl, .inl ⟨by decide, by decide⟩, _, _, rfl, rfl, _, 7, rfl, rfl, ?_⟩⟩
    have hn : n < 2 ^ 40 := hn
    obtain ⟨m, hm⟩ : ∃ m, x % 2147483477 + 11213 * ((n : Int) + 1) + 7 = m := ⟨_, rfl⟩
    have hm1 : 0 ≤ m ∧ m < 2 ^ 60 := by
      have h1 := Int.emod_nonneg x (show (2147483477 : Int) ≠ 0 by decide)
      have h2 := Int.emod_lt_of_pos x (show (0 : Int) < 2147483477 by decide)
      omega
    refine ⟨_, rfl, m, 5, congrArg V.int hm, rfl, ⟨by decide, by decide, by omega⟩, .inl ⟨_, rfl, _, 2147483543, rfl, rfl, (by show (0 : Int) < 2147483543; decide), .inl ⟨_, rfl, _, rfl, _, bd, rfl, rfl, hb0, ?_⟩⟩⟩
    exact fin2 _ _ (Int.emod_nonneg _ (by omega)) (Int.emod_lt_of_pos _ hb0) (fun _ _ _ => rfl) ⟨nab, cs, ha2, hb2, lc, cpos⟩
/-! ### a new deck -/
abbrev s_law_deck : Stmt := topS 19
theorem sc_law_deck : FnScope ["script", "cell"] ["script"] (defScope s_law_deck) := ⟨rfl, rfl, rfl, by decide +kernel, rfl, by decide +kernel, by decide +kernel⟩
def spDeck (K : PySem.W.Frag) : Sp := fun vs H Q _ => ∃ (a : Addr) (ns : List Int), vs = [.ref a] ∧ SqL K H a (ns.map V.int) ∧ ns.length ≤ 63 ∧
  ∀ H' p b, Same H H' → H p = none → H b = none → DeckIn p b 0 H' → Q (.ref p) H'
theorem same_upd {H : Hp} {p : Addr} {o : HO} (h : H p = none) : Same H (upd H p o) := fun b x e => by
  rw [upd_ne (ne_of_none e h)]; exact e
theorem same_poke {H H' : Hp} {p : Addr} {o : HO} (s : Same H H') (h : H p = none) : Same H (upd H' p o) := fun b x e => by
  rw [upd_ne (ne_of_none e h)]; exact s b x e
def absI (i : Int) : Int := if i < 0 then -i else i
theorem cut_ints (ns : List Int) : ∃ ms : List Int, cutV (ns.map V.int) none (some 63) = ms.map V.int ∧ ms.length ≤ 63 := by
  refine ⟨(ns.drop 0).take (HT.sIx ns.length ns.length (some 63) - 0), ?_, ?_⟩
  · unfold cutV
    rw [List.length_map, HT.sIx_none, List.map_take, List.map_drop]
  · rw [List.length_take]
    have : HT.sIx ns.length ns.length (some 63) = min 63 ns.length := HT.sIx_nat _ _ 63
    omega
theorem ok_law_deck {f : Addr} {fd : FuncData} (F : Fun K "_law_deck" "_law_deck" s_law_deck f fd) (ma : mg "abs" = none) : FnOk P w K mg base CX0 1 f fd ["script"] (spDeck K) := by
  refine F.ok sc_law_deck (fun vs H Q E ⟨a, ns, e, _⟩ => by rw [e]; rfl) (fun cdv A outer s H vs Q E hr h => ?_)
  obtain ⟨a, ns, rfl, hS, hlen, q⟩ := h
  refine ⟨_, pss_one (ps_ret (pe_lst (pa_cons (pe_lc (own := [("cell", 1)]) (g := gName 1) (tt := tYes) (by rfl) sc_law_deck.nd (pi_list (pe_slice sl_list (pv 0) po_none (po_some pe_int)))
      (blkOk_by (own := [("cell", 1)]) (N := ["script", "cell"]) (sc := defScope s_law_deck) (by decide +kernel)) (fun _ _ _ _ _ => pg_name (i := 1) sc_law_deck.nd rfl (Or.inl rfl)) (fun _ _ _ _ _ => pts_nil) (fun _ _ _ _ _ => pe_callB call_abs (by rfl) ma (by decide +kernel) (pa_cons (pv 1) pa_nil)))
      (pa_cons pe_int pa_nil)))), ?_⟩
  obtain ⟨ms, em, lm⟩ := cut_ints ns
  -- script[:63]
  refine ⟨.ref a, rfl, 63, rfl, a, _, rfl, hS, fun p hp => ?_⟩
  rw [em]
  refine ⟨p, rfl, ⟨_, .inl (.inl upd_same)⟩, fun D hD => ?_⟩
  have sm1 : Same H (upd H p (.lst (ms.map V.int))) := same_upd hp
  have hp1 : (upd H p (.lst (ms.map V.int))) p = some (.lst (ms.map V.int)) := upd_same
  generalize upd H p (.lst (ms.map V.int)) = H1 at *
  have hD0 : H D = none := sm1.free hD
  refine lc_list (K := K) (a := p) (xs := ms.map V.int) (fun i H' => Same H1 H' ∧ H' D = some (.lst (((ms.take i).map absI).map V.int))) ⟨same_upd hD, upd_same⟩ (fun i H' _ h => .inl (.inl (h.1 _ _ hp1))) (fun i x H' hx h => ?_) (fun H' h => ?_)
  · refine ⟨rfl, _, rfl, ?_⟩
    rw [List.getElem?_map] at hx
    cases hm : ms[i]? with
    | none => rw [hm] at hx; cases hx
    | some m =>
      rw [hm] at hx; cases hx
      refine ⟨m, rfl, _, h.2, ?_, same_poke h.1 hD, ?_⟩
      · rw [List.length_map, List.length_map, List.length_take]
        exact Nat.lt_of_le_of_lt (Nat.min_le_right _ _) (Nat.lt_of_le_of_lt lm (by decide))
      · rw [upd_same, List.take_add_one, hm]
        simp [absI]
  · have h2 := h.2
    rw [List.length_map, List.take_length] at h2
    have h1 := sm1.trans h.1
    clear h
    refine ⟨by show 2 ≤ sizeLine; decide, fun r hr => ?_⟩
    have rD : D ≠ r := ne_of_none h2 hr
    refine q _ r D (h1.trans (same_upd hr)) (h1.free hr) hD0 ⟨Ne.symm rD, ms.map absI, upd_same, by rw [upd_ne rD]; exact h2, by rw [List.length_map]; omega, fun c hc => ?_⟩
    obtain ⟨m, _, rfl⟩ := List.mem_map.mp hc
    unfold absI
    split <;> omega
end
end PP

set_option Elab.async false
set_option linter.all false
set_option maxRecDepth 100000
set_option maxHeartbeats 2000000
namespace PP
open PySem PySem.Spec PyProof.Rows L2
/-! ### webs as data -/
abbrev SD := D × List Int
abbrev tupI (ns : List Int) : D := .tuple (ns.map PyData.int)
abbrev stD (s : SD) : D := .tuple [s.1, tupI s.2]
abbrev webD (w : List SD) : D := .tuple (w.map stD)
def kindN : Nat → List D
  | 0 => .str "in" :: rgD (-99) 100
  | 1 => [.str "neg"]
  | 2 => [.str "+", .str "-", .str "*"]
  | 3 => [.str "pick"]
  | _ => []
theorem kind0 {d : D} (h : d ∈ [(.str "in" : D), .str "in", .int 7, .int (-99), .int 99, .int 0]) : d ∈ kindN 0 := by
  have q : ∀ i : Int, -99 ≤ i → i < 100 → (PyData.int i) ∈ kindN 0 := fun i h1 h2 => List.mem_cons_of_mem _ (List.mem_map.mpr ⟨(i + 99).toNat, List.mem_range.mpr (by omega), by congr 1; omega⟩)
  simp only [List.mem_cons, List.not_mem_nil, or_false] at h
  rcases h with h | h | h | h | h | h <;> subst h
  · exact List.mem_cons_self
  · exact List.mem_cons_self
  all_goals exact q _ (by decide) (by decide)
def StOk (n : Nat) (s : SD) : Prop := s.2.length ≤ 3 ∧ s.1 ∈ kindN s.2.length ∧ ∀ i ∈ s.2, 0 ≤ i ∧ i < n
def Grown (n : Nat) (w : List SD) : Prop := 1 ≤ w.length ∧ w.length ≤ n ∧ ∀ i s, w[i]? = some s → StOk i s
def Wb (n : Nat) (w : List SD) : Prop := 1 ≤ w.length ∧ w.length ≤ n ∧ (∀ s ∈ w, StOk w.length s) ∧ ∃ rk : Nat → Nat, (∀ i, i < w.length → rk i < w.length) ∧ ∀ i s, w[i]? = some s → ∀ j ∈ s.2, rk j.toNat < rk i
theorem StOk.mono {n m : Nat} {s : SD} (h : StOk n s) (l : n ≤ m) : StOk m s := ⟨h.1, h.2.1, fun i hi => by have := h.2.2 i hi; omega⟩
theorem Grown.wb {n : Nat} {w : List SD} (h : Grown n w) : Wb n w := by
  refine ⟨h.1, h.2.1, fun s hs => ?_, id, fun i hi => hi, fun i s hs j hj => ?_⟩
  · obtain ⟨i, hi, e⟩ := List.mem_iff_getElem.mp hs
    exact (h.2.2 i s (by rw [List.getElem?_eq_getElem hi, e])).mono (by omega)
  · have := (h.2.2 i s hs).2.2 j hj
    simp only [id]
    omega
def rowI (row : List Nat) : List Int := row.map fun (k : Nat) => (k : Int)
def numb (w : List SD) (row : List Nat) : List SD := row.map fun s => ((w.getD s (.none, [])).1, (w.getD s (.none, [])).2.map fun o => ((row.idxOf o.toNat : Nat) : Int))
/-! ### promises -/
def kMixed : KF := fun ds Q => match ds with
  | [_, .list xs] => xs.length ≤ 500 ∧ ∀ ys, ys.Perm xs → Q (.list ys)
  | [_, .tuple xs] => xs.length ≤ 500 ∧ ∀ ys, ys.Perm xs → Q (.list ys)
  | _ => False
theorem kMixed_mono : MonoC kMixed := fun ds Q Q' f q => by
  unfold kMixed at q ⊢
  split at q
  · exact ⟨q.1, fun d h => f _ (q.2 d h)⟩
  · exact ⟨q.1, fun d h => f _ (q.2 d h)⟩
  · exact q.elim
def kKind : KF := fun ds Q => match ds with
  | [_, .int m] => ∃ k : Nat, m = (k : Int) ∧ k ≤ 3 ∧ ∀ d ∈ kindN k, Q d
  | _ => False
theorem kKind_mono : MonoC kKind := fun ds Q Q' f q => by
  unfold kKind at q ⊢
  split at q
  · obtain ⟨k, h1, h2, q⟩ := q
    exact ⟨k, h1, h2, fun d h => f _ (q d h)⟩
  · exact q.elim
def kStep : KF := fun ds Q => match ds with
  | [_, .int a, .int b] => ∃ n r : Nat, a = (n : Int) ∧ b = (r : Int) ∧ n ≤ 500 ∧ 1 ≤ r ∧ r ≤ 500 ∧ ∀ s, StOk n s → Q (stD s)
  | _ => False
theorem kStep_mono : MonoC kStep := fun ds Q Q' f q => by
  unfold kStep at q ⊢
  split at q
  · obtain ⟨n, r, h1, h2, h3, h4, h5, q⟩ := q
    exact ⟨n, r, h1, h2, h3, h4, h5, fun d h => f _ (q d h)⟩
  · exact q.elim
def kGrown : KF := fun ds Q => match ds with
  | [_, .int m] => ∃ n : Nat, m = (n : Int) ∧ 1 ≤ n ∧ n ≤ 100 ∧ ∀ w, Grown n w → Q (webD w)
  | _ => False
theorem kGrown_mono : MonoC kGrown := fun ds Q Q' f q => by
  unfold kGrown at q ⊢
  split at q
  · obtain ⟨k, h1, h2, h3, q⟩ := q
    exact ⟨k, h1, h2, h3, fun d h => f _ (q d h)⟩
  · exact q.elim
abbrev kRowed : KF := kGrown
theorem kRowed_mono : MonoC kRowed := kGrown_mono
def kWeb : KF := fun ds Q => match ds with
  | [_, .int m] => ∃ n : Nat, m = (n : Int) ∧ 1 ≤ n ∧ n ≤ 100 ∧ ∀ w, Wb n w → Q (webD w)
  | _ => False
theorem kWeb_mono : MonoC kWeb := fun ds Q Q' f q => by
  unfold kWeb at q ⊢
  split at q
  · obtain ⟨k, h1, h2, h3, q⟩ := q
    exact ⟨k, h1, h2, h3, fun d h => f _ (q d h)⟩
  · exact q.elim
def kNumb : KF := fun ds Q => ∃ (w : List SD) (row : List Nat), ds = [webD w, .list ((rowI row).map PyData.int)] ∧ row.Perm (List.range w.length) ∧ w.length ≤ 100 ∧ (∀ s ∈ w, StOk w.length s) ∧ Q (webD (numb w row))
theorem kNumb_mono : MonoC kNumb := fun ds Q Q' f q => by
  obtain ⟨w, row, h1, h2, h3, h4, q⟩ := q
  exact ⟨w, row, h1, h2, h3, h4, f _ q⟩

theorem erase_perm {α : Type} : ∀ (xs : List α) (j : Nat) (h : j < xs.length), (xs[j] :: xs.eraseIdx j).Perm xs
  | x :: xs, 0, _ => List.Perm.refl _
  | x :: xs, j + 1, h => (List.Perm.swap _ _ _).trans ((erase_perm xs j (by simpa using h)).cons x)
theorem mem_rgD {a b : Int} {y : D} (h : y ∈ rgD a b) : ∃ i, y = .int i ∧ a ≤ i ∧ i < b := by
  unfold rgD at h
  obtain ⟨k, hk, rfl⟩ := List.mem_map.mp h
  have := List.mem_range.mp hk
  exact ⟨_, rfl, by omega, by omega⟩
theorem len_rgD {a b : Int} : (rgD a b).length = (b - a).toNat := by simp [rgD]
theorem al_ints {P : Int → Prop} : ∀ {xs ys : List D}, Al (fun _ y => ∃ i, y = PyData.int i ∧ P i) xs ys → ∃ is : List Int, ys = is.map PyData.int ∧ is.length = xs.length ∧ ∀ i ∈ is, P i
  | [], _, h => ⟨[], h, rfl, fun _ z => by simp at z⟩
  | x :: xs, _, ⟨y, r, e, ⟨i, ey, hp⟩, t⟩ => by
    obtain ⟨is, h1, h2, h3⟩ := al_ints t
    refine ⟨i :: is, by rw [e, ey, h1]; rfl, by simp [h2], fun j hj => ?_⟩
    rcases List.mem_cons.mp hj with z | hj
    · rw [z]; exact hp
    · exact h3 j hj
theorem line_big : (1000000 : Nat) ≤ sizeLine := by decide

theorem rgD_cons {a b : Int} (h : a < b) : rgD a b = .int a :: rgD (a + 1) b := by
  unfold rgD
  have e : (b - a).toNat = (b - (a + 1)).toNat + 1 := by omega
  rw [e, List.range_succ_eq_map, List.map_cons, List.map_map]
  congr 1
  · simp
  · apply List.map_congr_left
    intro k _
    simp
    omega
theorem perm_map {α β : Type} (f : α → β) : ∀ {xs : List α} {ys : List β}, ys.Perm (xs.map f) → ∃ zs : List α, zs.Perm xs ∧ ys = zs.map f := by
  intro xs ys h
  induction ys generalizing xs with
  | nil =>
    have := h.length_eq
    simp at this
    have e : xs = [] := List.length_eq_zero_iff.mp this.symm
    subst e
    exact ⟨[], List.Perm.refl _, rfl⟩
  | cons y ys ih =>
    have hm : y ∈ xs.map f := h.mem_iff.mp List.mem_cons_self
    obtain ⟨x, hx, rfl⟩ := List.mem_map.mp hm
    obtain ⟨l, r, rfl⟩ := List.append_of_mem hx
    have h2 : ys.Perm ((l ++ r).map f) := by
      have : (f x :: ys).Perm (f x :: (l ++ r).map f) := h.trans (by simp only [List.map_append, List.map_cons]; exact List.perm_middle)
      exact this.cons_inv
    obtain ⟨zs, hz, rfl⟩ := ih h2
    exact ⟨x :: zs, (hz.cons x).trans List.perm_middle.symm, rfl⟩
theorem perm_row {n : Nat} {ys : List D} (h : ys.Perm ((rowI (List.range n)).map PyData.int)) : ∃ row : List Nat, row.Perm (List.range n) ∧ ys = (rowI row).map PyData.int := by
  unfold rowI at h
  rw [List.map_map] at h
  obtain ⟨zs, hz, e⟩ := perm_map _ h
  exact ⟨zs, hz, by rw [e, rowI, List.map_map]⟩
theorem numb_len {w : List SD} {row : List Nat} : (numb w row).length = row.length := by simp [numb]
theorem numb_wb {n : Nat} {w : List SD} {row : List Nat} (h : Wb n w) (hp : row.Perm (List.range w.length)) : Wb n (numb w row) := by
  obtain ⟨a1, a2, a3, rk, a4, a5⟩ := h
  have hl : row.length = w.length := by rw [hp.length_eq, List.length_range]
  have mem : ∀ k, k ∈ row ↔ k < w.length := fun k => by rw [hp.mem_iff, List.mem_range]
  have nd : row.Nodup := hp.nodup_iff.mpr List.nodup_range
  have at_ : ∀ (i : Nat) (s : SD), (numb w row)[i]? = some s → ∃ k : Nat, row[i]? = some k ∧ ∃ hk : k < w.length, s = (w[k].1, w[k].2.map fun o => ((row.idxOf o.toNat : Nat) : Int)) := by
    intro i s hs
    unfold numb at hs
    rw [List.getElem?_map] at hs
    cases q : row[i]? with
    | none => rw [q] at hs; cases hs
    | some k =>
      rw [q] at hs
      have hk : k < w.length := (mem k).mp (List.mem_of_getElem? q)
      refine ⟨k, rfl, hk, ?_⟩
      have e : w.getD k (.none, []) = w[k] := by rw [List.getD_eq_getElem?_getD, List.getElem?_eq_getElem hk]; rfl
      simp only [Option.map_some, Option.some.injEq, e] at hs
      exact hs.symm
  refine ⟨by rw [numb_len]; omega, by rw [numb_len]; omega, fun s hs => ?_, fun i => rk (row.getD i 0), fun i hi => ?_, fun i s hs j hj => ?_⟩
  · obtain ⟨i, hi, e⟩ := List.mem_iff_getElem.mp hs
    obtain ⟨k, _, hk, rfl⟩ := at_ i s (by rw [List.getElem?_eq_getElem hi, e])
    obtain ⟨b1, b2, b3⟩ := a3 w[k] (List.getElem_mem hk)
    refine ⟨by simpa using b1, by simpa using b2, fun z hz => ?_⟩
    obtain ⟨o, ho, rfl⟩ := List.mem_map.mp hz
    have := b3 o ho
    rw [numb_len]
    have : row.idxOf o.toNat < row.length := List.idxOf_lt_length_of_mem ((mem _).mpr (by omega))
    omega
  · rw [numb_len] at hi ⊢
    have e : row.getD i 0 = row[i] := by rw [List.getD_eq_getElem?_getD, List.getElem?_eq_getElem hi]; rfl
    show rk (row.getD i 0) < row.length
    rw [e, hl]
    exact a4 _ ((mem _).mp (List.getElem_mem hi))
  · obtain ⟨k, hk1, hk, rfl⟩ := at_ i s hs
    obtain ⟨o, ho, rfl⟩ := List.mem_map.mp hj
    have b := (a3 w[k] (List.getElem_mem hk)).2.2 o ho
    have lt : row.idxOf o.toNat < row.length := List.idxOf_lt_length_of_mem ((mem _).mpr (by omega))
    have e1 : row.getD i 0 = k := by rw [List.getD_eq_getElem?_getD, hk1]; rfl
    have e2 : row.getD (((row.idxOf o.toNat : Nat) : Int).toNat) 0 = o.toNat := by
      rw [Int.toNat_natCast, List.getD_eq_getElem?_getD, List.getElem?_eq_getElem lt]
      simp
    show rk (row.getD (((row.idxOf o.toNat : Nat) : Int).toNat) 0) < rk (row.getD i 0)
    rw [e1, e2]
    exact a5 k w[k] (List.getElem?_eq_getElem hk) o ho
end PP

set_option Elab.async false
set_option linter.all false
set_option maxRecDepth 100000
set_option maxHeartbeats 2000000
namespace PP
open PySem PySem.Spec PyProof.Rows L2
/-- the ties into step t -/
def tiesAt (t : Nat) (s : SD) : List (List Int) := s.2.mapIdx fun p g => [g, (t : Int), (p : Int)]
def tiesL (w : List SD) : List (List Int) := (w.mapIdx tiesAt).flatten
/-- a row of ties from a to b -/
def Tie (w : List SD) (a b : Nat) : Prop := ∃ s, w[b]? = some s ∧ (a : Int) ∈ s.2
inductive Reach (w : List SD) : Nat → Nat → Prop
  | one {a b : Nat} : Tie w a b → Reach w a b
  | more {a b c : Nat} : Tie w a b → Reach w b c → Reach w a c
def kTies : KF := fun ds Q => ∃ w : List SD, ds = [webD w] ∧ Wb 100 w ∧ Q (.tuple ((srtR (tiesL w)).map rowD))
theorem kTies_mono : MonoC kTies := fun ds Q Q' f ⟨w, h1, h2, q⟩ => ⟨w, h1, h2, f _ q⟩
def kTiesL : KF := fun ds Q => ∃ w : List SD, ds = [webD w] ∧ Wb 100 w ∧ Q (.list ((srtR (tiesL w)).map rowD))
theorem kTiesL_mono : MonoC kTiesL := fun ds Q Q' f ⟨w, h1, h2, q⟩ => ⟨w, h1, h2, f _ q⟩
/-- steps that give nothing -/
def resL (w : List SD) : List Int := (rowI (List.range w.length)).filter fun k => !((srtR (tiesL w)).any fun r => r.getD 0 0 == k)
def kRes : KF := fun ds Q => ∃ w : List SD, ds = [webD w] ∧ Wb 100 w ∧ Q (tupI (resL w))
theorem kRes_mono : MonoC kRes := fun ds Q Q' f ⟨w, h1, h2, q⟩ => ⟨w, h1, h2, f _ q⟩
def kJoin : KF := fun ds Q => ∃ w : List SD, ds = [webD w] ∧ Wb 10 w ∧ ∀ L : List (List Int), L.length = w.length → (∀ i l, L[i]? = some l → ∀ k : Int, k ∈ l ↔ ∃ b : Nat, k = b ∧ Reach w i b) → Q (.list (L.map fun l => .list (l.map PyData.int)))
theorem kJoin_mono : MonoC kJoin := fun ds Q Q' f ⟨w, h1, h2, q⟩ => ⟨w, h1, h2, fun L a b => f _ (q L a b)⟩
def kAhead : KF := fun ds Q => ∃ (w : List SD) (k : Nat), ds = [webD w, .int k] ∧ Wb 100 w ∧ k < w.length ∧ ∀ l : List Int, (∀ a : Int, a ∈ l ↔ ∃ b : Nat, a = b ∧ Reach w b k) → Q (.list (l.map PyData.int))
theorem kAhead_mono : MonoC kAhead := fun ds Q Q' f ⟨w, k, h1, h2, h3, q⟩ => ⟨w, k, h1, h2, h3, fun l h => f _ (q l h)⟩
open Classical in
def kLeads : KF := fun ds Q => ∃ (w : List SD) (a b : Nat), ds = [webD w, .int a, .int b] ∧ Wb 100 w ∧ a < w.length ∧ b < w.length ∧ Q (.bool (decide (Reach w a b)))
theorem kLeads_mono : MonoC kLeads := fun ds Q Q' f ⟨w, a, b, h1, h2, h3, h4, q⟩ => ⟨w, a, b, h1, h2, h3, h4, f _ q⟩

def tiesTo (w : List SD) (i : Nat) : List (List Int) := ((w.mapIdx tiesAt).take i).flatten
theorem tiesTo_all (w : List SD) : tiesTo w w.length = tiesL w := by
  unfold tiesTo tiesL
  rw [List.take_of_length_le (by simp)]
theorem tiesTo_succ {w : List SD} {i : Nat} (h : i < w.length) : tiesTo w (i + 1) = tiesTo w i ++ tiesAt i w[i] := by
  unfold tiesTo
  rw [List.take_succ_eq_append_getElem (by simpa using h), List.flatten_append]
  simp
theorem tiesAt_len (i : Nat) (s : SD) : (tiesAt i s).length = s.2.length := by simp [tiesAt]
theorem tiesTo_len {w : List SD} (h : ∀ s ∈ w, s.2.length ≤ 3) : ∀ i, i ≤ w.length → (tiesTo w i).length ≤ 3 * i
  | 0, _ => by simp [tiesTo]
  | i + 1, hi => by
    rw [tiesTo_succ (by omega), List.length_append, tiesAt_len]
    have := tiesTo_len h i (by omega)
    have := h w[i] (List.getElem_mem (by omega))
    omega
theorem tiesL_ne {w : List SD} : ∀ n ∈ tiesL w, n ≠ [] := by
  intro n hn
  unfold tiesL at hn
  obtain ⟨l, hl, hn⟩ := List.mem_flatten.mp hn
  obtain ⟨i, hi, e⟩ := List.mem_iff_getElem.mp hl
  rw [List.getElem_mapIdx] at e
  subst e
  unfold tiesAt at hn
  obtain ⟨j, hj, e⟩ := List.mem_iff_getElem.mp hn
  rw [List.getElem_mapIdx] at e
  rw [← e]
  simp
def tieF1 (i : Nat) (ins : List Int) : D → D
  | .int p => rowD [ins.getD p.toNat 0, (i : Int), p]
  | d => d
def tieF2 (i : Nat) : D → D
  | .tuple [.int p, .int g] => rowD [g, (i : Int), p]
  | d => d
def headF : D → D
  | .tuple (x :: _) => x
  | d => d
def resP (w : List SD) : D → Bool
  | .int k => !((srtR (tiesL w)).any fun r => r.getD 0 0 == k)
  | _ => false
/-- ties of one step, as data, by place -/
theorem tiesAt_rg (i : Nat) (s : SD) : (rgD 0 (s.2.length : Int)).map (tieF1 i s.2) = (tiesAt i s).map rowD := by
  apply List.ext_getElem
  · simp [len_rgD, tiesAt]
  · intro k h1 h2
    simp [len_rgD] at h1
    simp [rgD, tiesAt, h1, tieF1]
theorem tiesAt_en (i : Nat) (s : SD) : (enD (s.2.map PyData.int)).map (tieF2 i) = (tiesAt i s).map rowD := by
  apply List.ext_getElem
  · simp [enD_len, tiesAt]
  · intro k h1 h2
    have h1 : k < s.2.length := by simpa [enD_len] using h1
    simp [enD, tiesAt, h1, tieF2]
end PP

set_option Elab.async false
set_option linter.all false
set_option maxRecDepth 100000
set_option maxHeartbeats 2000000
namespace PP
open PySem PySem.Spec PyProof.Rows L2
/-! ### rows of ties -/
theorem Reach.trans {w : List SD} {a b c : Nat} (h : Reach w a b) (h' : Reach w b c) : Reach w a c := by
  induction h with
  | one t => exact .more t h'
  | more t _ ih => exact .more t (ih h')
/-- of at most t + 1 ties -/
def RL (w : List SD) : Nat → Nat → Nat → Prop
  | 0, a, b => Tie w a b
  | t + 1, a, c => RL w t a c ∨ ∃ b, Tie w a b ∧ RL w t b c
theorem RL.mono {w : List SD} {t u a b : Nat} (h : RL w t a b) (l : t ≤ u) : RL w u a b := by
  induction l with
  | refl => exact h
  | step _ ih => exact .inl ih
theorem RL.reach {w : List SD} : ∀ {t a b : Nat}, RL w t a b → Reach w a b
  | 0, _, _, h => .one h
  | _ + 1, _, _, .inl h => h.reach
  | _ + 1, _, _, .inr ⟨_, t, h⟩ => .more t h.reach
theorem Reach.rl {w : List SD} {rk : Nat → Nat} (hr : ∀ i s, w[i]? = some s → ∀ j ∈ s.2, rk (Int.toNat j) < rk i) {a b : Nat} (h : Reach w a b) : ∃ t, t + 1 + rk a ≤ rk b ∧ RL w t a b := by
  induction h with
  | @one a b t =>
    obtain ⟨s, h1, h2⟩ := t
    have := hr b s h1 a h2
    rw [Int.toNat_natCast] at this
    exact ⟨0, by omega, ⟨s, h1, h2⟩⟩
  | @more a b c t _ ih =>
    obtain ⟨u, h, r⟩ := ih
    obtain ⟨s, h1, h2⟩ := id t
    have := hr b s h1 a h2
    rw [Int.toNat_natCast] at this
    exact ⟨u + 1, by omega, .inr ⟨b, t, r⟩⟩
theorem Reach.all {n : Nat} {w : List SD} (hw : Wb n w) {a b : Nat} (h : Reach w a b) : RL w w.length a b := by
  obtain ⟨_, _, _, rk, h1, h2⟩ := hw
  have hb : b < w.length := by
    clear h1 h2
    induction h with
    | one t => obtain ⟨s, e, _⟩ := t; exact (List.getElem?_eq_some_iff.mp e).1
    | more _ _ ih => exact ih
  obtain ⟨t, l, r⟩ := h.rl h2
  have := h1 b hb
  exact r.mono (by omega)
theorem Tie.lt {n : Nat} {w : List SD} (hw : Wb n w) {a b : Nat} (h : Tie w a b) : a < w.length ∧ b < w.length := by
  obtain ⟨s, e, m⟩ := h
  have hb := (List.getElem?_eq_some_iff.mp e).1
  have := (hw.2.2.1 s (List.mem_of_getElem? e)).2.2 _ m
  exact ⟨by omega, hb⟩
theorem Reach.lt {n : Nat} {w : List SD} (hw : Wb n w) {a b : Nat} (h : Reach w a b) : a < w.length ∧ b < w.length := by
  induction h with
  | one t => exact t.lt hw
  | more t _ ih => exact ⟨(t.lt hw).1, ih.2⟩
theorem pig : ∀ (n : Nat) (l : List Int), l.Nodup → (∀ x ∈ l, 0 ≤ x ∧ x < n) → l.length ≤ n
  | 0, l, _, h => by
    cases l with
    | nil => simp
    | cons x l => have := h x List.mem_cons_self; omega
  | n + 1, l, nd, h => by
    by_cases hm : (n : Int) ∈ l
    · have := pig n (l.erase n) (nd.erase _) fun x hx => by
        have h1 := h x (List.mem_of_mem_erase hx)
        have h2 : x ≠ n := fun e => by subst e; exact (List.Nodup.not_mem_erase nd) hx
        omega
      rw [List.length_erase_of_mem hm] at this
      omega
    · have := pig n l nd fun x hx => by
        have h1 := h x hx
        have h2 : x ≠ n := fun e => hm (e ▸ hx)
        omega
      omega
theorem mem_tiesL {w : List SD} {r : List Int} : r ∈ tiesL w ↔ ∃ (t p : Nat) (s : SD) (g : Int), w[t]? = some s ∧ s.2[p]? = some g ∧ r = [g, (t : Int), (p : Int)] := by
  unfold tiesL
  rw [List.mem_flatten]
  constructor
  · rintro ⟨l, hl, hr⟩
    obtain ⟨t, ht, e⟩ := List.mem_iff_getElem.mp hl
    rw [List.getElem_mapIdx] at e
    subst e
    obtain ⟨p, hp, e⟩ := List.mem_iff_getElem.mp hr
    have lt : t < w.length := by simpa using ht
    have lp : p < w[t].2.length := by rw [← tiesAt_len t]; exact hp
    have e2 : (tiesAt t w[t])[p]? = some r := by rw [List.getElem?_eq_getElem hp, e]
    have e3 : (tiesAt t w[t])[p]? = some [w[t].2[p], (t : Int), (p : Int)] := by simp [tiesAt, lp]
    rw [e3] at e2
    exact ⟨t, p, w[t], w[t].2[p], List.getElem?_eq_getElem lt, List.getElem?_eq_getElem lp, (Option.some.inj e2).symm⟩
  · rintro ⟨t, p, s, g, h1, h2, rfl⟩
    obtain ⟨lt, e1⟩ := List.getElem?_eq_some_iff.mp h1
    obtain ⟨lp, e2⟩ := List.getElem?_eq_some_iff.mp h2
    refine ⟨tiesAt t s, List.mem_iff_getElem.mpr ⟨t, by simpa using lt, by rw [List.getElem_mapIdx, e1]⟩, List.mem_of_getElem? (i := p) (by simp [tiesAt, lp, e2])⟩
/-- what takes from a step -/
def takersP (a : Int) (r : List Int) : Bool := r.getD 0 0 == a
def takers (w : List SD) (a : Nat) : List Int := ((srtR (tiesL w)).filter (takersP a)).map fun r => r.getD 1 0
theorem mem_takers {w : List SD} {a : Nat} {k : Int} : k ∈ takers w a ↔ ∃ b : Nat, k = (b : Int) ∧ Tie w a b := by
  unfold takers
  rw [List.mem_map]
  constructor
  · rintro ⟨r, hr, rfl⟩
    obtain ⟨h1, h2⟩ := List.mem_filter.mp hr
    obtain ⟨t, p, s, g, e1, e2, rfl⟩ := mem_tiesL.mp ((srtR_perm _).mem_iff.mp h1)
    have e : g = (a : Int) := by simpa [takersP] using h2
    subst e
    exact ⟨t, rfl, s, e1, List.mem_of_getElem? e2⟩
  · rintro ⟨b, rfl, s, e1, m⟩
    obtain ⟨p, hp, e2⟩ := List.mem_iff_getElem.mp m
    refine ⟨[(a : Int), (b : Int), (p : Int)], List.mem_filter.mpr ⟨(srtR_perm _).mem_iff.mpr (mem_tiesL.mpr ⟨b, p, s, _, e1, by rw [List.getElem?_eq_getElem hp, e2], rfl⟩), by simp [takersP]⟩, rfl⟩
theorem takers_len (w : List SD) (a : Nat) : (takers w a).length ≤ (tiesL w).length := by
  unfold takers
  rw [List.length_map, ← (srtR_perm (tiesL w)).length_eq]
  exact List.length_filter_le _ _
end PP

set_option Elab.async false
set_option linter.all false
set_option maxRecDepth 100000
set_option maxHeartbeats 2000000
namespace PP
open PySem PySem.Spec PyProof.Rows L2
def lstI (l : List Int) : D := .list (l.map PyData.int)
def takersF (w : List SD) : D → D
  | .int a => lstI (takers w a.toNat)
  | d => d
def takersPD (a : Int) : D → Bool
  | .tuple (.int g :: _) => g == a
  | .tuple [] => (0 : Int) == a
  | _ => false
def takerF : D → D
  | .tuple (_ :: x :: _) => x
  | d => d
/-- how far the joining is: step j as far as rows of T j + 1 ties -/
structure JInv (w : List SD) (T : Nat → Nat) (L : List (List Int)) : Prop where
  len : L.length = w.length
  few : ∀ (i : Nat) (l : List Int), L[i]? = some l → l.length ≤ 30
  sound : ∀ (i : Nat) (l : List Int), L[i]? = some l → ∀ k ∈ l, ∃ b : Nat, k = (b : Int) ∧ Reach w i b
  full : ∀ (i : Nat) (l : List Int), L[i]? = some l → ∀ b : Nat, RL w (T i) i b → (b : Int) ∈ l
theorem jinv0 {w : List SD} (hw : Wb 10 w) (hf : (tiesL w).length ≤ 30) : JInv w (fun _ => 0) ((List.range w.length).map (takers w)) := by
  have at_ : ∀ (i : Nat) (l : List Int), ((List.range w.length).map (takers w))[i]? = some l → l = takers w i := by
    intro i l h
    rw [List.getElem?_map] at h
    by_cases hi : i < w.length
    · rw [List.getElem?_range hi] at h
      cases h
      rfl
    · rw [List.getElem?_eq_none (by simpa using hi)] at h
      cases h
  refine ⟨by simp, fun i l h => ?_, fun i l h k hk => ?_, fun i l h b hb => ?_⟩
  · rw [at_ i l h]
    exact Nat.le_trans (takers_len w i) hf
  · rw [at_ i l h] at hk
    obtain ⟨b, e, t⟩ := mem_takers.mp hk
    exact ⟨b, e, .one t⟩
  · rw [at_ i l h]
    exact mem_takers.mpr ⟨b, rfl, hb⟩
theorem JInv.all {w : List SD} {t : Nat} {L : List (List Int)} (J : JInv w (fun j => if j < w.length then t + 1 else t) L) : JInv w (fun _ => t + 1) L := by
  refine ⟨J.len, J.few, J.sound, fun i l h b hb => J.full i l h b ?_⟩
  have hi : i < w.length := by rw [← J.len]; exact (List.getElem?_eq_some_iff.mp h).1
  show RL w (if i < w.length then t + 1 else t) i b
  rw [if_pos hi]
  exact hb
theorem jinvS {w : List SD} {t i : Nat} {L : List (List Int)} (hw : Wb 10 w) (J : JInv w (fun j => if j < i then t + 1 else t) L) (hi : i < w.length) (hL : i < L.length) (more : List Int)
    (hm : ∀ c, c ∈ more ↔ c ∈ L[i] ∨ ∃ (b : Nat) (l : List Int), (b : Int) ∈ L[i] ∧ L[b]? = some l ∧ c ∈ l) : JInv w (fun j => if j < i + 1 then t + 1 else t) (L.set i (setI more)) ∧ (setI more).length ≤ 10 := by
  have sd : ∀ c ∈ more, ∃ b : Nat, c = (b : Int) ∧ Reach w i b := by
    intro c hc
    rcases (hm c).mp hc with h | ⟨b, l, h1, h2, h3⟩
    · exact J.sound i _ (List.getElem?_eq_getElem hL) c h
    · obtain ⟨d, e, r⟩ := J.sound b l h2 c h3
      obtain ⟨d2, e2, r2⟩ := J.sound i _ (List.getElem?_eq_getElem hL) _ h1
      have : d2 = b := by omega
      subst this
      exact ⟨d, e, r2.trans r⟩
  have few : (setI more).length ≤ 10 := by
    refine Nat.le_trans (pig w.length _ setI_nodup fun x hx => ?_) hw.2.1
    obtain ⟨b, e, r⟩ := sd x (mem_setI.mp hx)
    have := (r.lt hw).2
    omega
  have at_ : ∀ (j : Nat) (l : List Int), (L.set i (setI more))[j]? = some l → (j = i ∧ l = setI more) ∨ (j ≠ i ∧ L[j]? = some l) := by
    intro j l h
    rw [List.getElem?_set] at h
    by_cases c : i = j
    · subst c
      rw [if_pos rfl, if_pos hL] at h
      cases h
      exact .inl ⟨rfl, rfl⟩
    · rw [if_neg c] at h
      exact .inr ⟨fun e => c e.symm, h⟩
  refine ⟨⟨by rw [List.length_set]; exact J.len, fun j l h => ?_, fun j l h k hk => ?_, fun j l h b hb => ?_⟩, few⟩
  · rcases at_ j l h with ⟨rfl, rfl⟩ | ⟨_, h⟩
    · omega
    · exact J.few j l h
  · rcases at_ j l h with ⟨rfl, rfl⟩ | ⟨_, h⟩
    · exact sd k (mem_setI.mp hk)
    · exact J.sound j l h k hk
  · have hb : RL w (if j < i + 1 then t + 1 else t) j b := hb
    rcases at_ j l h with ⟨rfl, rfl⟩ | ⟨hj, h⟩
    · rw [if_pos (by omega)] at hb
      refine mem_setI.mpr ((hm b).mpr ?_)
      have hT : ∀ d, RL w t j d → (d : Int) ∈ L[j] := fun d hd => J.full j _ (List.getElem?_eq_getElem hL) d (by
        show RL w (if j < j then t + 1 else t) j d
        rw [if_neg (by omega)]; exact hd)
      rcases hb with hb | ⟨d, tie, hb⟩
      · exact .inl (hT b hb)
      · have ld : d < L.length := by rw [J.len]; exact (tie.lt hw).2
        refine .inr ⟨d, L[d], hT d (RL.mono (t := 0) tie (Nat.zero_le _)), List.getElem?_eq_getElem ld, J.full d _ (List.getElem?_eq_getElem ld) b ?_⟩
        show RL w (if d < j then t + 1 else t) d b
        split
        · exact hb.mono (by omega)
        · exact hb
    · refine J.full j l h b ?_
      show RL w (if j < i then t + 1 else t) j b
      by_cases c : j < i
      · rw [if_pos c]
        rw [if_pos (by omega)] at hb
        exact hb
      · rw [if_neg c]
        rw [if_neg (by omega)] at hb
        exact hb
end PP

set_option Elab.async false
set_option linter.all false
set_option maxRecDepth 100000
set_option maxHeartbeats 2000000
namespace PP
open PySem PySem.Spec PyProof.Rows L2
theorem heads_eq (w : List SD) : ((srtR (tiesL w)).map rowD).map headF = ((srtR (tiesL w)).map fun r => r.getD 0 0).map PyData.int := by
  rw [List.map_map, List.map_map]
  apply List.map_congr_left
  intro n hn
  cases n with
  | nil => exact absurd rfl (tiesL_ne _ ((srtR_perm _).mem_iff.mp hn))
  | cons a r => rfl
theorem filt_eq (w : List SD) : ((rgD 0 (w.length : Int)).filter (resP w)).map id = (resL w).map PyData.int := by
  have e3 : rgD 0 (w.length : Int) = (rowI (List.range w.length)).map PyData.int := by simp [rgD, rowI]
  rw [List.map_id, e3, List.filter_map]
  rfl
theorem any_heads (w : List SD) (i : Int) : (((srtR (tiesL w)).map fun r => r.getD 0 0).any (· == i)) = !(resP w (.int i)) := by
  rw [List.any_map]
  show _ = !(!(srtR (tiesL w)).any fun r => r.getD 0 0 == i)
  rw [Bool.not_not]
  rfl
theorem shaped_str {s : Str} (h : PyData.strOk s = true) : SeqAt.shaped (.str s) = true := by
  show (PyData.canLay0 (.str s) && decide (PyData.depth (.str s) ≤ 64)) = true
  simp [PyData.canLay0, PyData.depth, h]
theorem eqv_str (s : Str) : PyData.eqv (.str s) (.str s) = true := by
  simp [PyData.eqv]
theorem sw_kind {k : Nat} {d : D} (h : d ∈ kindN k) : Sw 8 1 d := by
  have key : ∀ k : Nat, ∀ d ∈ kindN k, d.showable = true ∧ d.depth ≤ 1 ∧ d.shown.length ≤ 8 ∧ PyData.strOk d.shown = true ∧ d.hasDict = false := by
    intro k
    match k with
    | 0 =>
      intro d hd
      rcases List.mem_cons.mp hd with h | h
      · subst h; exact ⟨by decide +kernel, by simp [PyData.depth], by decide +kernel, by decide +kernel, rfl⟩
      · obtain ⟨i, rfl, a, b⟩ := mem_rgD h
        have := Sw.int (i := i) (by omega) (by omega)
        exact ⟨this.ok, this.dp, this.ln, this.ch, this.nd⟩
    | 1 =>
      intro d hd
      simp only [kindN, List.mem_cons, List.not_mem_nil, or_false] at hd
      subst hd
      exact ⟨by decide +kernel, by simp [PyData.depth], by decide +kernel, by decide +kernel, rfl⟩
    | 2 =>
      intro d hd
      simp only [kindN, List.mem_cons, List.not_mem_nil, or_false] at hd
      rcases hd with h | h | h <;> subst h <;> exact ⟨by decide +kernel, by simp [PyData.depth], by decide +kernel, by decide +kernel, rfl⟩
    | 3 =>
      intro d hd
      simp only [kindN, List.mem_cons, List.not_mem_nil, or_false] at hd
      subst hd
      exact ⟨by decide +kernel, by simp [PyData.depth], by decide +kernel, by decide +kernel, rfl⟩
    | k + 4 => intro d hd; simp [kindN] at hd
  have := key k d h
  exact ⟨this.1, this.2.1, this.2.2.1, this.2.2.2.1, this.2.2.2.2⟩
theorem sw_ints {ns : List Int} (h : ∀ i ∈ ns, 0 ≤ i ∧ i ≤ 100) : Sw (10 * ns.length + 3) 2 (tupI ns) := by
  have := Sw.tup (c := 8) (k := 1) (ds := ns.map PyData.int) fun d hd => by
    obtain ⟨i, hi, rfl⟩ := List.mem_map.mp hd
    have := h i hi
    exact .int (by omega) (by omega)
  rwa [List.length_map] at this
theorem sw_web {n : Nat} {w : List SD} (hw : Wb n w) (hn : n ≤ 100) : Sw 100000 64 (webD w) := by
  have h1 : ∀ d ∈ w.map stD, Sw 100 3 d := by
    intro d hd
    obtain ⟨s, hs, rfl⟩ := List.mem_map.mp hd
    obtain ⟨a, b, c⟩ := hw.2.2.1 s hs
    have hl := hw.2.1
    have := Sw.tup (c := 33) (k := 2) (ds := [s.1, tupI s.2]) fun d hd => by
      rcases List.mem_cons.mp hd with e | hd
      · subst e; exact (sw_kind b).mono (by omega) (by omega)
      · rcases List.mem_cons.mp hd with e | hd
        · subst e
          exact (sw_ints fun i hi => by have := c i hi; omega).mono (by omega) (by omega)
        · cases hd
    exact this.mono (by simp only [List.length_cons, List.length_nil]; omega) (by omega)
  have := Sw.tup h1
  have hl := hw.2.1
  have := line_big
  exact (Sw.tup h1).mono (by rw [List.length_map]; omega) (by omega)
theorem sw_ties {n : Nat} {w : List SD} (hw : Wb n w) (hn : n ≤ 100) : Sw 100000 64 (.tuple ((srtR (tiesL w)).map rowD)) := by
  have h3 : ∀ s ∈ w, s.2.length ≤ 3 := fun s hs => (hw.2.2.1 s hs).1
  have b2 := tiesTo_len h3 w.length (by omega)
  rw [tiesTo_all] at b2
  have b3 : (srtR (tiesL w)).length = (tiesL w).length := (srtR_perm _).length_eq
  have hl := hw.2.1
  have h1 : ∀ d ∈ (srtR (tiesL w)).map rowD, Sw 33 2 d := by
    intro d hd
    obtain ⟨r, hr, rfl⟩ := List.mem_map.mp hd
    obtain ⟨t, p, s, g, e1, e2, rfl⟩ := mem_tiesL.mp ((srtR_perm _).mem_iff.mp hr)
    have lt := (List.getElem?_eq_some_iff.mp e1).1
    have lp := (List.getElem?_eq_some_iff.mp e2).1
    have m1 := List.mem_of_getElem? e1
    have := h3 s m1
    have := (hw.2.2.1 s m1).2.2 g (List.mem_of_getElem? e2)
    exact sw_ints (ns := [g, (t : Int), (p : Int)]) fun i hi => by
      simp only [List.mem_cons, List.not_mem_nil, or_false] at hi
      rcases hi with h | h | h <;> subst h <;> omega
  have := line_big
  exact (Sw.tup h1).mono (by rw [List.length_map]; omega) (by omega)
theorem sw_res {n : Nat} {w : List SD} (hw : Wb n w) (hn : n ≤ 100) : Sw 100000 64 (tupI (resL w)) := by
  have hl := hw.2.1
  have := line_big
  have hlen : (resL w).length ≤ w.length := by
    unfold resL
    refine Nat.le_trans (List.length_filter_le _ _) ?_
    simp [rowI]
  refine (sw_ints fun i hi => ?_).mono (by omega) (by omega)
  obtain ⟨h1, _⟩ := List.mem_filter.mp hi
  unfold rowI at h1
  obtain ⟨j, hj, rfl⟩ := List.mem_map.mp h1
  have := List.mem_range.mp hj
  omega

theorem rp {d : D} {Q : D → Prop} (h : Sw 100000 64 d) (q : Q (.str d.shown)) : kRpr [d] Q := ⟨h.rpr (by omega) (Nat.le_trans (by omega) line_big), q⟩
/-- the same text twice -/
theorem sh2 {d : D} (h : Sw 100000 64 d) : SeqAt.shaped (.str d.shown) = true ∧ SeqAt.shaped (.str d.shown) = true := ⟨shaped_str h.ch, shaped_str h.ch⟩
theorem Wb.up {n m : Nat} {w : List SD} (h : Wb n w) (l : n ≤ m) : Wb m w := ⟨h.1, Nat.le_trans h.2.1 l, h.2.2.1, h.2.2.2⟩
end PP

set_option Elab.async false
set_option linter.all false
set_option maxRecDepth 100000
set_option maxHeartbeats 2000000
namespace PP
open PySem PySem.Spec PyProof.Rows L2
/-! ### who takes from a step -/
/-- without a word of rings -/
def Wr (n : Nat) (w : List SD) : Prop := 1 ≤ w.length ∧ w.length ≤ n ∧ ∀ s ∈ w, StOk w.length s
theorem Wb.wr {n : Nat} {w : List SD} (h : Wb n w) : Wr n w := ⟨h.1, h.2.1, h.2.2.1⟩
theorem Wr.up {n m : Nat} {w : List SD} (h : Wr n w) (l : n ≤ m) : Wr m w := ⟨h.1, Nat.le_trans h.2.1 l, h.2.2⟩
def tkAt (t : Nat) (ins : List Int) (g : Nat) : List Int := (ins.filter fun i => i == (g : Int)).map fun _ => (t : Int)
def tkTo (w : List SD) : Nat → Nat → List Int
  | 0, _ => []
  | t + 1, g => tkTo w t g ++ (match w[t]? with | some s => tkAt t s.2 g | none => [])
def tk (w : List SD) (g : Nat) : List Int := tkTo w w.length g
def tkP (w : List SD) (t p : Nat) (g : Nat) : List Int := tkTo w t g ++ (match w[t]? with | some s => tkAt t (s.2.take p) g | none => [])
def tkL (w : List SD) (f : Nat → List Int) : D := .list ((List.range w.length).map fun g => .list ((f g).map PyData.int))
def kTakers : KF := fun ds Q => ∃ w : List SD, ds = [webD w] ∧ Wr 100 w ∧ Q (tkL w (tk w))
theorem kTakers_mono : MonoC kTakers := fun ds Q Q' f ⟨w, h1, h2, q⟩ => ⟨w, h1, h2, f _ q⟩
theorem compL_nils {tg : DG} {te : DA} {Q : List (List D) → Prop} {ρ : En} (hs : ∀ (x : D) (k : List D → Prop), k [] → tg x ρ fun ρ' => te ρ' k) : ∀ (xs : List D) (acc : List (List D)), Q (acc ++ xs.map fun _ => []) → compL tg tYesD te Q ρ xs acc
  | [], acc, q => by simpa [compL] using q
  | x :: xs, acc, q => by
    unfold compL
    have := hs x (fun y => compL tg tYesD te Q ρ xs (acc ++ [y])) (compL_nils hs xs _ (by simpa using q))
    exact this
theorem tkAt_len (t g : Nat) (ins : List Int) : (tkAt t ins g).length ≤ ins.length := by
  unfold tkAt; rw [List.length_map]; exact List.length_filter_le _ _
theorem tkTo_len {n : Nat} {w : List SD} (h : Wr n w) (g : Nat) : ∀ t, (tkTo w t g).length ≤ 3 * t
  | 0 => by simp [tkTo]
  | t + 1 => by
    unfold tkTo
    rw [List.length_append]
    have := tkTo_len h g t
    split
    · rename_i s hs
      have := tkAt_len t g s.2
      have := (h.2.2 s (List.mem_of_getElem? hs)).1
      omega
    · simp; omega
theorem tkP_zero (w : List SD) (t : Nat) : tkP w t 0 = tkTo w t := by
  funext g
  unfold tkP
  split <;> simp [tkAt]
theorem tkP_full {w : List SD} {t : Nat} {s : SD} (h : w[t]? = some s) {p : Nat} (hp : s.2.length ≤ p) : tkP w t p = tkTo w (t + 1) := by
  funext g
  unfold tkP
  conv => rhs; unfold tkTo
  rw [h]
  simp only [List.take_of_length_le hp]
theorem tkP_succ {w : List SD} {t : Nat} {s : SD} (h : w[t]? = some s) {p j : Nat} (hp : s.2[p]? = some (j : Int)) (g : Nat) : tkP w t (p + 1) g = if g = j then tkP w t p g ++ [(t : Int)] else tkP w t p g := by
  unfold tkP
  rw [h]
  simp only
  have e : s.2.take (p + 1) = s.2.take p ++ [(j : Int)] := by
    rw [List.take_add_one, hp]; rfl
  rw [e]
  unfold tkAt
  rw [List.filter_append, List.map_append]
  by_cases c : g = j
  · subst c
    simp
  · have : ((j : Int) == (g : Int)) = false := by simp; omega
    simp [c, this]
theorem tkL_set {w : List SD} {f f' : Nat → List Int} {j : Nat} (hj : j < w.length) (t : Int) (h : ∀ g, f' g = if g = j then f g ++ [t] else f g) :
    ((List.range w.length).map fun g => PyData.list ((f g).map PyData.int)).set j (.list ((f j).map PyData.int ++ [.int t])) = (List.range w.length).map fun g => PyData.list ((f' g).map PyData.int) := by
  apply List.ext_getElem?
  intro i
  rw [List.getElem?_set]
  by_cases c : j = i
  · subst c
    rw [if_pos rfl, if_pos (by simpa using hj), List.getElem?_map, List.getElem?_range hj]
    simp [h]
  · rw [if_neg c, List.getElem?_map, List.getElem?_map]
    by_cases hi : i < w.length
    · rw [List.getElem?_range hi]
      simp [h, Ne.symm c]
    · rw [List.getElem?_eq_none (by simpa using hi)]
      rfl
theorem mem_tkTo {w : List SD} {g : Nat} {k : Int} : ∀ {t : Nat}, k ∈ tkTo w t g ↔ ∃ b : Nat, k = (b : Int) ∧ b < t ∧ Tie w g b
  | 0 => by simp [tkTo]
  | t + 1 => by
    unfold tkTo
    rw [List.mem_append, mem_tkTo (t := t)]
    constructor
    · rintro (⟨b, e, l, h⟩ | h)
      · exact ⟨b, e, by omega, h⟩
      · split at h
        · rename_i s hs
          unfold tkAt at h
          obtain ⟨i, hi, rfl⟩ := List.mem_map.mp h
          obtain ⟨h1, h2⟩ := List.mem_filter.mp hi
          have : i = (g : Int) := by simpa using h2
          exact ⟨t, rfl, by omega, s, hs, this ▸ h1⟩
        · cases h
    · rintro ⟨b, e, l, h⟩
      by_cases c : b < t
      · exact .inl ⟨b, e, c, h⟩
      · have : b = t := by omega
        subst this
        obtain ⟨s, hs, m⟩ := h
        right
        rw [hs]
        exact List.mem_map.mpr ⟨(g : Int), List.mem_filter.mpr ⟨m, by simp⟩, e.symm⟩
theorem mem_tk {w : List SD} {g : Nat} {k : Int} : k ∈ tk w g ↔ ∃ b : Nat, k = (b : Int) ∧ Tie w g b := by
  unfold tk
  rw [mem_tkTo]
  constructor
  · rintro ⟨b, e, _, h⟩; exact ⟨b, e, h⟩
  · rintro ⟨b, e, h⟩
    have h' := h
    obtain ⟨s, hs, _⟩ := h'
    exact ⟨b, e, (List.getElem?_eq_some_iff.mp hs).1, h⟩
theorem tk_empty {w : List SD} {g : Nat} : (tk w g).isEmpty = !((srtR (tiesL w)).any fun r => r.getD 0 0 == (g : Int)) := by
  rw [Bool.eq_iff_iff, List.isEmpty_iff, Bool.not_eq_true', List.any_eq_false]
  constructor
  · intro h r hr z
    have hr := (srtR_perm _).mem_iff.mp hr
    obtain ⟨t, p, s, i, e1, e2, rfl⟩ := mem_tiesL.mp hr
    have z : i = (g : Int) := by simpa using z
    subst z
    have : ((t : Nat) : Int) ∈ tk w g := mem_tk.mpr ⟨t, rfl, s, e1, List.mem_of_getElem? e2⟩
    rw [h] at this
    cases this
  · intro h
    rw [List.eq_nil_iff_forall_not_mem]
    intro k hk
    obtain ⟨b, rfl, s, hs, m⟩ := mem_tk.mp hk
    obtain ⟨p, hp, e⟩ := List.mem_iff_getElem.mp m
    have := h [(g : Int), (b : Int), (p : Int)] ((srtR_perm _).mem_iff.mpr (mem_tiesL.mpr ⟨b, p, s, _, hs, by rw [List.getElem?_eq_getElem hp, e], rfl⟩))
    simp at this
end PP

set_option Elab.async false
set_option linter.all false
set_option maxRecDepth 100000
set_option maxHeartbeats 2000000
namespace PP
open PySem PySem.Spec PyProof.Rows L2
def kOne : KZ Nat := fun ds s Q => match ds with
  | [_, .list xs] => (0 < xs.length ∧ xs.length ≤ 100000) ∧ s < capZ ∧ ∀ d ∈ xs, Q d (s + 1)
  | _ => False
theorem kOne_mono : MonoK kOne := fun ds s Q Q' f q => by
  unfold kOne at q ⊢
  split at q
  · exact ⟨q.1, q.2.1, fun d h => f _ _ (q.2.2 d h)⟩
  · exact q.elim
def kMixZ : KZ Nat := fun ds s Q => match ds with
  | [_, .list xs] => xs.length ≤ 500 ∧ s + 500 ≤ capZ ∧ ∀ ys s', ys.Perm xs → s' ≤ s + 500 → Q (.list ys) s'
  | [_, .tuple xs] => xs.length ≤ 500 ∧ s + 500 ≤ capZ ∧ ∀ ys s', ys.Perm xs → s' ≤ s + 500 → Q (.list ys) s'
  | _ => False
theorem kMixZ_mono : MonoK kMixZ := fun ds s Q Q' f q => by
  unfold kMixZ at q ⊢
  split at q
  · exact ⟨q.1, q.2.1, fun ys s' h h' => f _ _ (q.2.2 ys s' h h')⟩
  · exact ⟨q.1, q.2.1, fun ys s' h h' => f _ _ (q.2.2 ys s' h h')⟩
  · exact q.elim
def kKindZ : KZ Nat := fun ds s Q => ∃ (dk : D) (k : Nat), ds = [dk, .int (k : Int)] ∧ k ≤ 3 ∧ s + 2 ≤ capZ ∧ ∀ d ∈ kindN k, Q d (s + 2)
theorem kKindZ_mono : MonoK kKindZ := fun ds s Q Q' f ⟨dk, k, h1, h2, h3, q⟩ => ⟨dk, k, h1, h2, h3, fun d h => f _ _ (q d h)⟩
def kRenL : KF := fun ds Q => ∃ (w : List SD) (row : List Nat), ds = [.list (w.map stD), .list ((rowI row).map PyData.int)] ∧ row.Perm (List.range w.length) ∧ w.length ≤ 100 ∧ (∀ s ∈ w, StOk w.length s) ∧ Q (webD (numb w row))
theorem kRenL_mono : MonoC kRenL := fun ds Q Q' f q => by
  obtain ⟨w, row, h1, h2, h3, h4, q⟩ := q
  exact ⟨w, row, h1, h2, h3, h4, f _ q⟩
/-- so many draws at most make a web -/
def wovN : Nat := 100000
def kWoven : KZ Nat := fun ds s Q => ∃ (dk : D) (n : Nat) (b : Bool), ds = [dk, .int (n : Int), .bool b] ∧ 1 ≤ n ∧ n ≤ 100 ∧ s + wovN ≤ capZ ∧ ∀ w row s', Wb n w → row.Perm (List.range w.length) → s' ≤ s + wovN → Q (.tuple [webD w, tupI (rowI row)]) s'
theorem kWoven_mono : MonoK kWoven := fun ds s Q Q' f ⟨dk, n, b, h1, h2, h3, h4, q⟩ => ⟨dk, n, b, h1, h2, h3, h4, fun w row s' a b' c => f _ _ (q w row s' a b' c)⟩
def kWebZ : KZ Nat := fun ds s Q => ∃ (dk : D) (n : Nat), ds = [dk, .int (n : Int)] ∧ 1 ≤ n ∧ n ≤ 100 ∧ s + wovN ≤ capZ ∧ ∀ w s', Wb n w → s' ≤ s + wovN → Q (webD w) s'
theorem kWebZ_mono : MonoK kWebZ := fun ds s Q Q' f ⟨dk, n, h1, h2, h3, h4, q⟩ => ⟨dk, n, h1, h2, h3, h4, fun w s' a b => f _ _ (q w s' a b)⟩
def kSomeW : KZ Nat := fun ds s Q => ∃ (dk : D) (n : Nat), ds = [dk, .int (n : Int)] ∧ 1 ≤ n ∧ n ≤ 100 ∧ s + (wovN + 2) ≤ capZ ∧ ∀ w s', Wb n w → s' ≤ s + (wovN + 2) → Q (webD w) s'
theorem kSomeW_mono : MonoK kSomeW := fun ds s Q Q' f ⟨dk, n, h1, h2, h3, h4, q⟩ => ⟨dk, n, h1, h2, h3, h4, fun w s' a b => f _ _ (q w s' a b)⟩
theorem kind0Z {n : Int} (h0 : 0 ≤ n) (h1 : n < 199) {d : D} (h : d ∈ [(.str "in" : D), .str "in", .str "in", .int (n - 99), .int 0, .int 7]) : d ∈ kindN 0 := by
  have q : ∀ i : Int, -99 ≤ i → i < 100 → (PyData.int i) ∈ kindN 0 := fun i h1 h2 => List.mem_cons_of_mem _ (List.mem_map.mpr ⟨(i + 99).toNat, List.mem_range.mpr (by omega), by congr 1; omega⟩)
  simp only [List.mem_cons, List.not_mem_nil, or_false] at h
  rcases h with h | h | h | h | h | h <;> subst h
  · exact List.mem_cons_self
  · exact List.mem_cons_self
  · exact List.mem_cons_self
  · exact q _ (by omega) (by omega)
  all_goals exact q _ (by decide) (by decide)
theorem cap_eq : capZ = 1099511627776 := rfl
end PP

set_option Elab.async false
set_option linter.all false
set_option maxRecDepth 100000
set_option maxHeartbeats 2000000
namespace PP
open PySem PySem.Spec PyProof.Rows L2
section
variable {P : Program} {w : World} {K : PySem.W.Frag} {mg : Str → Option Value} {base : Heap}
abbrev s_law_one : Stmt := topS 21
theorem sc_law_one : FnScope ["deck", "items"] ["deck", "items"] (defScope s_law_one) := ⟨rfl, rfl, rfl, by decide +kernel, rfl, by decide +kernel, by decide +kernel⟩
theorem d_law_one (m : Nm K mg) (h : Hd K mg "_law_one" s_law_one ["deck", "items"]) (c_law_draw : ClZ IsF2 P w K mg base 1 "_law_draw" ["deck", "many"] [.dk, .val] kDraw) : ClZ IsF2 P w K mg base 2 "_law_one" ["deck", "items"] [.dk, .val] kOne := by
  have nd := sc_law_one.nd
  refine clzD (N := ["deck", "items"]) (M := [.dk, .val]) h sc_law_one kOne_mono rfl rfl rfl (by decide) ⟨_, fun f cdv A outer s H E c fm hF hr hg => have hu := hr.units; have hu8 := hr.un80;
    (zss_one (zs_ret (z_item (RE.z fun _ => (rv 1)) (ZE.r (clz c_law_draw hF (hr.mono (by decide)) hg (zg_dk 0 (zg_val (DE.z fun _ => (de_len (by rfl) m.nlen (ar_cons (rv 1) ar_nil))) zg_nil)))) (fun _ _ => rfl)))), fun ds s Q q => ?_⟩
  unfold kOne at q
  split at q
  · rename_i dk xs
    obtain ⟨⟨h1, h2⟩, hs, q⟩ := q
    simp only [startD, List.length_cons, List.length_nil, List.map_cons, List.map_nil, List.replicate, List.cons_append, List.nil_append, Nat.sub_self, Nat.zero_add, Nat.add_sub_cancel, Nat.reduceAdd, Nat.reduceSub, gt, sv, tV, t2, tK, tCl, tConsA, tNilA, tDk, tSq, dSet, dPar, tIfD, tTst, tFz, tTupD, tLstD, tApp, dAppPop, tPut, tPop, tIdx, tSeqI, tYesD, tBor, dExt, wipeD, gN, gTupD, gConsD, gNilD, tComp, kLen, kInt, kAbs, kMax2, kTupl, kListF, kI, NoC, kEq, true_and, tSlF, tSl2, tAndD, tOrD, tAndE, tOrE, t1, kNeg, kIsN, id_eq, up, upS, PP.dn, z2, zTst, zOrD, zAndD, zIf, zNil, zCons, zTup, zLst, zCl, zFz, zRet, zIfS, zSet, zPar, zAsg, zExpr, zFor, zRg1, zSeqI, zComp, zApp, zAppPop, zCall, zSq, zFrz, kMin2]
    refine ⟨⟨⟨by omega, by omega⟩, hs⟩, fun n h0 hn => ?_⟩
    obtain ⟨j, rfl, hj⟩ := nat_ix h0 hn
    simp only [kIx, atI_at hj]
    exact q _ (List.getElem_mem hj)
  · exact q.elim
end
end PP

set_option Elab.async false
set_option linter.all false
set_option maxRecDepth 100000
set_option maxHeartbeats 2000000
namespace PP
open PySem PySem.Spec PyProof.Rows L2
def KitL (K : PySem.W.Frag) (C : Addr) : List Addr → List Bool → Prop
  | [], bs => bs = []
  | D :: Ds, bs => ∃ b r, bs = b :: r ∧ PySem.W.kitOne K (.ref C) (.ref D) = some b ∧ KitL K C Ds r
def kKinds (K : PySem.W.Frag) (Cs : List Addr) : KF := fun ds Q => ∃ (C : Addr) (ks : List (Str × D)) (bs : List Bool), ds = [exD C ks] ∧ ExcC K C ∧ KitL K C Cs bs ∧ Q (.list (bs.map PyData.bool))
theorem kKinds_mono (K : PySem.W.Frag) (Cs : List Addr) : MonoC (kKinds K Cs) := fun ds Q Q' f ⟨C, ks, bs, h1, h2, h3, q⟩ => ⟨C, ks, bs, h1, h2, h3, f _ q⟩
section
variable {P : Program} {w : World} {K : PySem.W.Frag} {mg : Str → Option Value} {base : Heap}
abbrev s_law_kinds : Stmt := topS 22
theorem sc_law_kinds : FnScope ["error", "found"] ["error"] (defScope s_law_kinds) := ⟨rfl, rfl, rfl, by decide +kernel, rfl, by decide +kernel, by decide +kernel⟩
theorem d_law_kinds {CBadWeb CBadOrder CTooMany CShort CLeft CNoOrder CBarred CFull CUsed CNothingToUndo CNothingToRedo CBadText CNoStep : Addr} (m : Nm K mg) (gBadWeb : mg "BadWeb" = some (.ref CBadWeb)) (gBadOrder : mg "BadOrder" = some (.ref CBadOrder)) (gTooMany : mg "TooMany" = some (.ref CTooMany)) (gShort : mg "Short" = some (.ref CShort)) (gLeft : mg "Left" = some (.ref CLeft)) (gNoOrder : mg "NoOrder" = some (.ref CNoOrder)) (gBarred : mg "Barred" = some (.ref CBarred)) (gFull : mg "Full" = some (.ref CFull)) (gUsed : mg "Used" = some (.ref CUsed)) (gNothingToUndo : mg "NothingToUndo" = some (.ref CNothingToUndo)) (gNothingToRedo : mg "NothingToRedo" = some (.ref CNothingToRedo)) (gBadText : mg "BadText" = some (.ref CBadText)) (gNoStep : mg "NoStep" = some (.ref CNoStep)) (h : Hd K mg "_law_kinds" s_law_kinds ["error"]) : Cl P w K mg base 2 "_law_kinds" ["error"] [.ex] (kKinds K [CBadWeb, CBadOrder, CTooMany, CShort, CLeft, CNoOrder, CBarred, CFull, CUsed, CNothingToUndo, CNothingToRedo, CBadText, CNoStep]) := by
  have nd := sc_law_kinds.nd
  refine clD (N := ["error", "found"]) (M := [.ex, .val]) h sc_law_kinds (kKinds_mono K [CBadWeb, CBadOrder, CTooMany, CShort, CLeft, CNoOrder, CBarred, CFull, CUsed, CNothingToUndo, CNothingToRedo, CBadText, CNoStep]) rfl rfl rfl (by decide) ⟨_, fun f cdv A outer s H E e hr hg => have hu := hr.units; have hu8 := hr.un80;
    (dss_cons (ds_st (i := 1) nd rfl (DE.se (FE.de (fe_lst (ae_cons (de_isV (K := K) rfl (xv 0) (pe_glob (v := .ref CBadWeb) (by rfl) gBadWeb rfl) (fun u r => r) (by rfl) m.nisinstance) (ae_cons (de_isV (K := K) rfl (xv 0) (pe_glob (v := .ref CBadOrder) (by rfl) gBadOrder rfl) (fun u r => r) (by rfl) m.nisinstance) (ae_cons (de_isV (K := K) rfl (xv 0) (pe_glob (v := .ref CTooMany) (by rfl) gTooMany rfl) (fun u r => r) (by rfl) m.nisinstance) ae_nil)))))))
  (dss_cons (ds_st (i := 1) nd rfl (DE.se (de_add (rv 1) (DE.re (FE.de (fe_lst (ae_cons (de_isV (K := K) rfl (xv 0) (pe_glob (v := .ref CShort) (by rfl) gShort rfl) (fun u r => r) (by rfl) m.nisinstance) (ae_cons (de_isV (K := K) rfl (xv 0) (pe_glob (v := .ref CLeft) (by rfl) gLeft rfl) (fun u r => r) (by rfl) m.nisinstance) (ae_cons (de_isV (K := K) rfl (xv 0) (pe_glob (v := .ref CNoOrder) (by rfl) gNoOrder rfl) (fun u r => r) (by rfl) m.nisinstance) ae_nil)))))))))
  (dss_cons (ds_st (i := 1) nd rfl (DE.se (de_add (rv 1) (DE.re (FE.de (fe_lst (ae_cons (de_isV (K := K) rfl (xv 0) (pe_glob (v := .ref CBarred) (by rfl) gBarred rfl) (fun u r => r) (by rfl) m.nisinstance) (ae_cons (de_isV (K := K) rfl (xv 0) (pe_glob (v := .ref CFull) (by rfl) gFull rfl) (fun u r => r) (by rfl) m.nisinstance) (ae_cons (de_isV (K := K) rfl (xv 0) (pe_glob (v := .ref CUsed) (by rfl) gUsed rfl) (fun u r => r) (by rfl) m.nisinstance) ae_nil)))))))))
  (dss_cons (ds_st (i := 1) nd rfl (DE.se (de_add (rv 1) (DE.re (FE.de (fe_lst (ae_cons (de_isV (K := K) rfl (xv 0) (pe_glob (v := .ref CNothingToUndo) (by rfl) gNothingToUndo rfl) (fun u r => r) (by rfl) m.nisinstance) (ae_cons (de_isV (K := K) rfl (xv 0) (pe_glob (v := .ref CNothingToRedo) (by rfl) gNothingToRedo rfl) (fun u r => r) (by rfl) m.nisinstance) (ae_cons (de_isV (K := K) rfl (xv 0) (pe_glob (v := .ref CBadText) (by rfl) gBadText rfl) (fun u r => r) (by rfl) m.nisinstance) ae_nil)))))))))
  (dss_one (ds_ret (de_add (rv 1) (DE.re (FE.de (fe_lst (ae_cons (de_isV (K := K) rfl (xv 0) (pe_glob (v := .ref CNoStep) (by rfl) gNoStep rfl) (fun u r => r) (by rfl) m.nisinstance) ae_nil))))))))))), fun ds Q q => ?_⟩
  obtain ⟨C, ks, bs, rfl, ex, ⟨b0, r0, rfl, k0, b1, r1, rfl, k1, b2, r2, rfl, k2, b3, r3, rfl, k3, b4, r4, rfl, k4, b5, r5, rfl, k5, b6, r6, rfl, k6, b7, r7, rfl, k7, b8, r8, rfl, k8, b9, r9, rfl, k9, b10, r10, rfl, k10, b11, r11, rfl, k11, b12, r12, rfl, k12, rfl⟩, q⟩ := q
  refine Exists.intro C (Exists.intro ks (Exists.intro b0 (And.intro rfl (And.intro ex (And.intro k0 ?_)))))
  refine Exists.intro C (Exists.intro ks (Exists.intro b1 (And.intro rfl (And.intro ex (And.intro k1 ?_)))))
  refine Exists.intro C (Exists.intro ks (Exists.intro b2 (And.intro rfl (And.intro ex (And.intro k2 ?_)))))
  refine And.intro (show 3 ≤ sizeLine by decide) ?_
  refine Exists.intro C (Exists.intro ks (Exists.intro b3 (And.intro rfl (And.intro ex (And.intro k3 ?_)))))
  refine Exists.intro C (Exists.intro ks (Exists.intro b4 (And.intro rfl (And.intro ex (And.intro k4 ?_)))))
  refine Exists.intro C (Exists.intro ks (Exists.intro b5 (And.intro rfl (And.intro ex (And.intro k5 ?_)))))
  refine And.intro (show 3 ≤ sizeLine by decide) ?_
  refine And.intro (show 3 + 3 ≤ sizeLine by decide) ?_
  refine Exists.intro C (Exists.intro ks (Exists.intro b6 (And.intro rfl (And.intro ex (And.intro k6 ?_)))))
  refine Exists.intro C (Exists.intro ks (Exists.intro b7 (And.intro rfl (And.intro ex (And.intro k7 ?_)))))
  refine Exists.intro C (Exists.intro ks (Exists.intro b8 (And.intro rfl (And.intro ex (And.intro k8 ?_)))))
  refine And.intro (show 3 ≤ sizeLine by decide) ?_
  refine And.intro (show 6 + 3 ≤ sizeLine by decide) ?_
  refine Exists.intro C (Exists.intro ks (Exists.intro b9 (And.intro rfl (And.intro ex (And.intro k9 ?_)))))
  refine Exists.intro C (Exists.intro ks (Exists.intro b10 (And.intro rfl (And.intro ex (And.intro k10 ?_)))))
  refine Exists.intro C (Exists.intro ks (Exists.intro b11 (And.intro rfl (And.intro ex (And.intro k11 ?_)))))
  refine And.intro (show 3 ≤ sizeLine by decide) ?_
  refine And.intro (show 9 + 3 ≤ sizeLine by decide) ?_
  refine Exists.intro C (Exists.intro ks (Exists.intro b12 (And.intro rfl (And.intro ex (And.intro k12 ?_)))))
  refine And.intro (show 1 ≤ sizeLine by decide) ?_
  refine And.intro (show 12 + 1 ≤ sizeLine by decide) ?_
  exact q
end
end PP

set_option Elab.async false
set_option linter.all false
set_option maxRecDepth 100000
set_option maxHeartbeats 2000000
namespace PP
open PySem PySem.Spec PyProof.Rows L2
theorem strOk_fromV : ∀ (ts : List Str) (k : Nat) (acc : Str), (∀ t ∈ ts, PyData.strOk t = true) → PyData.strOk acc = true → PyData.strOk (textFrom k acc ts) = true
  | [], _, _, _, h => h
  | t :: ts, k, acc, g, h => by
    show PyData.strOk (textFrom (k + 1) _ ts) = true
    refine strOk_fromV ts _ _ (fun u hu => g u (List.mem_cons_of_mem _ hu)) ?_
    rw [strOk_add, strOk_add, h, g t List.mem_cons_self]
    split <;> decide +kernel
theorem lst_okV {ts : List Str} (h : ∀ t ∈ ts, PyData.strOk t = true) : PyData.strOk (listText ts) = true := by
  unfold listText
  rw [strOk_add, strOk_fromV ts 0 "[" h (by decide +kernel)]
  decide +kernel
theorem strOkW (s : String) : PyData.strOk (Str.ofString s) = true := by
  unfold PyData.strOk
  rw [PySem.Str.ofString_eq_toList]
  simp only [List.all_toArray, List.all_map, List.all_eq_true]
  intro c _
  have h : c.toNat < 1114112 := by
    have := c.valid
    show c.val.toNat < 1114112
    rcases this with h | ⟨_, h⟩ <;> omega
  exact decide_eq_true h
/-- can be shown: at most c signs, at most k deep -/
structure Wsh (c k : Nat) (d : D) : Prop where
  ok : d.showable = true
  dp : d.depth ≤ k
  ln : d.shown.length ≤ c
  ch : PyData.strOk d.shown = true
theorem Wsh.rpr {c k : Nat} {d : D} (h : Wsh c k d) (hk : k ≤ 64) (hc : c ≤ sizeLine) : RprA d := ⟨h.ok, Nat.le_trans h.dp hk, Nat.le_trans h.ln hc⟩
theorem Wsh.sh {c k : Nat} {d : D} (h : Wsh c k d) : SeqAt.shaped (.str d.shown) = true := shaped_str h.ch
theorem Wsh.mono {c k c' k' : Nat} {d : D} (h : Wsh c k d) (hc : c ≤ c') (hk : k ≤ k') : Wsh c' k' d := ⟨h.ok, Nat.le_trans h.dp hk, Nat.le_trans h.ln hc, h.ch⟩
theorem sum_leW {c : Nat} : ∀ {ts : List Str}, (∀ t ∈ ts, t.length ≤ c) → (ts.map (·.length)).sum ≤ c * ts.length
  | [], _ => by simp
  | t :: ts, h => by
    have h1 := h t List.mem_cons_self
    have h2 := sum_leW fun u hu => h u (List.mem_cons_of_mem t hu)
    rw [List.map_cons, List.sum_cons, List.length_cons, Nat.mul_succ]
    omega
theorem Wsh.tup {c k : Nat} {ds : List D} (h : ∀ d ∈ ds, Wsh c k d) : Wsh ((c + 2) * ds.length + 3) (k + 1) (.tuple ds) := by
  have t := tupleText_len_le (ds.map PyData.shown)
  have l := sum_leW (c := c) (ts := ds.map PyData.shown) fun t ht => by
    obtain ⟨d, hd, rfl⟩ := List.mem_map.mp ht
    exact (h d hd).ln
  rw [List.length_map] at t l
  refine ⟨by simp only [PyData.showable]; exact showableAll_of fun d hd => (h d hd).ok, ?_, ?_, ?_⟩
  · have := depthAll_of fun d hd => (h d hd).dp
    simp only [PyData.depth]
    omega
  · simp only [PyData.shown, shownAll_map]
    rw [Nat.add_mul]
    omega
  · simp only [PyData.shown, shownAll_map]
    exact tup_ok fun t ht => by
      obtain ⟨d, hd, rfl⟩ := List.mem_map.mp ht
      exact (h d hd).ch
theorem Wsh.lst {c k : Nat} {ds : List D} (h : ∀ d ∈ ds, Wsh c k d) : Wsh ((c + 2) * ds.length + 3) (k + 1) (.list ds) := by
  have t := listText_len_le (ds.map PyData.shown)
  have l := sum_leW (c := c) (ts := ds.map PyData.shown) fun t ht => by
    obtain ⟨d, hd, rfl⟩ := List.mem_map.mp ht
    exact (h d hd).ln
  rw [List.length_map] at t l
  refine ⟨by simp only [PyData.showable]; exact showableAll_of fun d hd => (h d hd).ok, ?_, ?_, ?_⟩
  · have := depthAll_of fun d hd => (h d hd).dp
    simp only [PyData.depth]
    omega
  · simp only [PyData.shown, shownAll_map]
    rw [Nat.add_mul]
    omega
  · simp only [PyData.shown, shownAll_map]
    exact lst_okV fun t ht => by
      obtain ⟨d, hd, rfl⟩ := List.mem_map.mp ht
      exact (h d hd).ch
theorem Wsh.int {i : Int} (h : i.natAbs < 2 ^ 1800) : Wsh 1810 1 (.int i) := by
  have e : (PyData.int i).shown = Str.ofString i.repr := by simp [PyData.shown]
  refine ⟨?_, by simp [PyData.depth], ?_, ?_⟩
  · have : i.natAbs.log2 < 1920 := by
      by_cases z : i.natAbs = 0
      · rw [z]; decide
      · rw [Nat.log2_lt z]
        exact Nat.lt_of_lt_of_le h (Nat.pow_le_pow_right (by decide) (by decide))
    simpa [PyData.showable] using this
  · rw [e, PySem.ofString_length]
    cases i with
    | ofNat m =>
      have := nat_repr_length_le (n := m) (k := 1800) (by decide) (by simpa using h)
      show m.repr.length ≤ 1810
      omega
    | negSucc m =>
      have := nat_repr_length_le (n := m.succ) (k := 1800) (by decide) (by simpa using h)
      show ("-" ++ m.succ.repr).length ≤ 1810
      rw [String.length_append]
      have e : ("-" : String).length = 1 := by decide
      omega
  · rw [e]
    exact strOkW _
/-- the drawn value -/
def aval (g : Int) : List D := [.none, .str "web", .int 0, .int (-1), .tuple [.int 1, .str "kind"], .bool true, .str "", .list [.int 3], .dict [], .int g]
theorem aval_wsh {g : Int} (hg : g.natAbs < 2 ^ 1800) : ∀ d ∈ aval g, Wsh 2000 4 d := by
  intro d hd
  unfold aval at hd
  simp only [List.mem_cons, List.not_mem_nil, or_false] at hd
  rcases hd with h | h | h | h | h | h | h | h | h | h <;> subst h
  all_goals first
    | exact ⟨by decide +kernel, by decide +kernel, by decide +kernel, by decide +kernel⟩
    | exact (Wsh.int hg).mono (by decide) (by decide)
theorem seven_wsh {d : D} (h : Wsh 2000 4 d) : Wsh 20000 5 (.list [d, d, d, d, d, d, d]) := by
  have := Wsh.lst (ds := [d, d, d, d, d, d, d]) (c := 2000) (k := 4) fun x hx => by
    simp only [List.mem_cons, List.not_mem_nil, or_false, or_self] at hx
    rw [hx]; exact h
  exact this.mono (by show (2000 + 2) * 7 + 3 ≤ 20000; decide) (by decide)
theorem eqv_selfV (s : Str) : PyData.eqv (.str s) (.str s) = true := eqv_str s
/-- what the thirteen classes are to one another -/
structure E57 (K : PySem.W.Frag) (Cs : List Addr) (CW CN : Addr) : Prop where
  ex : ∀ C ∈ Cs, ExcC K C
  kk : ∀ k C, Cs[k]? = some C → KitL K C Cs ((List.range 13).map fun j => j == k)
  kw : ∀ k C, Cs[k]? = some C → PySem.W.kitOne K (.ref C) (.ref CW) = some (decide (k < 12))
  kv : ∀ k C, Cs[k]? = some C → k < 12 → PySem.W.kitOne K (.ref C) (.type "ValueError") = some true
  nl : PySem.W.kitOne K (.ref CN) (.type "LookupError") = some true
  ni : PySem.W.kitOne K (.ref CN) (.type "IndexError") = some false
  nk : PySem.W.kitOne K (.ref CN) (.type "KeyError") = some false
/-- the thirteen errors -/
def errsD (a : D) (c0 c1 c2 c3 c4 c5 c6 c7 c8 c9 c10 c11 c12 : Addr) : List D := [exD c0 [("error", a)], exD c1 [], exD c2 [], exD c3 [("index", a)], exD c4 [("many", a)], exD c5 [], exD c6 [("bar", a)], exD c7 [], exD c8 [("value", a)], exD c9 [], exD c10 [], exD c11 [("line", a)], exD c12 [("value", a)]]
theorem errsD_at (a : D) (c0 c1 c2 c3 c4 c5 c6 c7 c8 c9 c10 c11 c12 : Addr) : ∀ k : Nat, k < 13 → ∃ C ks, (errsD a c0 c1 c2 c3 c4 c5 c6 c7 c8 c9 c10 c11 c12)[k]? = some (exD C ks) ∧ [c0, c1, c2, c3, c4, c5, c6, c7, c8, c9, c10, c11, c12][k]? = some C
  | 0, _ => ⟨_, _, rfl, rfl⟩
  | 1, _ => ⟨_, _, rfl, rfl⟩
  | 2, _ => ⟨_, _, rfl, rfl⟩
  | 3, _ => ⟨_, _, rfl, rfl⟩
  | 4, _ => ⟨_, _, rfl, rfl⟩
  | 5, _ => ⟨_, _, rfl, rfl⟩
  | 6, _ => ⟨_, _, rfl, rfl⟩
  | 7, _ => ⟨_, _, rfl, rfl⟩
  | 8, _ => ⟨_, _, rfl, rfl⟩
  | 9, _ => ⟨_, _, rfl, rfl⟩
  | 10, _ => ⟨_, _, rfl, rfl⟩
  | 11, _ => ⟨_, _, rfl, rfl⟩
  | 12, _ => ⟨_, _, rfl, rfl⟩
  | k + 13, h => by omega
theorem sh_bools (bs : List Bool) (h : bs.length ≤ 100) : SeqAt.shaped (.list (bs.map PyData.bool)) = true := by
  have h1 : PyData.canLayAll0 (bs.map PyData.bool) = true := by
    clear h
    induction bs with
    | nil => rfl
    | cons g gs ih => simp [PyData.canLayAll0, PyData.canLay0, ih]
  have h2 : PyData.depthAll (bs.map PyData.bool) ≤ 1 := by
    clear h1 h
    induction bs with
    | nil => simp [PyData.depthAll]
    | cons g gs ih => simp [PyData.depthAll, PyData.depth]; omega
  show (PyData.canLay0 (.list _) && decide (PyData.depth (.list _) ≤ 64)) = true
  simp [PyData.canLay0, h1, PyData.depth]
  omega
theorem eqv_bools (bs : List Bool) : PyData.eqv (.list (bs.map PyData.bool)) (.list (bs.map PyData.bool)) = true := by
  have : PyData.eqvAll (bs.map PyData.bool) (bs.map PyData.bool) = true := by
    induction bs with
    | nil => rfl
    | cons b bs ih => cases b <;> simp [PyData.eqvAll, PyData.eqv, ih]
  show PyData.eqvAll _ _ = true
  exact this
/-- the law's list of truth values -/
theorem kinds_eq (k : Nat) : ((List.range 13).map fun j => j == k).map PyData.bool = (rgD 0 13).map fun d => .bool (PyData.eqv d (.int (k : Int))) := by
  show _ = ((List.range 13).map _).map _
  rw [List.map_map, List.map_map]
  refine List.map_congr_left fun j _ => ?_
  show PyData.bool (j == k) = .bool (PyData.eqv (.int (0 + (j : Int))) (.int (k : Int)))
  congr 1
  simp only [PyData.eqv]
  by_cases h : j = k
  · subst h; simp
  · have h2 : ¬ ((0 : Int) + (j : Int) = (k : Int)) := by omega
    rw [show (j == k) = false from beq_false_of_ne h]
    first
      | exact (beq_false_of_ne h2).symm
      | exact (decide_eq_false h2).symm
      | (simp [h2]; trace_state; done)
end PP

set_option Elab.async false
set_option linter.all false
set_option maxRecDepth 100000
set_option maxHeartbeats 2000000
namespace PP
open PySem PySem.Spec PyProof.Rows L2
/-- the law's promise -/
def spLaw (K : PySem.W.Frag) : Sp := fun vs H Q _ => ∃ (a : Addr) (ns : List Int), vs = [.ref a] ∧ SqL K H a (ns.map V.int) ∧ ns.length ≤ 63 ∧ ∀ H', Q (.bl true) H'
structure DkCl (P : Program) (w : World) (K : PySem.W.Frag) (mg : Str → Option Value) (base : Heap) : Prop where
  ex : ∃ f fd, mg "_law_deck" = some (.ref f) ∧ PySem.W.keepIn K (.ref f) = true ∧ Binds K fd ["script"] [] ∧ FnG P w K mg base CX0 1 f fd ["script"] (spDeck K)
theorem deck_bs {p b : Addr} {H : Hp} (h : DeckIn p b 0 H) : Bs (deckRg p b 0) (fun _ => none) H := ⟨fun x o e => (by cases e), h, fun x m => rfl⟩
section
variable {P : Program} {w : World} {K : PySem.W.Frag} {mg : Str → Option Value} {base : Heap}
abbrev slaw : Stmt := topS 23
theorem sclaw : FnScope ["script", "deck", "turn", "a", "errors", "at", "step", "named", "fields", "other"] ["script"] (defScope slaw) := ⟨rfl, rfl, rfl, by decide +kernel, rfl, by decide +kernel, by decide +kernel⟩
abbrev Nlaw : List Str := ["script", "deck", "turn", "a", "errors", "at", "step", "named", "fields", "other"]
abbrev Mlaw : List Md := [.val, .dk, .val, .val, .ex, .val, .ex, .val, .val, .val]
theorem dlaw {f : Addr} {fd : FuncData} {CBadWeb : Addr} {CBadOrder : Addr} {CTooMany : Addr} {CShort : Addr} {CLeft : Addr} {CNoOrder : Addr} {CBarred : Addr} {CFull : Addr} {CUsed : Addr} {CNothingToUndo : Addr} {CNothingToRedo : Addr} {CBadText : Addr} {CNoStep : Addr} {CWebError : Addr} (m : Nm K mg) (F : Fun K "law" "law" slaw f fd) (dk : DkCl P w K mg base) (gBadWeb : mg "BadWeb" = some (.ref CBadWeb)) (gBadOrder : mg "BadOrder" = some (.ref CBadOrder)) (gTooMany : mg "TooMany" = some (.ref CTooMany)) (gShort : mg "Short" = some (.ref CShort)) (gLeft : mg "Left" = some (.ref CLeft)) (gNoOrder : mg "NoOrder" = some (.ref CNoOrder)) (gBarred : mg "Barred" = some (.ref CBarred)) (gFull : mg "Full" = some (.ref CFull)) (gUsed : mg "Used" = some (.ref CUsed)) (gNothingToUndo : mg "NothingToUndo" = some (.ref CNothingToUndo)) (gNothingToRedo : mg "NothingToRedo" = some (.ref CNothingToRedo)) (gBadText : mg "BadText" = some (.ref CBadText)) (gNoStep : mg "NoStep" = some (.ref CNoStep)) (gWebError : mg "WebError" = some (.ref CWebError)) (xBadWeb : XCl P w K mg base "BadWeb" "error" CBadWeb) (xShort : XCl P w K mg base "Short" "index" CShort) (xLeft : XCl P w K mg base "Left" "many" CLeft) (xBarred : XCl P w K mg base "Barred" "bar" CBarred) (xUsed : XCl P w K mg base "Used" "value" CUsed) (xBadText : XCl P w K mg base "BadText" "line" CBadText) (xNoStep : XClL P w K mg base "NoStep" "value" CNoStep) (kBadWeb : ∃ fI fd, PySem.W.findIn K (.ref CBadWeb) "__init__" = some (some (.ref fI)) ∧ PySem.W.typeIn K (.ref fI) = some (.type "function") ∧ (∀ (s : Shared) (u1 u2 : Value), K.In s.heap → BindsTo s fd ⟨[u1], [("error", u2)]⟩ [("self", u1), ("error", u2)]) ∧ FnOk P w K mg base CX0 1 fI fd ["self", "error"] (spXI K CBadWeb "error")) (kShort : ∃ fI fd, PySem.W.findIn K (.ref CShort) "__init__" = some (some (.ref fI)) ∧ PySem.W.typeIn K (.ref fI) = some (.type "function") ∧ (∀ (s : Shared) (u1 u2 : Value), K.In s.heap → BindsTo s fd ⟨[u1], [("index", u2)]⟩ [("self", u1), ("index", u2)]) ∧ FnOk P w K mg base CX0 1 fI fd ["self", "index"] (spXI K CShort "index")) (kLeft : ∃ fI fd, PySem.W.findIn K (.ref CLeft) "__init__" = some (some (.ref fI)) ∧ PySem.W.typeIn K (.ref fI) = some (.type "function") ∧ (∀ (s : Shared) (u1 u2 : Value), K.In s.heap → BindsTo s fd ⟨[u1], [("many", u2)]⟩ [("self", u1), ("many", u2)]) ∧ FnOk P w K mg base CX0 1 fI fd ["self", "many"] (spXI K CLeft "many")) (kBarred : ∃ fI fd, PySem.W.findIn K (.ref CBarred) "__init__" = some (some (.ref fI)) ∧ PySem.W.typeIn K (.ref fI) = some (.type "function") ∧ (∀ (s : Shared) (u1 u2 : Value), K.In s.heap → BindsTo s fd ⟨[u1], [("bar", u2)]⟩ [("self", u1), ("bar", u2)]) ∧ FnOk P w K mg base CX0 1 fI fd ["self", "bar"] (spXI K CBarred "bar")) (kUsed : ∃ fI fd, PySem.W.findIn K (.ref CUsed) "__init__" = some (some (.ref fI)) ∧ PySem.W.typeIn K (.ref fI) = some (.type "function") ∧ (∀ (s : Shared) (u1 u2 : Value), K.In s.heap → BindsTo s fd ⟨[u1], [("value", u2)]⟩ [("self", u1), ("value", u2)]) ∧ FnOk P w K mg base CX0 1 fI fd ["self", "value"] (spXI K CUsed "value")) (kBadText : ∃ fI fd, PySem.W.findIn K (.ref CBadText) "__init__" = some (some (.ref fI)) ∧ PySem.W.typeIn K (.ref fI) = some (.type "function") ∧ (∀ (s : Shared) (u1 u2 : Value), K.In s.heap → BindsTo s fd ⟨[u1], [("line", u2)]⟩ [("self", u1), ("line", u2)]) ∧ FnOk P w K mg base CX0 1 fI fd ["self", "line"] (spXI K CBadText "line")) (kNoStep : ∃ fI fd, PySem.W.findIn K (.ref CNoStep) "__init__" = some (some (.ref fI)) ∧ PySem.W.typeIn K (.ref fI) = some (.type "function") ∧ (∀ (s : Shared) (u1 u2 : Value), K.In s.heap → BindsTo s fd ⟨[u1], [("value", u2)]⟩ [("self", u1), ("value", u2)]) ∧ FnOk P w K mg base CX0 1 fI fd ["self", "value"] (spXIL K CNoStep "value")) (iNoStep : ∃ fI fd, PySem.W.findIn K (.ref CNoStep) "__init__" = some (some (.ref fI)) ∧ PySem.W.typeIn K (.ref fI) = some (.type "function") ∧ Binds K fd ["self", "value"] [] ∧ FnOk P w K mg base CX0 1 fI fd ["self", "value"] (spXIL K CNoStep "value")) (qBadOrder : PySem.W.excIn K CBadOrder [.type "ValueError", .type "Exception", .type "BaseException", .type "object"] "ValueError.__new__" = true) (eBadOrder : PySem.W.keepIn K (.ref CBadOrder) = true ∧ PySem.W.subIn K (.ref CBadOrder) (.type "BaseException") = some true ∧ PySem.W.typeIn K (.ref CBadOrder) = some (.type "type")) (qTooMany : PySem.W.excIn K CTooMany [.type "ValueError", .type "Exception", .type "BaseException", .type "object"] "ValueError.__new__" = true) (eTooMany : PySem.W.keepIn K (.ref CTooMany) = true ∧ PySem.W.subIn K (.ref CTooMany) (.type "BaseException") = some true ∧ PySem.W.typeIn K (.ref CTooMany) = some (.type "type")) (qNoOrder : PySem.W.excIn K CNoOrder [.type "ValueError", .type "Exception", .type "BaseException", .type "object"] "ValueError.__new__" = true) (eNoOrder : PySem.W.keepIn K (.ref CNoOrder) = true ∧ PySem.W.subIn K (.ref CNoOrder) (.type "BaseException") = some true ∧ PySem.W.typeIn K (.ref CNoOrder) = some (.type "type")) (qFull : PySem.W.excIn K CFull [.type "ValueError", .type "Exception", .type "BaseException", .type "object"] "ValueError.__new__" = true) (eFull : PySem.W.keepIn K (.ref CFull) = true ∧ PySem.W.subIn K (.ref CFull) (.type "BaseException") = some true ∧ PySem.W.typeIn K (.ref CFull) = some (.type "type")) (qNothingToUndo : PySem.W.excIn K CNothingToUndo [.type "ValueError", .type "Exception", .type "BaseException", .type "object"] "ValueError.__new__" = true) (eNothingToUndo : PySem.W.keepIn K (.ref CNothingToUndo) = true ∧ PySem.W.subIn K (.ref CNothingToUndo) (.type "BaseException") = some true ∧ PySem.W.typeIn K (.ref CNothingToUndo) = some (.type "type")) (qNothingToRedo : PySem.W.excIn K CNothingToRedo [.type "ValueError", .type "Exception", .type "BaseException", .type "object"] "ValueError.__new__" = true) (eNothingToRedo : PySem.W.keepIn K (.ref CNothingToRedo) = true ∧ PySem.W.subIn K (.ref CNothingToRedo) (.type "BaseException") = some true ∧ PySem.W.typeIn K (.ref CNothingToRedo) = some (.type "type")) (bValueError : mg "ValueError" = none) (bLookupError : mg "LookupError" = none) (bIndexError : mg "IndexError" = none) (bKeyError : mg "KeyError" = none) (gMAX_STEPS : ∃ t, mg "MAX_STEPS" = some (.int 10 t)) (gMAX_COPIES : ∃ t, mg "MAX_COPIES" = some (.int 30 t)) (gMAX_EDITS : ∃ t, mg "MAX_EDITS" = some (.int 40 t)) (G57 : E57 K [CBadWeb, CBadOrder, CTooMany, CShort, CLeft, CNoOrder, CBarred, CFull, CUsed, CNothingToUndo, CNothingToRedo, CBadText, CNoStep] CWebError CNoStep) (fBadWeb : XfC K CBadWeb) (fShort : XfC K CShort) (fLeft : XfC K CLeft) (fBarred : XfC K CBarred) (fUsed : XfC K CUsed) (fBadText : XfC K CBadText) (fNoStep : XfC K CNoStep) (sy : ∃ o, base.get? sysModules = some o) (c_law_one : ClZ IsF2 P w K mg base 2 "_law_one" ["deck", "items"] [.dk, .val] kOne) (c_law_kinds : Cl P w K mg base 2 "_law_kinds" ["error"] [.ex] (kKinds K [CBadWeb, CBadOrder, CTooMany, CShort, CLeft, CNoOrder, CBarred, CFull, CUsed, CNothingToUndo, CNothingToRedo, CBadText, CNoStep])) (c_law_draw : ClZ IsF2 P w K mg base 1 "_law_draw" ["deck", "many"] [.dk, .val] kDraw) : FnG P w K mg base CX0 60 f fd ["script"] (spLaw K) := by
  obtain ⟨fk, fkd, k1, k2, k3, k4⟩ := dk.ex
  have nd := sclaw.nd
  obtain ⟨tS, gMAX_STEPS⟩ := gMAX_STEPS
  obtain ⟨tC, gMAX_COPIES⟩ := gMAX_COPIES
  obtain ⟨tE, gMAX_EDITS⟩ := gMAX_EDITS
  refine fnG_of F sclaw (fun vs H Q E ⟨a, ns, e, _⟩ => by rw [e]; rfl) fun cdv A outer s H vs Q E hr hg hsp => ?_
  obtain ⟨a, ns, rfl, hS, hl, q⟩ := hsp
  have hu := hr.units
  have hu8 := hr.un80
  suffices D : ∃ t : ZTS Nat, (∀ (c : EC) (fm : Fam Nat), IsF2 fm → ZSs (cxOf CX0 P w K mg base Nlaw "law" (defScope slaw) f cdv A outer s H E).nox c fm Mlaw (defBody slaw).tail t) ∧ t { nx := fun _ _ => False, rt := fun d _ => d = .bool true } (none :: some .none :: List.replicate 8 none) 0 by
    obtain ⟨t, D, sp⟩ := D
    refine ⟨_, (pss_cons (ps_set (i := 1) nd rfl (by first | exact .inl rfl | exact .inr rfl) (pe_callG k4 (hr.mono (by decide)) hg (by rfl) k1 k2 k3 pass0 (pa_cons (pv 0) pa_nil))) (pss_any fun B : {p : EC × Fam Nat // IsF2 p.2} => (D B.1.1 B.1.2 B.2).ps)).nox, ?_⟩
    refine ⟨V.ref a, rfl, a, ns, rfl, hS, hl, fun H' p b2 sm hp hb dk => ?_⟩
    have bs := deck_bs dk
    refine ⟨⟨(⟨fun _ => none, H', fun _ => none⟩, deckFam p b2), ⟨p, b2, rfl⟩⟩, 0, fun _ => none, none :: some .none :: List.replicate 8 none, _, ⟨bs, bs.refl, .inl rfl, rfl, fun i d h => ?_, fun i j v w q hij h1 h2 h3 h4 h5 h6 => ?_, .refl _, trivial⟩, sp, ?_⟩
    · match i, h with
      | 1, h => exact ⟨V.ref p, rfl, rfl, _, _, _, rfl⟩
      | 0, h => cases h
      | i + 2, h =>
        exfalso
        have : gt (List.replicate 8 none) i = some d := h
        rw [gt_eq, List.getElem?_replicate] at this
        split at this <;> cases this
    · match i, h1, h5 with
      | 1, _, h5 => exact h5
      | 0, h1, _ => exact absurd rfl h1
      | i + 2, h1, _ =>
        refine h1 ?_
        show gt (List.replicate 8 none) i = none
        rw [gt_eq, List.getElem?_replicate]
        split <;> rfl
    · exact ⟨fun _ _ _ _ _ _ z => z.elim, fun s' F' H' d v t' r q' => by
        have e : d = .bool true := q'
        subst e
        have e : v = .bl true := r
        subst e
        exact q H', fun _ _ _ _ _ _ z => z.elim, fun _ _ _ _ _ _ z => z.elim⟩
  refine ⟨_, fun c fm hF => (zss_cons (DS.z fun _ => (ds_if (dc_ne hu (DE.re (de_reprA sy hg hu8 (by rfl) m.nrepr (ar_cons (DE.re (FE.de (fe_lst (ae_cons (de_gint (by rfl) gMAX_STEPS ⟨_, rfl⟩) (ae_cons (de_gint (by rfl) gMAX_COPIES ⟨_, rfl⟩) (ae_cons (de_gint (by rfl) gMAX_EDITS ⟨_, rfl⟩) ae_nil)))))) ar_nil))) (DE.re de_str)) (dss_one (ds_ret de_bl)) dss_nil))
  (zss_cons (zs_for (L := [2]) PassesOwn.never (by rfl) (DI.z fun _ => (di_range1 (by rfl) m.nrange (DE.re de_int))) (fun _ => GT.z (0 : Nat) fun _ => (gn (L := [2]) 2 nd)) (fun _ => (zss_cons (zs_st (i := 3) nd rfl (ZE.p (clz c_law_one hF (hr.mono (by decide)) hg (zg_dk 1 (zg_val (ZF.e (zf_lst (za_cons (DE.z fun _ => de_non) (za_cons (DE.z fun _ => de_str) (za_cons (DE.z fun _ => de_int) (za_cons (DE.z fun _ => (de_neg (DE.re de_int))) (za_cons (DE.z fun _ => (de_tup (ae_cons de_int (ae_cons de_str ae_nil)))) (za_cons (DE.z fun _ => de_bl) (za_cons (DE.z fun _ => de_str) (za_cons (DE.z fun _ => (FE.de (fe_lst (ae_cons de_int ae_nil)))) (za_cons (DE.z fun _ => de_dict0) (za_cons (z_add (RE.z fun _ => (DE.re (de_pow (DE.re de_int) (DE.re de_int)))) (ZE.r (clz c_law_draw hF (hr.mono (by decide)) hg (zg_dk 1 (zg_val (DE.z fun _ => (de_pow (DE.re de_int) (DE.re de_int))) zg_nil))))) za_nil)))))))))))) zg_nil)))))
  (zss_cons (DS.z fun _ => (ds_st (i := 4) nd rfl (se_lst (xa_cons (se_new1 xBadWeb (hr.mono (by decide)) (dv 3)) (xa_cons (se_new0 (pmk_own0 PySem.F.excBase_ValueError qBadOrder gBadOrder eBadOrder.1 (raises_own eBadOrder.2.1 eBadOrder.2.2) (by rfl))) (xa_cons (se_new0 (pmk_own0 PySem.F.excBase_ValueError qTooMany gTooMany eTooMany.1 (raises_own eTooMany.2.1 eTooMany.2.2) (by rfl))) (xa_cons (se_new1 xShort (hr.mono (by decide)) (dv 3)) (xa_cons (se_new1 xLeft (hr.mono (by decide)) (dv 3)) (xa_cons (se_new0 (pmk_own0 PySem.F.excBase_ValueError qNoOrder gNoOrder eNoOrder.1 (raises_own eNoOrder.2.1 eNoOrder.2.2) (by rfl))) (xa_cons (se_new1 xBarred (hr.mono (by decide)) (dv 3)) (xa_cons (se_new0 (pmk_own0 PySem.F.excBase_ValueError qFull gFull eFull.1 (raises_own eFull.2.1 eFull.2.2) (by rfl))) (xa_cons (se_new1 xUsed (hr.mono (by decide)) (dv 3)) xa_nil))))))))))))
  (zss_cons (DS.z fun _ => (ds_st (i := 4) nd rfl (se_add (xv 4) (se_lst (xa_cons (se_new0 (pmk_own0 PySem.F.excBase_ValueError qNothingToUndo gNothingToUndo eNothingToUndo.1 (raises_own eNothingToUndo.2.1 eNothingToUndo.2.2) (by rfl))) (xa_cons (se_new0 (pmk_own0 PySem.F.excBase_ValueError qNothingToRedo gNothingToRedo eNothingToRedo.1 (raises_own eNothingToRedo.2.1 eNothingToRedo.2.2) (by rfl))) (xa_cons (se_new1 xBadText (hr.mono (by decide)) (dv 3)) (xa_cons (se_new1L xNoStep iNoStep (hr.mono (by decide)) (dv 3)) xa_nil))))))))
  (zss_cons (DS.z fun _ => (ds_for (L := [5]) PassesOwn.never (by rfl) (di_range1 (by rfl) m.nrange (DE.re de_int)) (fun _ => (gn (L := [5]) 5 nd)) (fun _ => (dss_cons (ds_if (dc_ne hu (DE.re (cl c_law_kinds (hr.mono (by decide)) hg (ga_ex (se_item (xv 4) (dv 5) (fun _ _ => rfl)) ga_nil))) (DE.re (FE.de (fe_comp (own := [("other", 9)]) (by rfl) nd (di_range1 (by rfl) m.nrange (DE.re de_int)) (by exact blkOk_by (by kernel_rfl)) (fun _ _ _ _ _ => (gn (L := [9]) 9 nd)) (fun _ _ _ _ _ => dts_nil) (fun _ _ _ _ _ => (de_eq hu (rv 9) (rv 5))))))) (dss_one (ds_ret de_bl)) dss_nil)
  (dss_cons (ds_if (dc_ne hu (DE.re (de_isV (K := K) rfl (se_item (xv 4) (dv 5) (fun _ _ => rfl)) (pe_glob (v := .ref CWebError) (by rfl) gWebError rfl) (fun u r => r) (by rfl) m.nisinstance)) (DE.re (de_lt (rv 5) (DE.re de_int)))) (dss_one (ds_ret de_bl)) dss_nil)
  (dss_one (ds_if (DW.dc (dw_and (dc_lt (rv 5) (DE.re de_int)) (dw_and1 (dc_not (dc_truth (DE.re (de_isV (K := K) rfl (se_item (xv 4) (dv 5) (fun _ _ => rfl)) (pe_bltn (v := .ty "ValueError") (by rfl) bValueError (by decide +kernel) rfl) (fun u r => r) (by rfl) m.nisinstance))))))) (dss_one (ds_ret de_bl)) dss_nil)))))))
  (zss_cons (DS.z fun _ => (ds_st (i := 6) nd rfl (se_item (xv 4) de_int (fun _ _ => rfl))))
  (zss_cons (DS.z fun _ => (ds_if (DW.dc (dw_or (dc_not (dc_truth (DE.re (de_isV (K := K) rfl (xv 6) (pe_bltn (v := .ty "LookupError") (by rfl) bLookupError (by decide +kernel) rfl) (fun u r => r) (by rfl) m.nisinstance)))) (dw_or (dc_truth (DE.re (de_isV (K := K) rfl (xv 6) (pe_bltn (v := .ty "IndexError") (by rfl) bIndexError (by decide +kernel) rfl) (fun u r => r) (by rfl) m.nisinstance))) (dw_or1 (dc_truth (DE.re (de_isV (K := K) rfl (xv 6) (pe_bltn (v := .ty "KeyError") (by rfl) bKeyError (by decide +kernel) rfl) (fun u r => r) (by rfl) m.nisinstance))))))) (dss_one (ds_ret de_bl)) dss_nil))
  (zss_cons (DS.z fun _ => (ds_st (i := 7) nd rfl (DE.se (FE.de (fe_lst (ae_cons (de_xV (K := K) rfl (se_newK xBadWeb kBadWeb (hr.mono (by decide)) (dv 3))) (ae_cons (de_xV (K := K) rfl (se_newK xShort kShort (hr.mono (by decide)) (dv 3))) (ae_cons (de_xV (K := K) rfl (se_newK xLeft kLeft (hr.mono (by decide)) (dv 3))) (ae_cons (de_xV (K := K) rfl (se_newK xBarred kBarred (hr.mono (by decide)) (dv 3))) (ae_cons (de_xV (K := K) rfl (se_newK xUsed kUsed (hr.mono (by decide)) (dv 3))) ae_nil))))))))))
  (zss_cons (DS.z fun _ => (ds_if (dc_ne hu (DE.re (de_reprA sy hg hu8 (by rfl) m.nrepr (ar_cons (DE.re (de_add (rv 7) (DE.re (FE.de (fe_lst (ae_cons (de_xV (K := K) rfl (se_newK xBadText kBadText (hr.mono (by decide)) (dv 3))) (ae_cons (de_xV (K := K) rfl (se_newKL xNoStep kNoStep (hr.mono (by decide)) (dv 3))) ae_nil))))))) ar_nil))) (DE.re (de_reprA sy hg hu8 (by rfl) m.nrepr (ar_cons (DE.re (de_mul (DE.re (FE.de (fe_lst (ae_cons (dv 3) ae_nil)))) (DE.re de_int))) ar_nil)))) (dss_one (ds_ret de_bl)) dss_nil))
  (zss_cons (DS.z fun _ => (ds_st (i := 8) nd rfl (DE.se (FE.de (fe_lst (ae_cons (de_xV (K := K) rfl (se_item (xv 4) de_int (fun _ _ => rfl))) (ae_cons (de_xV (K := K) rfl (se_item (xv 4) de_int (fun _ _ => rfl))) (ae_cons (de_xV (K := K) rfl (se_item (xv 4) de_int (fun _ _ => rfl))) (ae_cons (de_xV (K := K) rfl (se_item (xv 4) de_int (fun _ _ => rfl))) (ae_cons (de_xV (K := K) rfl (se_item (xv 4) de_int (fun _ _ => rfl))) (ae_cons (de_xV (K := K) rfl (se_item (xv 4) de_int (fun _ _ => rfl))) ae_nil)))))))))))
  (zss_one (DS.z fun _ => (ds_if (dc_ne hu (DE.re (de_reprA sy hg hu8 (by rfl) m.nrepr (ar_cons (DE.re (de_add (rv 8) (DE.re (FE.de (fe_lst (ae_cons (de_xV (K := K) rfl (se_item (xv 4) de_int (fun _ _ => rfl))) ae_nil)))))) ar_nil))) (DE.re (de_reprA sy hg hu8 (by rfl) m.nrepr (ar_cons (DE.re (de_mul (DE.re (FE.de (fe_lst (ae_cons (dv 3) ae_nil)))) (DE.re de_int))) ar_nil)))) (dss_one (ds_ret de_bl)) dss_nil))))))))))))))
  (zss_one (DS.z fun _ => (ds_ret de_bl))))), ?_⟩
  have big := line_big
  have hcap := cap_eq
  have e0 : Wsh 60 2 (.list [.int 10, .int 30, .int 40]) := ⟨by decide +kernel, by decide +kernel, by decide +kernel, by decide +kernel⟩
  refine And.intro (show 3 ≤ sizeLine by decide) ?_
  refine And.intro (e0.rpr (by decide) (by decide)) ?_
  refine And.intro (show _ ∧ _ from ⟨e0.sh, by decide +kernel⟩) ?_
  rw [show PyData.eqv (.str (PyData.shown (.list [.int 10, .int 30, .int 40]))) (.str "[10, 30, 40]") = true by decide +kernel]
  refine And.intro (show RgI 4 from ⟨by decide, by decide⟩) ?_
  refine forZ_step (fun rest ρ s => ∃ o2 o3 o4 o5 o6 o7 o8 o9 : Option D, ρ = [none, some .none, o2, o3, o4, o5, o6, o7, o8, o9] ∧ s + 2 * rest.length ≤ 8) ⟨none, none, none, none, none, none, none, none, rfl, by show 0 + 2 * 4 ≤ 8; decide⟩ ?_ ?_
  · rintro x rest ρ s k ⟨o2, o3, o4, o5, o6, o7, o8, o9, rfl, hs⟩ hk
    rw [List.length_cons] at hs
    refine And.intro (show 2 ≤ sizeLine by decide) ?_
    refine And.intro (show 1 ≤ sizeLine by decide) ?_
    refine And.intro ⟨by decide, by decide, by decide⟩ ?_
    refine And.intro ⟨by decide, by decide, by decide⟩ ?_
    refine And.intro ⟨⟨show (0:Int) < 10 ^ 9 by decide, show (10:Int) ^ 9 < 2 ^ 62 by decide⟩, show s < capZ by omega⟩ fun n hn0 hn1 => ?_
    have hn1 : n < 10 ^ 9 := hn1
    refine And.intro (show 10 ≤ sizeLine by decide) ?_
    have hg0 : ((10 : Int) ^ Int.toNat 30 + n).natAbs < 2 ^ 1800 := by
      have h1 : ((10 : Int) ^ Int.toNat 30 + n).natAbs < 2 ^ 100 := by
        have : (10 : Int) ^ 30 + 10 ^ 9 < 2 ^ 100 := by decide
        have h0 : (0 : Int) ≤ 10 ^ 30 := by decide
        show ((10 : Int) ^ 30 + n).natAbs < _
        omega
      exact Nat.lt_of_lt_of_le h1 (Nat.pow_le_pow_right (by decide) (by decide))
    refine And.intro ⟨show 0 < 10 by decide, show 10 ≤ 100000 by decide⟩ (And.intro (show s + 1 < capZ by omega) fun a ha => ?_)
    have wa := aval_wsh hg0 a ha
    have e7 := seven_wsh wa
    clear ha hg0
    refine And.intro (Exists.intro CBadWeb (Exists.intro _ rfl)) ?_
    refine And.intro (Exists.intro CBadOrder (Exists.intro _ rfl)) ?_
    refine And.intro (Exists.intro CTooMany (Exists.intro _ rfl)) ?_
    refine And.intro (Exists.intro CShort (Exists.intro _ rfl)) ?_
    refine And.intro (Exists.intro CLeft (Exists.intro _ rfl)) ?_
    refine And.intro (Exists.intro CNoOrder (Exists.intro _ rfl)) ?_
    refine And.intro (Exists.intro CBarred (Exists.intro _ rfl)) ?_
    refine And.intro (Exists.intro CFull (Exists.intro _ rfl)) ?_
    refine And.intro (Exists.intro CUsed (Exists.intro _ rfl)) ?_
    refine And.intro (show 9 ≤ sizeLine by decide) ?_
    refine And.intro (Exists.intro CNothingToUndo (Exists.intro _ rfl)) ?_
    refine And.intro (Exists.intro CNothingToRedo (Exists.intro _ rfl)) ?_
    refine And.intro (Exists.intro CBadText (Exists.intro _ rfl)) ?_
    refine And.intro (Exists.intro CNoStep (Exists.intro _ rfl)) ?_
    refine And.intro (show 4 ≤ sizeLine by decide) ?_
    refine Exists.intro _ (Exists.intro _ (And.intro rfl (And.intro rfl (And.intro (show 9 + 4 ≤ sizeLine by decide) ?_))))
    refine And.intro (show RgI 13 from ⟨by decide, by decide⟩) ?_
    refine forD_step (fun rest ρ => ∃ o5 o9 : Option D, ρ = [none, some .none, some x, some a, some (.list (errsD a CBadWeb CBadOrder CTooMany CShort CLeft CNoOrder CBarred CFull CUsed CNothingToUndo CNothingToRedo CBadText CNoStep)), o5, o6, o7, o8, o9] ∧ ∀ d ∈ rest, ∃ k : Nat, d = .int (k : Int) ∧ k < 13) ⟨_, _, rfl, fun d hd => by obtain ⟨i, rfl, h0, h1⟩ := mem_rgD hd; exact ⟨i.toNat, by congr 1; omega, by omega⟩⟩ ?_ ?_
    · rintro z rest ρ kk ⟨o5, o9, rfl, ar⟩ hkk
      obtain ⟨j, rfl, hj⟩ := ar z List.mem_cons_self
      obtain ⟨C, ks, h1, h2⟩ := errsD_at a CBadWeb CBadOrder CTooMany CShort CLeft CNoOrder CBarred CFull CUsed CNothingToUndo CNothingToRedo CBadText CNoStep j hj
      refine Exists.intro _ (Exists.intro j (Exists.intro (exD C ks) (And.intro rfl (And.intro rfl (And.intro h1 ?_)))))
      have hC : C ∈ [CBadWeb, CBadOrder, CTooMany, CShort, CLeft, CNoOrder, CBarred, CFull, CUsed, CNothingToUndo, CNothingToRedo, CBadText, CNoStep] := List.mem_of_getElem? h2
      refine Exists.intro C (Exists.intro ks (Exists.intro ((List.range 13).map fun i => i == j) (And.intro rfl (And.intro (G57.ex C hC) (And.intro (G57.kk j C h2) ?_)))))
      refine And.intro (show RgI 13 from ⟨by decide, by decide⟩) ?_
      refine And.intro (show (rgD 0 13).length ≤ sizeLine by decide) ?_
      refine compD_map (fun d => .bool (PyData.eqv d (.int (j : Int)))) ?_ ?_
      · intro y hy k2 hk2
        obtain ⟨i, rfl, _, _⟩ := mem_rgD hy
        exact And.intro ⟨rfl, rfl⟩ hk2
      rw [← kinds_eq j]
      refine And.intro (show _ ∧ _ from ⟨sh_bools _ (by rw [List.length_map, List.length_range]; decide), sh_bools _ (by rw [List.length_map, List.length_range]; decide)⟩) ?_
      rw [eqv_bools]
      refine Exists.intro _ (Exists.intro j (Exists.intro (exD C ks) (And.intro rfl (And.intro rfl (And.intro h1 ?_)))))
      refine Exists.intro C (Exists.intro ks (Exists.intro _ (And.intro rfl (And.intro (G57.ex C hC) (And.intro (G57.kw j C h2) ?_)))))
      refine And.intro trivial ?_
      refine And.intro ⟨rfl, rfl⟩ ?_
      have hjd : decide ((j : Int) < 12) = decide (j < 12) := by
        by_cases h : j < 12
        · rw [decide_eq_true h, decide_eq_true (by omega)]
        · rw [decide_eq_false h, decide_eq_false (by omega)]
      show (if (!PyData.eqv (.bool (decide (j < 12))) (.bool (decide ((j : Int) < 12)))) = true then _ else _)
      rw [hjd, show PyData.eqv (.bool (decide (j < 12))) (.bool (decide (j < 12))) = true by cases decide (j < 12) <;> rfl]
      refine And.intro trivial ?_
      show (if decide ((j : Int) < 12) = true then _ else _)
      rw [hjd]
      by_cases h12 : j < 12
      · rw [if_pos (decide_eq_true h12)]
        refine Exists.intro _ (Exists.intro j (Exists.intro (exD C ks) (And.intro rfl (And.intro rfl (And.intro h1 ?_)))))
        refine Exists.intro C (Exists.intro ks (Exists.intro _ (And.intro rfl (And.intro (G57.ex C hC) (And.intro (G57.kv j C h2 h12) ?_)))))
        exact hkk _ ⟨_, _, rfl, fun d hd => ar d (List.mem_cons_of_mem _ hd)⟩
      · rw [if_neg (by simpa using h12)]
        exact hkk _ ⟨_, _, rfl, fun d hd => ar d (List.mem_cons_of_mem _ hd)⟩
    · rintro ρ ⟨o5, o9, rfl, _⟩
      refine Exists.intro _ (Exists.intro 12 (Exists.intro (exD CNoStep [("value", a)]) (And.intro rfl (And.intro rfl (And.intro rfl ?_)))))
      have hN : CNoStep ∈ [CBadWeb, CBadOrder, CTooMany, CShort, CLeft, CNoOrder, CBarred, CFull, CUsed, CNothingToUndo, CNothingToRedo, CBadText, CNoStep] := by simp
      refine Exists.intro CNoStep (Exists.intro [("value", a)] (Exists.intro _ (And.intro rfl (And.intro (G57.ex _ hN) (And.intro G57.nl ?_)))))
      refine Exists.intro CNoStep (Exists.intro [("value", a)] (Exists.intro _ (And.intro rfl (And.intro (G57.ex _ hN) (And.intro G57.ni ?_)))))
      refine Exists.intro CNoStep (Exists.intro [("value", a)] (Exists.intro _ (And.intro rfl (And.intro (G57.ex _ hN) (And.intro G57.nk ?_)))))
      refine Exists.intro CBadWeb (Exists.intro a (And.intro rfl (And.intro fBadWeb (And.intro xBadWeb.nf ?_))))
      refine Exists.intro CShort (Exists.intro a (And.intro rfl (And.intro fShort (And.intro xShort.nf ?_))))
      refine Exists.intro CLeft (Exists.intro a (And.intro rfl (And.intro fLeft (And.intro xLeft.nf ?_))))
      refine Exists.intro CBarred (Exists.intro a (And.intro rfl (And.intro fBarred (And.intro xBarred.nf ?_))))
      refine Exists.intro CUsed (Exists.intro a (And.intro rfl (And.intro fUsed (And.intro xUsed.nf ?_))))
      refine And.intro (show 5 ≤ sizeLine by decide) ?_
      refine Exists.intro CBadText (Exists.intro a (And.intro rfl (And.intro fBadText (And.intro xBadText.nf ?_))))
      refine Exists.intro CNoStep (Exists.intro a (And.intro rfl (And.intro fNoStep (And.intro xNoStep.nf ?_))))
      refine And.intro (show 2 ≤ sizeLine by decide) ?_
      refine And.intro (show 7 ≤ sizeLine by decide) ?_
      refine And.intro (e7.rpr (by decide) (by decide)) ?_
      refine And.intro (show 1 ≤ sizeLine by decide) ?_
      refine And.intro ⟨by decide, by decide, show 1 * 7 ≤ sizeLine by decide⟩ ?_
      refine And.intro (e7.rpr (by decide) (by decide)) ?_
      refine And.intro ⟨e7.sh, e7.sh⟩ ?_
      rw [show PyData.eqv (.str (PyData.shown (.list ([a, a, a, a, a] ++ [a, a])))) (.str (PyData.shown (.list (repD 7 [a])))) = true from eqv_selfV _]
      refine Exists.intro _ (Exists.intro 0 (Exists.intro (exD CBadWeb [("error", a)]) (And.intro rfl (And.intro rfl (And.intro rfl ?_)))))
      refine Exists.intro CBadWeb (Exists.intro a (And.intro rfl (And.intro fBadWeb (And.intro xBadWeb.nf ?_))))
      refine Exists.intro _ (Exists.intro 3 (Exists.intro (exD CShort [("index", a)]) (And.intro rfl (And.intro rfl (And.intro rfl ?_)))))
      refine Exists.intro CShort (Exists.intro a (And.intro rfl (And.intro fShort (And.intro xShort.nf ?_))))
      refine Exists.intro _ (Exists.intro 4 (Exists.intro (exD CLeft [("many", a)]) (And.intro rfl (And.intro rfl (And.intro rfl ?_)))))
      refine Exists.intro CLeft (Exists.intro a (And.intro rfl (And.intro fLeft (And.intro xLeft.nf ?_))))
      refine Exists.intro _ (Exists.intro 6 (Exists.intro (exD CBarred [("bar", a)]) (And.intro rfl (And.intro rfl (And.intro rfl ?_)))))
      refine Exists.intro CBarred (Exists.intro a (And.intro rfl (And.intro fBarred (And.intro xBarred.nf ?_))))
      refine Exists.intro _ (Exists.intro 8 (Exists.intro (exD CUsed [("value", a)]) (And.intro rfl (And.intro rfl (And.intro rfl ?_)))))
      refine Exists.intro CUsed (Exists.intro a (And.intro rfl (And.intro fUsed (And.intro xUsed.nf ?_))))
      refine Exists.intro _ (Exists.intro 11 (Exists.intro (exD CBadText [("line", a)]) (And.intro rfl (And.intro rfl (And.intro rfl ?_)))))
      refine Exists.intro CBadText (Exists.intro a (And.intro rfl (And.intro fBadText (And.intro xBadText.nf ?_))))
      refine And.intro (show 6 ≤ sizeLine by decide) ?_
      refine Exists.intro _ (Exists.intro 12 (Exists.intro (exD CNoStep [("value", a)]) (And.intro rfl (And.intro rfl (And.intro rfl ?_)))))
      refine Exists.intro CNoStep (Exists.intro a (And.intro rfl (And.intro fNoStep (And.intro xNoStep.nf ?_))))
      refine And.intro (show 1 ≤ sizeLine by decide) ?_
      refine And.intro (show 7 ≤ sizeLine by decide) ?_
      refine And.intro (e7.rpr (by decide) (by decide)) ?_
      refine And.intro (show 1 ≤ sizeLine by decide) ?_
      refine And.intro ⟨by decide, by decide, show 1 * 7 ≤ sizeLine by decide⟩ ?_
      refine And.intro (e7.rpr (by decide) (by decide)) ?_
      refine And.intro ⟨e7.sh, e7.sh⟩ ?_
      rw [show PyData.eqv (.str (PyData.shown (.list ([a, a, a, a, a, a] ++ [a])))) (.str (PyData.shown (.list (repD 7 [a])))) = true from eqv_selfV _]
      exact hk _ _ ⟨_, _, _, _, _, _, _, _, rfl, by omega⟩
  · rintro ρ s ⟨o2, o3, o4, o5, o6, o7, o8, o9, rfl, _⟩
    rfl
end
end PP

set_option Elab.async false
set_option linter.all false
set_option maxRecDepth 100000
set_option maxHeartbeats 2000000
namespace PP
open PySem PySem.Spec PyProof.Rows L2
theorem kitL_of {K : PySem.W.Frag} {C : Addr} : ∀ {Ds : List Addr} {bs : List Bool}, (Ds.map fun D => PySem.W.kitOne K (.ref C) (.ref D)) = bs.map some → KitL K C Ds bs
  | [], [], _ => rfl
  | [], _ :: _, h => by cases h
  | _ :: _, [], h => by cases h
  | D :: Ds, b :: bs, h => by
    rw [List.map_cons, List.map_cons] at h
    injection h with h1 h2
    exact ⟨b, bs, rfl, h1, kitL_of h2⟩
theorem tab_at {α : Type} {f : Addr → α} {g : Nat → α} {Cs : List Addr} {n : Nat} (h : Cs.map f = (List.range n).map g) {k : Nat} {C : Addr} (hk : Cs[k]? = some C) : f C = g k := by
  have l : Cs.length = n := by have := congrArg List.length h; simpa using this
  have kl : k < n := by rw [← l]; exact (List.getElem?_eq_some_iff.mp hk).1
  have := congrArg (fun l : List α => l[k]?) h
  simp only [List.getElem?_map, hk, Option.map_some, List.getElem?_range kl] at this
  exact Option.some.inj this
theorem e57_mk {K : PySem.W.Frag} {Cs : List Addr} {CW CN : Addr} (ex : ∀ C ∈ Cs, ExcC K C) (hk : (Cs.map fun C => Cs.map fun D => PySem.W.kitOne K (.ref C) (.ref D)) = (List.range 13).map fun k => (List.range 13).map fun j => some (j == k))
    (hw : (Cs.map fun C => PySem.W.kitOne K (.ref C) (.ref CW)) = (List.range 13).map fun k => some (decide (k < 12))) (hv : (Cs.map fun C => PySem.W.kitOne K (.ref C) (.type "ValueError")) = (List.range 13).map fun k => some (decide (k < 12)))
    (nl : PySem.W.kitOne K (.ref CN) (.type "LookupError") = some true) (ni : PySem.W.kitOne K (.ref CN) (.type "IndexError") = some false) (nk : PySem.W.kitOne K (.ref CN) (.type "KeyError") = some false) : E57 K Cs CW CN where
  ex := ex
  kk k C h := kitL_of (by rw [tab_at hk h, List.map_map]; rfl)
  kw k C h := tab_at hw h
  kv k C h l := by rw [tab_at hv h, decide_eq_true l]
  nl := nl
  ni := ni
  nk := nk
section
variable {P : Program} {w : World} {K : PySem.W.Frag} {mg : Str → Option Value} {base : Heap}
abbrev sBadWeb_init : Stmt := (C8.clsBody (topS 2)).getD 0 (.Pass ⟨0, 0, 0, 0⟩)
theorem scBadWeb_init : FnScope ["self", "error"] ["self", "error"] (defScope sBadWeb_init) := ⟨rfl, rfl, rfl, by decide +kernel, rfl, by decide +kernel, by decide +kernel⟩
structure BadWebK (K : PySem.W.Frag) (mg : Str → Option Value) (C : Addr) : Prop where
  T : OexC K C
  nf : PySem.W.findIn K (.ref C) "error" = some none
  mgC : mg "BadWeb" = some (.ref C)
  ini : ∃ fI fd, PySem.W.findIn K (.ref C) "__init__" = some (some (.ref fI)) ∧ PySem.W.typeIn K (.ref fI) = some (.type "function") ∧ Binds K fd ["self", "error"] [] ∧ (∀ (s : Shared) (u1 u2 : Value), BindsTo s fd ⟨[u1], [("error", u2)]⟩ [("self", u1), ("error", u2)]) ∧ Fun K "__init__" "BadWeb.__init__" sBadWeb_init fI fd
  xf : XfC K C
  ec : ExcC K C
theorem BadWebK.fn {C fI : Addr} {fd : FuncData} (F : Fun K "__init__" "BadWeb.__init__" sBadWeb_init fI fd) : FnOk P w K mg base CX0 1 fI fd ["self", "error"] (spXI K C "error") := iniX_ok F scBadWeb_init rfl fun cdv A outer s H E => pss_one (ps_ost (pv 0) (pv 1))
theorem BadWebK.kw {C : Addr} (G : BadWebK K mg C) : ∃ fI fd, PySem.W.findIn K (.ref C) "__init__" = some (some (.ref fI)) ∧ PySem.W.typeIn K (.ref fI) = some (.type "function") ∧ (∀ (s : Shared) (u1 u2 : Value), K.In s.heap → BindsTo s fd ⟨[u1], [("error", u2)]⟩ [("self", u1), ("error", u2)]) ∧ FnOk P w K mg base CX0 1 fI fd ["self", "error"] (spXI K C "error") := by
  obtain ⟨fI, fd, h1, h2, _, h3, h4⟩ := G.ini
  exact ⟨fI, fd, h1, h2, fun s u1 u2 _ => h3 s u1 u2, BadWebK.fn h4⟩
theorem BadWebK.pl {C : Addr} (G : BadWebK K mg C) : ∃ fI fd, PySem.W.findIn K (.ref C) "__init__" = some (some (.ref fI)) ∧ PySem.W.typeIn K (.ref fI) = some (.type "function") ∧ Binds K fd ["self", "error"] [] ∧ FnOk P w K mg base CX0 1 fI fd ["self", "error"] (spXI K C "error") := by
  obtain ⟨fI, fd, h1, h2, h3, _, h4⟩ := G.ini
  exact ⟨fI, fd, h1, h2, h3, BadWebK.fn h4⟩
theorem BadWebK.cl {C : Addr} (G : BadWebK K mg C) : XCl P w K mg base "BadWeb" "error" C := ⟨G.T, G.nf, G.mgC, G.pl⟩
theorem BadWeb_mk {h : Heap} {C f0 : Addr} {od0 an0 : Option Addr} {sl0 : Array (Option Value)} {oc0 kV0 dc0 pm0 cd0 ct0 : Value} {nm q : Str} {N bs : _} {bm : List Value} {sn sub ab col dd k0 k1 k2 k3 k5 : _} (X : K.In h) (G : h.Ns mainGlobals mg)
    (aC : PySem.W.nsIn K mainGlobals "BadWeb" = some (some (.ref C)))
    (lk : K.lookup C = some (excClassObj nm q C N bs bm true sn sub ab col dd k0 k1 k2 k3 k5 "ValueError.__new__")) (rv : PySem.HandSPX.refsVE bm = true)
    (sa : PySem.W.findIn K (.ref C) "__setattr__" = some (some (.builtin "object.__setattr__"))) (exC : PySem.W.subIn K (.ref C) (.type "BaseException") = some true) (tyC : PySem.W.typeIn K (.ref C) = some (.type "type")) (kC : PySem.W.keepIn K (.ref C) = true)
    (nf : PySem.W.findIn K (.ref C) "error" = some none)
    (a0 : PySem.W.findIn K (.ref C) "__init__" = some (some (.ref f0))) (t0 : PySem.W.typeIn K (.ref f0) = some (.type "function"))
    (l0 : K.lookup f0 = some ⟨oc0, od0, .func (PySem.W.fnOf "__init__" "BadWeb.__init__" (defArgs sBadWeb_init) (defBody sBadWeb_init) (defScope sBadWeb_init) .none kV0 dc0 pm0 an0 cd0 ct0), sl0⟩) (c0 : PySem.W.codeIn K cd0 "BadWeb.__init__" = true) (kf0 : PySem.W.keepIn K (.ref f0) = true)
    (ga : PySem.W.findIn K (.ref C) "__getattribute__" = some (some (.builtin "BaseException.__getattribute__"))) (gg : PySem.W.findIn K (.ref C) "__getattr__" = some none) (hd : PySem.W.hasDictIn K C = true) (ha : PySem.W.findIn K (.ref C) "__class__" = some (some (.builtin "object.__class__"))) (hn : PySem.W.specialIn K (.builtin "object.__class__") "__get__" = some (some (.builtin "getset_descriptor.__get__"))) (ht : PySem.W.takesIn K (.builtin "object.__class__") = some true) (hm : PySem.W.mroIn K C (.type "object") = some true) : BadWebK K mg C := by
  have F0 := fun_mk (st := sBadWeb_init) l0 c0 kf0
  have b0 := F0.binds (ps := ["self", "error"]) fun _ _ _ _ _ _ us hl => match us, hl with | [_, _], _ => rfl
  skip
  exact ⟨⟨⟨_, _, _, _, _, _, _, _, _, _, _, _, _, _, _, lk, rv⟩, sa, exC, tyC, kC⟩, nf, PySem.W.mg_of X G aC, ⟨f0, _, a0, t0, b0, fun s u1 u2 => .of_eq rfl, F0⟩, ⟨ga, gg, exC, hd⟩, ⟨ga, gg, exC, hd, ha, hn, ht, hm⟩⟩
abbrev sShort_init : Stmt := (C8.clsBody (topS 5)).getD 0 (.Pass ⟨0, 0, 0, 0⟩)
theorem scShort_init : FnScope ["self", "index"] ["self", "index"] (defScope sShort_init) := ⟨rfl, rfl, rfl, by decide +kernel, rfl, by decide +kernel, by decide +kernel⟩
structure ShortK (K : PySem.W.Frag) (mg : Str → Option Value) (C : Addr) : Prop where
  T : OexC K C
  nf : PySem.W.findIn K (.ref C) "index" = some none
  mgC : mg "Short" = some (.ref C)
  ini : ∃ fI fd, PySem.W.findIn K (.ref C) "__init__" = some (some (.ref fI)) ∧ PySem.W.typeIn K (.ref fI) = some (.type "function") ∧ Binds K fd ["self", "index"] [] ∧ (∀ (s : Shared) (u1 u2 : Value), BindsTo s fd ⟨[u1], [("index", u2)]⟩ [("self", u1), ("index", u2)]) ∧ Fun K "__init__" "Short.__init__" sShort_init fI fd
  xf : XfC K C
  ec : ExcC K C
theorem ShortK.fn {C fI : Addr} {fd : FuncData} (F : Fun K "__init__" "Short.__init__" sShort_init fI fd) : FnOk P w K mg base CX0 1 fI fd ["self", "index"] (spXI K C "index") := iniX_ok F scShort_init rfl fun cdv A outer s H E => pss_one (ps_ost (pv 0) (pv 1))
theorem ShortK.kw {C : Addr} (G : ShortK K mg C) : ∃ fI fd, PySem.W.findIn K (.ref C) "__init__" = some (some (.ref fI)) ∧ PySem.W.typeIn K (.ref fI) = some (.type "function") ∧ (∀ (s : Shared) (u1 u2 : Value), K.In s.heap → BindsTo s fd ⟨[u1], [("index", u2)]⟩ [("self", u1), ("index", u2)]) ∧ FnOk P w K mg base CX0 1 fI fd ["self", "index"] (spXI K C "index") := by
  obtain ⟨fI, fd, h1, h2, _, h3, h4⟩ := G.ini
  exact ⟨fI, fd, h1, h2, fun s u1 u2 _ => h3 s u1 u2, ShortK.fn h4⟩
theorem ShortK.pl {C : Addr} (G : ShortK K mg C) : ∃ fI fd, PySem.W.findIn K (.ref C) "__init__" = some (some (.ref fI)) ∧ PySem.W.typeIn K (.ref fI) = some (.type "function") ∧ Binds K fd ["self", "index"] [] ∧ FnOk P w K mg base CX0 1 fI fd ["self", "index"] (spXI K C "index") := by
  obtain ⟨fI, fd, h1, h2, h3, _, h4⟩ := G.ini
  exact ⟨fI, fd, h1, h2, h3, ShortK.fn h4⟩
theorem ShortK.cl {C : Addr} (G : ShortK K mg C) : XCl P w K mg base "Short" "index" C := ⟨G.T, G.nf, G.mgC, G.pl⟩
theorem Short_mk {h : Heap} {C f0 : Addr} {od0 an0 : Option Addr} {sl0 : Array (Option Value)} {oc0 kV0 dc0 pm0 cd0 ct0 : Value} {nm q : Str} {N bs : _} {bm : List Value} {sn sub ab col dd k0 k1 k2 k3 k5 : _} (X : K.In h) (G : h.Ns mainGlobals mg)
    (aC : PySem.W.nsIn K mainGlobals "Short" = some (some (.ref C)))
    (lk : K.lookup C = some (excClassObj nm q C N bs bm true sn sub ab col dd k0 k1 k2 k3 k5 "ValueError.__new__")) (rv : PySem.HandSPX.refsVE bm = true)
    (sa : PySem.W.findIn K (.ref C) "__setattr__" = some (some (.builtin "object.__setattr__"))) (exC : PySem.W.subIn K (.ref C) (.type "BaseException") = some true) (tyC : PySem.W.typeIn K (.ref C) = some (.type "type")) (kC : PySem.W.keepIn K (.ref C) = true)
    (nf : PySem.W.findIn K (.ref C) "index" = some none)
    (a0 : PySem.W.findIn K (.ref C) "__init__" = some (some (.ref f0))) (t0 : PySem.W.typeIn K (.ref f0) = some (.type "function"))
    (l0 : K.lookup f0 = some ⟨oc0, od0, .func (PySem.W.fnOf "__init__" "Short.__init__" (defArgs sShort_init) (defBody sShort_init) (defScope sShort_init) .none kV0 dc0 pm0 an0 cd0 ct0), sl0⟩) (c0 : PySem.W.codeIn K cd0 "Short.__init__" = true) (kf0 : PySem.W.keepIn K (.ref f0) = true)
    (ga : PySem.W.findIn K (.ref C) "__getattribute__" = some (some (.builtin "BaseException.__getattribute__"))) (gg : PySem.W.findIn K (.ref C) "__getattr__" = some none) (hd : PySem.W.hasDictIn K C = true) (ha : PySem.W.findIn K (.ref C) "__class__" = some (some (.builtin "object.__class__"))) (hn : PySem.W.specialIn K (.builtin "object.__class__") "__get__" = some (some (.builtin "getset_descriptor.__get__"))) (ht : PySem.W.takesIn K (.builtin "object.__class__") = some true) (hm : PySem.W.mroIn K C (.type "object") = some true) : ShortK K mg C := by
  have F0 := fun_mk (st := sShort_init) l0 c0 kf0
  have b0 := F0.binds (ps := ["self", "index"]) fun _ _ _ _ _ _ us hl => match us, hl with | [_, _], _ => rfl
  skip
  exact ⟨⟨⟨_, _, _, _, _, _, _, _, _, _, _, _, _, _, _, lk, rv⟩, sa, exC, tyC, kC⟩, nf, PySem.W.mg_of X G aC, ⟨f0, _, a0, t0, b0, fun s u1 u2 => .of_eq rfl, F0⟩, ⟨ga, gg, exC, hd⟩, ⟨ga, gg, exC, hd, ha, hn, ht, hm⟩⟩
abbrev sLeft_init : Stmt := (C8.clsBody (topS 6)).getD 0 (.Pass ⟨0, 0, 0, 0⟩)
theorem scLeft_init : FnScope ["self", "many"] ["self", "many"] (defScope sLeft_init) := ⟨rfl, rfl, rfl, by decide +kernel, rfl, by decide +kernel, by decide +kernel⟩
structure LeftK (K : PySem.W.Frag) (mg : Str → Option Value) (C : Addr) : Prop where
  T : OexC K C
  nf : PySem.W.findIn K (.ref C) "many" = some none
  mgC : mg "Left" = some (.ref C)
  ini : ∃ fI fd, PySem.W.findIn K (.ref C) "__init__" = some (some (.ref fI)) ∧ PySem.W.typeIn K (.ref fI) = some (.type "function") ∧ Binds K fd ["self", "many"] [] ∧ (∀ (s : Shared) (u1 u2 : Value), BindsTo s fd ⟨[u1], [("many", u2)]⟩ [("self", u1), ("many", u2)]) ∧ Fun K "__init__" "Left.__init__" sLeft_init fI fd
  xf : XfC K C
  ec : ExcC K C
theorem LeftK.fn {C fI : Addr} {fd : FuncData} (F : Fun K "__init__" "Left.__init__" sLeft_init fI fd) : FnOk P w K mg base CX0 1 fI fd ["self", "many"] (spXI K C "many") := iniX_ok F scLeft_init rfl fun cdv A outer s H E => pss_one (ps_ost (pv 0) (pv 1))
theorem LeftK.kw {C : Addr} (G : LeftK K mg C) : ∃ fI fd, PySem.W.findIn K (.ref C) "__init__" = some (some (.ref fI)) ∧ PySem.W.typeIn K (.ref fI) = some (.type "function") ∧ (∀ (s : Shared) (u1 u2 : Value), K.In s.heap → BindsTo s fd ⟨[u1], [("many", u2)]⟩ [("self", u1), ("many", u2)]) ∧ FnOk P w K mg base CX0 1 fI fd ["self", "many"] (spXI K C "many") := by
  obtain ⟨fI, fd, h1, h2, _, h3, h4⟩ := G.ini
  exact ⟨fI, fd, h1, h2, fun s u1 u2 _ => h3 s u1 u2, LeftK.fn h4⟩
theorem LeftK.pl {C : Addr} (G : LeftK K mg C) : ∃ fI fd, PySem.W.findIn K (.ref C) "__init__" = some (some (.ref fI)) ∧ PySem.W.typeIn K (.ref fI) = some (.type "function") ∧ Binds K fd ["self", "many"] [] ∧ FnOk P w K mg base CX0 1 fI fd ["self", "many"] (spXI K C "many") := by
  obtain ⟨fI, fd, h1, h2, h3, _, h4⟩ := G.ini
  exact ⟨fI, fd, h1, h2, h3, LeftK.fn h4⟩
theorem LeftK.cl {C : Addr} (G : LeftK K mg C) : XCl P w K mg base "Left" "many" C := ⟨G.T, G.nf, G.mgC, G.pl⟩
theorem Left_mk {h : Heap} {C f0 : Addr} {od0 an0 : Option Addr} {sl0 : Array (Option Value)} {oc0 kV0 dc0 pm0 cd0 ct0 : Value} {nm q : Str} {N bs : _} {bm : List Value} {sn sub ab col dd k0 k1 k2 k3 k5 : _} (X : K.In h) (G : h.Ns mainGlobals mg)
    (aC : PySem.W.nsIn K mainGlobals "Left" = some (some (.ref C)))
    (lk : K.lookup C = some (excClassObj nm q C N bs bm true sn sub ab col dd k0 k1 k2 k3 k5 "ValueError.__new__")) (rv : PySem.HandSPX.refsVE bm = true)
    (sa : PySem.W.findIn K (.ref C) "__setattr__" = some (some (.builtin "object.__setattr__"))) (exC : PySem.W.subIn K (.ref C) (.type "BaseException") = some true) (tyC : PySem.W.typeIn K (.ref C) = some (.type "type")) (kC : PySem.W.keepIn K (.ref C) = true)
    (nf : PySem.W.findIn K (.ref C) "many" = some none)
    (a0 : PySem.W.findIn K (.ref C) "__init__" = some (some (.ref f0))) (t0 : PySem.W.typeIn K (.ref f0) = some (.type "function"))
    (l0 : K.lookup f0 = some ⟨oc0, od0, .func (PySem.W.fnOf "__init__" "Left.__init__" (defArgs sLeft_init) (defBody sLeft_init) (defScope sLeft_init) .none kV0 dc0 pm0 an0 cd0 ct0), sl0⟩) (c0 : PySem.W.codeIn K cd0 "Left.__init__" = true) (kf0 : PySem.W.keepIn K (.ref f0) = true)
    (ga : PySem.W.findIn K (.ref C) "__getattribute__" = some (some (.builtin "BaseException.__getattribute__"))) (gg : PySem.W.findIn K (.ref C) "__getattr__" = some none) (hd : PySem.W.hasDictIn K C = true) (ha : PySem.W.findIn K (.ref C) "__class__" = some (some (.builtin "object.__class__"))) (hn : PySem.W.specialIn K (.builtin "object.__class__") "__get__" = some (some (.builtin "getset_descriptor.__get__"))) (ht : PySem.W.takesIn K (.builtin "object.__class__") = some true) (hm : PySem.W.mroIn K C (.type "object") = some true) : LeftK K mg C := by
  have F0 := fun_mk (st := sLeft_init) l0 c0 kf0
  have b0 := F0.binds (ps := ["self", "many"]) fun _ _ _ _ _ _ us hl => match us, hl with | [_, _], _ => rfl
  skip
  exact ⟨⟨⟨_, _, _, _, _, _, _, _, _, _, _, _, _, _, _, lk, rv⟩, sa, exC, tyC, kC⟩, nf, PySem.W.mg_of X G aC, ⟨f0, _, a0, t0, b0, fun s u1 u2 => .of_eq rfl, F0⟩, ⟨ga, gg, exC, hd⟩, ⟨ga, gg, exC, hd, ha, hn, ht, hm⟩⟩
abbrev sBarred_init : Stmt := (C8.clsBody (topS 8)).getD 0 (.Pass ⟨0, 0, 0, 0⟩)
theorem scBarred_init : FnScope ["self", "bar"] ["self", "bar"] (defScope sBarred_init) := ⟨rfl, rfl, rfl, by decide +kernel, rfl, by decide +kernel, by decide +kernel⟩
structure BarredK (K : PySem.W.Frag) (mg : Str → Option Value) (C : Addr) : Prop where
  T : OexC K C
  nf : PySem.W.findIn K (.ref C) "bar" = some none
  mgC : mg "Barred" = some (.ref C)
  ini : ∃ fI fd, PySem.W.findIn K (.ref C) "__init__" = some (some (.ref fI)) ∧ PySem.W.typeIn K (.ref fI) = some (.type "function") ∧ Binds K fd ["self", "bar"] [] ∧ (∀ (s : Shared) (u1 u2 : Value), BindsTo s fd ⟨[u1], [("bar", u2)]⟩ [("self", u1), ("bar", u2)]) ∧ Fun K "__init__" "Barred.__init__" sBarred_init fI fd
  xf : XfC K C
  ec : ExcC K C
theorem BarredK.fn {C fI : Addr} {fd : FuncData} (F : Fun K "__init__" "Barred.__init__" sBarred_init fI fd) : FnOk P w K mg base CX0 1 fI fd ["self", "bar"] (spXI K C "bar") := iniX_ok F scBarred_init rfl fun cdv A outer s H E => pss_one (ps_ost (pv 0) (pv 1))
theorem BarredK.kw {C : Addr} (G : BarredK K mg C) : ∃ fI fd, PySem.W.findIn K (.ref C) "__init__" = some (some (.ref fI)) ∧ PySem.W.typeIn K (.ref fI) = some (.type "function") ∧ (∀ (s : Shared) (u1 u2 : Value), K.In s.heap → BindsTo s fd ⟨[u1], [("bar", u2)]⟩ [("self", u1), ("bar", u2)]) ∧ FnOk P w K mg base CX0 1 fI fd ["self", "bar"] (spXI K C "bar") := by
  obtain ⟨fI, fd, h1, h2, _, h3, h4⟩ := G.ini
  exact ⟨fI, fd, h1, h2, fun s u1 u2 _ => h3 s u1 u2, BarredK.fn h4⟩
theorem BarredK.pl {C : Addr} (G : BarredK K mg C) : ∃ fI fd, PySem.W.findIn K (.ref C) "__init__" = some (some (.ref fI)) ∧ PySem.W.typeIn K (.ref fI) = some (.type "function") ∧ Binds K fd ["self", "bar"] [] ∧ FnOk P w K mg base CX0 1 fI fd ["self", "bar"] (spXI K C "bar") := by
  obtain ⟨fI, fd, h1, h2, h3, _, h4⟩ := G.ini
  exact ⟨fI, fd, h1, h2, h3, BarredK.fn h4⟩
theorem BarredK.cl {C : Addr} (G : BarredK K mg C) : XCl P w K mg base "Barred" "bar" C := ⟨G.T, G.nf, G.mgC, G.pl⟩
theorem Barred_mk {h : Heap} {C f0 : Addr} {od0 an0 : Option Addr} {sl0 : Array (Option Value)} {oc0 kV0 dc0 pm0 cd0 ct0 : Value} {nm q : Str} {N bs : _} {bm : List Value} {sn sub ab col dd k0 k1 k2 k3 k5 : _} (X : K.In h) (G : h.Ns mainGlobals mg)
    (aC : PySem.W.nsIn K mainGlobals "Barred" = some (some (.ref C)))
    (lk : K.lookup C = some (excClassObj nm q C N bs bm true sn sub ab col dd k0 k1 k2 k3 k5 "ValueError.__new__")) (rv : PySem.HandSPX.refsVE bm = true)
    (sa : PySem.W.findIn K (.ref C) "__setattr__" = some (some (.builtin "object.__setattr__"))) (exC : PySem.W.subIn K (.ref C) (.type "BaseException") = some true) (tyC : PySem.W.typeIn K (.ref C) = some (.type "type")) (kC : PySem.W.keepIn K (.ref C) = true)
    (nf : PySem.W.findIn K (.ref C) "bar" = some none)
    (a0 : PySem.W.findIn K (.ref C) "__init__" = some (some (.ref f0))) (t0 : PySem.W.typeIn K (.ref f0) = some (.type "function"))
    (l0 : K.lookup f0 = some ⟨oc0, od0, .func (PySem.W.fnOf "__init__" "Barred.__init__" (defArgs sBarred_init) (defBody sBarred_init) (defScope sBarred_init) .none kV0 dc0 pm0 an0 cd0 ct0), sl0⟩) (c0 : PySem.W.codeIn K cd0 "Barred.__init__" = true) (kf0 : PySem.W.keepIn K (.ref f0) = true)
    (ga : PySem.W.findIn K (.ref C) "__getattribute__" = some (some (.builtin "BaseException.__getattribute__"))) (gg : PySem.W.findIn K (.ref C) "__getattr__" = some none) (hd : PySem.W.hasDictIn K C = true) (ha : PySem.W.findIn K (.ref C) "__class__" = some (some (.builtin "object.__class__"))) (hn : PySem.W.specialIn K (.builtin "object.__class__") "__get__" = some (some (.builtin "getset_descriptor.__get__"))) (ht : PySem.W.takesIn K (.builtin "object.__class__") = some true) (hm : PySem.W.mroIn K C (.type "object") = some true) : BarredK K mg C := by
  have F0 := fun_mk (st := sBarred_init) l0 c0 kf0
  have b0 := F0.binds (ps := ["self", "bar"]) fun _ _ _ _ _ _ us hl => match us, hl with | [_, _], _ => rfl
  skip
  exact ⟨⟨⟨_, _, _, _, _, _, _, _, _, _, _, _, _, _, _, lk, rv⟩, sa, exC, tyC, kC⟩, nf, PySem.W.mg_of X G aC, ⟨f0, _, a0, t0, b0, fun s u1 u2 => .of_eq rfl, F0⟩, ⟨ga, gg, exC, hd⟩, ⟨ga, gg, exC, hd, ha, hn, ht, hm⟩⟩
abbrev sUsed_init : Stmt := (C8.clsBody (topS 10)).getD 0 (.Pass ⟨0, 0, 0, 0⟩)
theorem scUsed_init : FnScope ["self", "value"] ["self", "value"] (defScope sUsed_init) := ⟨rfl, rfl, rfl, by decide +kernel, rfl, by decide +kernel, by decide +kernel⟩
structure UsedK (K : PySem.W.Frag) (mg : Str → Option Value) (C : Addr) : Prop where
  T : OexC K C
  nf : PySem.W.findIn K (.ref C) "value" = some none
  mgC : mg "Used" = some (.ref C)
  ini : ∃ fI fd, PySem.W.findIn K (.ref C) "__init__" = some (some (.ref fI)) ∧ PySem.W.typeIn K (.ref fI) = some (.type "function") ∧ Binds K fd ["self", "value"] [] ∧ (∀ (s : Shared) (u1 u2 : Value), BindsTo s fd ⟨[u1], [("value", u2)]⟩ [("self", u1), ("value", u2)]) ∧ Fun K "__init__" "Used.__init__" sUsed_init fI fd
  xf : XfC K C
  ec : ExcC K C
theorem UsedK.fn {C fI : Addr} {fd : FuncData} (F : Fun K "__init__" "Used.__init__" sUsed_init fI fd) : FnOk P w K mg base CX0 1 fI fd ["self", "value"] (spXI K C "value") := iniX_ok F scUsed_init rfl fun cdv A outer s H E => pss_one (ps_ost (pv 0) (pv 1))
theorem UsedK.kw {C : Addr} (G : UsedK K mg C) : ∃ fI fd, PySem.W.findIn K (.ref C) "__init__" = some (some (.ref fI)) ∧ PySem.W.typeIn K (.ref fI) = some (.type "function") ∧ (∀ (s : Shared) (u1 u2 : Value), K.In s.heap → BindsTo s fd ⟨[u1], [("value", u2)]⟩ [("self", u1), ("value", u2)]) ∧ FnOk P w K mg base CX0 1 fI fd ["self", "value"] (spXI K C "value") := by
  obtain ⟨fI, fd, h1, h2, _, h3, h4⟩ := G.ini
  exact ⟨fI, fd, h1, h2, fun s u1 u2 _ => h3 s u1 u2, UsedK.fn h4⟩
theorem UsedK.pl {C : Addr} (G : UsedK K mg C) : ∃ fI fd, PySem.W.findIn K (.ref C) "__init__" = some (some (.ref fI)) ∧ PySem.W.typeIn K (.ref fI) = some (.type "function") ∧ Binds K fd ["self", "value"] [] ∧ FnOk P w K mg base CX0 1 fI fd ["self", "value"] (spXI K C "value") := by
  obtain ⟨fI, fd, h1, h2, h3, _, h4⟩ := G.ini
  exact ⟨fI, fd, h1, h2, h3, UsedK.fn h4⟩
theorem UsedK.cl {C : Addr} (G : UsedK K mg C) : XCl P w K mg base "Used" "value" C := ⟨G.T, G.nf, G.mgC, G.pl⟩
theorem Used_mk {h : Heap} {C f0 : Addr} {od0 an0 : Option Addr} {sl0 : Array (Option Value)} {oc0 kV0 dc0 pm0 cd0 ct0 : Value} {nm q : Str} {N bs : _} {bm : List Value} {sn sub ab col dd k0 k1 k2 k3 k5 : _} (X : K.In h) (G : h.Ns mainGlobals mg)
    (aC : PySem.W.nsIn K mainGlobals "Used" = some (some (.ref C)))
    (lk : K.lookup C = some (excClassObj nm q C N bs bm true sn sub ab col dd k0 k1 k2 k3 k5 "ValueError.__new__")) (rv : PySem.HandSPX.refsVE bm = true)
    (sa : PySem.W.findIn K (.ref C) "__setattr__" = some (some (.builtin "object.__setattr__"))) (exC : PySem.W.subIn K (.ref C) (.type "BaseException") = some true) (tyC : PySem.W.typeIn K (.ref C) = some (.type "type")) (kC : PySem.W.keepIn K (.ref C) = true)
    (nf : PySem.W.findIn K (.ref C) "value" = some none)
    (a0 : PySem.W.findIn K (.ref C) "__init__" = some (some (.ref f0))) (t0 : PySem.W.typeIn K (.ref f0) = some (.type "function"))
    (l0 : K.lookup f0 = some ⟨oc0, od0, .func (PySem.W.fnOf "__init__" "Used.__init__" (defArgs sUsed_init) (defBody sUsed_init) (defScope sUsed_init) .none kV0 dc0 pm0 an0 cd0 ct0), sl0⟩) (c0 : PySem.W.codeIn K cd0 "Used.__init__" = true) (kf0 : PySem.W.keepIn K (.ref f0) = true)
    (ga : PySem.W.findIn K (.ref C) "__getattribute__" = some (some (.builtin "BaseException.__getattribute__"))) (gg : PySem.W.findIn K (.ref C) "__getattr__" = some none) (hd : PySem.W.hasDictIn K C = true) (ha : PySem.W.findIn K (.ref C) "__class__" = some (some (.builtin "object.__class__"))) (hn : PySem.W.specialIn K (.builtin "object.__class__") "__get__" = some (some (.builtin "getset_descriptor.__get__"))) (ht : PySem.W.takesIn K (.builtin "object.__class__") = some true) (hm : PySem.W.mroIn K C (.type "object") = some true) : UsedK K mg C := by
  have F0 := fun_mk (st := sUsed_init) l0 c0 kf0
  have b0 := F0.binds (ps := ["self", "value"]) fun _ _ _ _ _ _ us hl => match us, hl with | [_, _], _ => rfl
  skip
  exact ⟨⟨⟨_, _, _, _, _, _, _, _, _, _, _, _, _, _, _, lk, rv⟩, sa, exC, tyC, kC⟩, nf, PySem.W.mg_of X G aC, ⟨f0, _, a0, t0, b0, fun s u1 u2 => .of_eq rfl, F0⟩, ⟨ga, gg, exC, hd⟩, ⟨ga, gg, exC, hd, ha, hn, ht, hm⟩⟩
abbrev sBadText_init : Stmt := (C8.clsBody (topS 13)).getD 0 (.Pass ⟨0, 0, 0, 0⟩)
theorem scBadText_init : FnScope ["self", "line"] ["self", "line"] (defScope sBadText_init) := ⟨rfl, rfl, rfl, by decide +kernel, rfl, by decide +kernel, by decide +kernel⟩
structure BadTextK (K : PySem.W.Frag) (mg : Str → Option Value) (C : Addr) : Prop where
  T : OexC K C
  nf : PySem.W.findIn K (.ref C) "line" = some none
  mgC : mg "BadText" = some (.ref C)
  ini : ∃ fI fd, PySem.W.findIn K (.ref C) "__init__" = some (some (.ref fI)) ∧ PySem.W.typeIn K (.ref fI) = some (.type "function") ∧ Binds K fd ["self", "line"] [] ∧ (∀ (s : Shared) (u1 u2 : Value), BindsTo s fd ⟨[u1], [("line", u2)]⟩ [("self", u1), ("line", u2)]) ∧ Fun K "__init__" "BadText.__init__" sBadText_init fI fd
  xf : XfC K C
  ec : ExcC K C
theorem BadTextK.fn {C fI : Addr} {fd : FuncData} (F : Fun K "__init__" "BadText.__init__" sBadText_init fI fd) : FnOk P w K mg base CX0 1 fI fd ["self", "line"] (spXI K C "line") := iniX_ok F scBadText_init rfl fun cdv A outer s H E => pss_one (ps_ost (pv 0) (pv 1))
theorem BadTextK.kw {C : Addr} (G : BadTextK K mg C) : ∃ fI fd, PySem.W.findIn K (.ref C) "__init__" = some (some (.ref fI)) ∧ PySem.W.typeIn K (.ref fI) = some (.type "function") ∧ (∀ (s : Shared) (u1 u2 : Value), K.In s.heap → BindsTo s fd ⟨[u1], [("line", u2)]⟩ [("self", u1), ("line", u2)]) ∧ FnOk P w K mg base CX0 1 fI fd ["self", "line"] (spXI K C "line") := by
  obtain ⟨fI, fd, h1, h2, _, h3, h4⟩ := G.ini
  exact ⟨fI, fd, h1, h2, fun s u1 u2 _ => h3 s u1 u2, BadTextK.fn h4⟩
theorem BadTextK.pl {C : Addr} (G : BadTextK K mg C) : ∃ fI fd, PySem.W.findIn K (.ref C) "__init__" = some (some (.ref fI)) ∧ PySem.W.typeIn K (.ref fI) = some (.type "function") ∧ Binds K fd ["self", "line"] [] ∧ FnOk P w K mg base CX0 1 fI fd ["self", "line"] (spXI K C "line") := by
  obtain ⟨fI, fd, h1, h2, h3, _, h4⟩ := G.ini
  exact ⟨fI, fd, h1, h2, h3, BadTextK.fn h4⟩
theorem BadTextK.cl {C : Addr} (G : BadTextK K mg C) : XCl P w K mg base "BadText" "line" C := ⟨G.T, G.nf, G.mgC, G.pl⟩
theorem BadText_mk {h : Heap} {C f0 : Addr} {od0 an0 : Option Addr} {sl0 : Array (Option Value)} {oc0 kV0 dc0 pm0 cd0 ct0 : Value} {nm q : Str} {N bs : _} {bm : List Value} {sn sub ab col dd k0 k1 k2 k3 k5 : _} (X : K.In h) (G : h.Ns mainGlobals mg)
    (aC : PySem.W.nsIn K mainGlobals "BadText" = some (some (.ref C)))
    (lk : K.lookup C = some (excClassObj nm q C N bs bm true sn sub ab col dd k0 k1 k2 k3 k5 "ValueError.__new__")) (rv : PySem.HandSPX.refsVE bm = true)
    (sa : PySem.W.findIn K (.ref C) "__setattr__" = some (some (.builtin "object.__setattr__"))) (exC : PySem.W.subIn K (.ref C) (.type "BaseException") = some true) (tyC : PySem.W.typeIn K (.ref C) = some (.type "type")) (kC : PySem.W.keepIn K (.ref C) = true)
    (nf : PySem.W.findIn K (.ref C) "line" = some none)
    (a0 : PySem.W.findIn K (.ref C) "__init__" = some (some (.ref f0))) (t0 : PySem.W.typeIn K (.ref f0) = some (.type "function"))
    (l0 : K.lookup f0 = some ⟨oc0, od0, .func (PySem.W.fnOf "__init__" "BadText.__init__" (defArgs sBadText_init) (defBody sBadText_init) (defScope sBadText_init) .none kV0 dc0 pm0 an0 cd0 ct0), sl0⟩) (c0 : PySem.W.codeIn K cd0 "BadText.__init__" = true) (kf0 : PySem.W.keepIn K (.ref f0) = true)
    (ga : PySem.W.findIn K (.ref C) "__getattribute__" = some (some (.builtin "BaseException.__getattribute__"))) (gg : PySem.W.findIn K (.ref C) "__getattr__" = some none) (hd : PySem.W.hasDictIn K C = true) (ha : PySem.W.findIn K (.ref C) "__class__" = some (some (.builtin "object.__class__"))) (hn : PySem.W.specialIn K (.builtin "object.__class__") "__get__" = some (some (.builtin "getset_descriptor.__get__"))) (ht : PySem.W.takesIn K (.builtin "object.__class__") = some true) (hm : PySem.W.mroIn K C (.type "object") = some true) : BadTextK K mg C := by
  have F0 := fun_mk (st := sBadText_init) l0 c0 kf0
  have b0 := F0.binds (ps := ["self", "line"]) fun _ _ _ _ _ _ us hl => match us, hl with | [_, _], _ => rfl
  skip
  exact ⟨⟨⟨_, _, _, _, _, _, _, _, _, _, _, _, _, _, _, lk, rv⟩, sa, exC, tyC, kC⟩, nf, PySem.W.mg_of X G aC, ⟨f0, _, a0, t0, b0, fun s u1 u2 => .of_eq rfl, F0⟩, ⟨ga, gg, exC, hd⟩, ⟨ga, gg, exC, hd, ha, hn, ht, hm⟩⟩
abbrev sNoStep_init : Stmt := (C8.clsBody (topS 14)).getD 0 (.Pass ⟨0, 0, 0, 0⟩)
theorem scNoStep_init : FnScope ["self", "value"] ["self", "value"] (defScope sNoStep_init) := ⟨rfl, rfl, rfl, by decide +kernel, rfl, by decide +kernel, by decide +kernel⟩
structure NoStepK (K : PySem.W.Frag) (mg : Str → Option Value) (C : Addr) : Prop where
  T : OexL K C
  nf : PySem.W.findIn K (.ref C) "value" = some none
  mgC : mg "NoStep" = some (.ref C)
  ini : ∃ fI fd, PySem.W.findIn K (.ref C) "__init__" = some (some (.ref fI)) ∧ PySem.W.typeIn K (.ref fI) = some (.type "function") ∧ Binds K fd ["self", "value"] [] ∧ (∀ (s : Shared) (u1 u2 : Value), BindsTo s fd ⟨[u1], [("value", u2)]⟩ [("self", u1), ("value", u2)]) ∧ Fun K "__init__" "NoStep.__init__" sNoStep_init fI fd
  xf : XfC K C
  ec : ExcC K C
theorem NoStepK.fn {C fI : Addr} {fd : FuncData} (F : Fun K "__init__" "NoStep.__init__" sNoStep_init fI fd) : FnOk P w K mg base CX0 1 fI fd ["self", "value"] (spXIL K C "value") := iniXL_ok F scNoStep_init rfl fun cdv A outer s H E => pss_one (ps_ostL (pv 0) (pv 1))
theorem NoStepK.kw {C : Addr} (G : NoStepK K mg C) : ∃ fI fd, PySem.W.findIn K (.ref C) "__init__" = some (some (.ref fI)) ∧ PySem.W.typeIn K (.ref fI) = some (.type "function") ∧ (∀ (s : Shared) (u1 u2 : Value), K.In s.heap → BindsTo s fd ⟨[u1], [("value", u2)]⟩ [("self", u1), ("value", u2)]) ∧ FnOk P w K mg base CX0 1 fI fd ["self", "value"] (spXIL K C "value") := by
  obtain ⟨fI, fd, h1, h2, _, h3, h4⟩ := G.ini
  exact ⟨fI, fd, h1, h2, fun s u1 u2 _ => h3 s u1 u2, NoStepK.fn h4⟩
theorem NoStepK.pl {C : Addr} (G : NoStepK K mg C) : ∃ fI fd, PySem.W.findIn K (.ref C) "__init__" = some (some (.ref fI)) ∧ PySem.W.typeIn K (.ref fI) = some (.type "function") ∧ Binds K fd ["self", "value"] [] ∧ FnOk P w K mg base CX0 1 fI fd ["self", "value"] (spXIL K C "value") := by
  obtain ⟨fI, fd, h1, h2, h3, _, h4⟩ := G.ini
  exact ⟨fI, fd, h1, h2, h3, NoStepK.fn h4⟩
theorem NoStepK.cl {C : Addr} (G : NoStepK K mg C) : XClL P w K mg base "NoStep" "value" C := ⟨G.T, G.nf, G.mgC⟩
theorem NoStep_mk {h : Heap} {C f0 : Addr} {od0 an0 : Option Addr} {sl0 : Array (Option Value)} {oc0 kV0 dc0 pm0 cd0 ct0 : Value} {nm q : Str} {N bs : _} {bm : List Value} {sn sub ab col dd k0 k1 k2 k3 k5 : _} (X : K.In h) (G : h.Ns mainGlobals mg)
    (aC : PySem.W.nsIn K mainGlobals "NoStep" = some (some (.ref C)))
    (lk : K.lookup C = some (excClassObj nm q C N bs bm true sn sub ab col dd k0 k1 k2 k3 k5 "LookupError.__new__")) (rv : bm = leTail)
    (sa : PySem.W.findIn K (.ref C) "__setattr__" = some (some (.builtin "object.__setattr__"))) (exC : PySem.W.subIn K (.ref C) (.type "BaseException") = some true) (tyC : PySem.W.typeIn K (.ref C) = some (.type "type")) (kC : PySem.W.keepIn K (.ref C) = true)
    (nf : PySem.W.findIn K (.ref C) "value" = some none)
    (a0 : PySem.W.findIn K (.ref C) "__init__" = some (some (.ref f0))) (t0 : PySem.W.typeIn K (.ref f0) = some (.type "function"))
    (l0 : K.lookup f0 = some ⟨oc0, od0, .func (PySem.W.fnOf "__init__" "NoStep.__init__" (defArgs sNoStep_init) (defBody sNoStep_init) (defScope sNoStep_init) .none kV0 dc0 pm0 an0 cd0 ct0), sl0⟩) (c0 : PySem.W.codeIn K cd0 "NoStep.__init__" = true) (kf0 : PySem.W.keepIn K (.ref f0) = true)
    (ga : PySem.W.findIn K (.ref C) "__getattribute__" = some (some (.builtin "BaseException.__getattribute__"))) (gg : PySem.W.findIn K (.ref C) "__getattr__" = some none) (hd : PySem.W.hasDictIn K C = true) (ha : PySem.W.findIn K (.ref C) "__class__" = some (some (.builtin "object.__class__"))) (hn : PySem.W.specialIn K (.builtin "object.__class__") "__get__" = some (some (.builtin "getset_descriptor.__get__"))) (ht : PySem.W.takesIn K (.builtin "object.__class__") = some true) (hm : PySem.W.mroIn K C (.type "object") = some true) : NoStepK K mg C := by
  have F0 := fun_mk (st := sNoStep_init) l0 c0 kf0
  have b0 := F0.binds (ps := ["self", "value"]) fun _ _ _ _ _ _ us hl => match us, hl with | [_, _], _ => rfl
  subst rv
  exact ⟨⟨⟨_, _, _, _, _, _, _, _, _, _, _, _, _, _, lk⟩, sa, exC, tyC, kC⟩, nf, PySem.W.mg_of X G aC, ⟨f0, _, a0, t0, b0, fun s u1 u2 => .of_eq rfl, F0⟩, ⟨ga, gg, exC, hd⟩, ⟨ga, gg, exC, hd, ha, hn, ht, hm⟩⟩
structure ZeroK (K : PySem.W.Frag) (mg : Str → Option Value) (x : Str) (C : Addr) : Prop where
  mgC : mg x = some (.ref C)
  q : PySem.W.excIn K C [.type "ValueError", .type "Exception", .type "BaseException", .type "object"] "ValueError.__new__" = true
  e : PySem.W.keepIn K (.ref C) = true ∧ PySem.W.subIn K (.ref C) (.type "BaseException") = some true ∧ PySem.W.typeIn K (.ref C) = some (.type "type")
  ec : ExcC K C
theorem zero_mk {h : Heap} {C : Addr} {x : Str} (X : K.In h) (G : h.Ns mainGlobals mg)
    (aC : PySem.W.nsIn K mainGlobals x = some (some (.ref C))) (exC : PySem.W.subIn K (.ref C) (.type "BaseException") = some true) (tyC : PySem.W.typeIn K (.ref C) = some (.type "type")) (kC : PySem.W.keepIn K (.ref C) = true)
    (ga : PySem.W.findIn K (.ref C) "__getattribute__" = some (some (.builtin "BaseException.__getattribute__"))) (gg : PySem.W.findIn K (.ref C) "__getattr__" = some none) (hd : PySem.W.hasDictIn K C = true) (ha : PySem.W.findIn K (.ref C) "__class__" = some (some (.builtin "object.__class__"))) (hn : PySem.W.specialIn K (.builtin "object.__class__") "__get__" = some (some (.builtin "getset_descriptor.__get__"))) (ht : PySem.W.takesIn K (.builtin "object.__class__") = some true) (hm : PySem.W.mroIn K C (.type "object") = some true)
    (q : PySem.W.excIn K C [.type "ValueError", .type "Exception", .type "BaseException", .type "object"] "ValueError.__new__" = true) : ZeroK K mg x C := ⟨PySem.W.mg_of X G aC, q, ⟨kC, exC, tyC⟩, ⟨ga, gg, exC, hd, ha, hn, ht, hm⟩⟩
end
structure Gm57 (K : PySem.W.Frag) (mg : Str → Option Value) (CBadWeb CBadOrder CTooMany CShort CLeft CNoOrder CBarred CFull CUsed CNothingToUndo CNothingToRedo CBadText CNoStep CWebError : Addr) : Prop where
  xBadWeb : BadWebK K mg CBadWeb
  xBadOrder : ZeroK K mg "BadOrder" CBadOrder
  xTooMany : ZeroK K mg "TooMany" CTooMany
  xShort : ShortK K mg CShort
  xLeft : LeftK K mg CLeft
  xNoOrder : ZeroK K mg "NoOrder" CNoOrder
  xBarred : BarredK K mg CBarred
  xFull : ZeroK K mg "Full" CFull
  xUsed : UsedK K mg CUsed
  xNothingToUndo : ZeroK K mg "NothingToUndo" CNothingToUndo
  xNothingToRedo : ZeroK K mg "NothingToRedo" CNothingToRedo
  xBadText : BadTextK K mg CBadText
  xNoStep : NoStepK K mg CNoStep
  mW : mg "WebError" = some (.ref CWebError)
  bValueError : mg "ValueError" = none
  bLookupError : mg "LookupError" = none
  bIndexError : mg "IndexError" = none
  bKeyError : mg "KeyError" = none
  gMAX_STEPS : ∃ t, mg "MAX_STEPS" = some (.int 10 t)
  gMAX_COPIES : ∃ t, mg "MAX_COPIES" = some (.int 30 t)
  gMAX_EDITS : ∃ t, mg "MAX_EDITS" = some (.int 40 t)
  E : E57 K [CBadWeb, CBadOrder, CTooMany, CShort, CLeft, CNoOrder, CBarred, CFull, CUsed, CNothingToUndo, CNothingToRedo, CBadText, CNoStep] CWebError CNoStep
structure Gx57 (K : PySem.W.Frag) (mg : Str → Option Value) : Prop where
  ex : ∃ CBadWeb CBadOrder CTooMany CShort CLeft CNoOrder CBarred CFull CUsed CNothingToUndo CNothingToRedo CBadText CNoStep CWebError, Gm57 K mg CBadWeb CBadOrder CTooMany CShort CLeft CNoOrder CBarred CFull CUsed CNothingToUndo CNothingToRedo CBadText CNoStep CWebError
end PP

set_option Elab.async false
set_option linter.all false
set_option maxRecDepth 100000
set_option maxHeartbeats 2000000
namespace PP
open PySem PySem.Spec PyProof.Rows L2
/-- what the call of a law comes to -/
def Good (t : Shared) (r : Result) (t' : Shared) : Prop := r = .ok (.ret (.bool true)) ∧ OldK t.heap t'.heap ∧ t'.os = t.os ∧ AllBare t'.gens
section
variable {P : Program} {w : World} {K : PySem.W.Frag} {mg mb : Str → Option Value} {k : Nat} {fa a : Addr} {fd : FuncData} {x : Str} {sp : Sp} {t : Shared} {vs : List Value} {ns : List Int}
/-- at one tracked heap -/
theorem runH (kin : K.In t.heap) (nsM : t.heap.Ns mainGlobals mg) (nsB : t.heap.Ns builtinsNs mb) (bb : ∀ y : Str, y ≠ "__name__" → mb y = bootBuiltins y)
    (lim : t.heap.NoLimit) (gen : t.gens = #[]) (obj : t.heap.get? a = some { cls := .type "list", data := .seq vs.toArray })
    (room : Room k callerA) (F : ∀ base : Heap, K.In base → base.Ns mainGlobals mg → FnG P w K mg base CX0 k fa fd [x] sp)
    (bind : ∀ (s : Shared) (u : Value), BindsTo s fd ⟨[u], []⟩ [(x, u)]) (H : Hp) (only : Only H) (hok : HOk P w H t.heap)
    (ow : ∀ b, H b ≠ none → b = a) (nk : H a ≠ none → K.lookup a = none) (hs : sp [.ref a] H (fun v _ => v = .bl true) fun _ _ _ => False) :
    codeAny (model P w) callerA (.call (.ref fa) ⟨[.ref a], []⟩) (Good t) t := by
  have kb : K.In (hidT t.heap H) := fun b o e => by
    by_cases c : H b = none
    · exact hidT_get (kin b o e) c
    · have z := ow b c
      subst z
      rw [nk c] at e
      cases e
  have nm : ∀ {b : Addr} {m : Str → Option Value}, t.heap.Ns b m → (hidT t.heap H).Ns b m := fun {b m} ⟨o, es, ep, e, d, r⟩ => by
    refine ⟨o, es, ep, hidT_get e ?_, d, r⟩
    by_cases c : H b = none
    · exact c
    · have z := ow b c
      subst z
      rw [obj] at e
      cases e
      exact nomatch (show Data.seq vs.toArray _ = Data.dict es ep from d)
  obtain ⟨mc, l1, l2⟩ := lim
  have md : Mod K mg (hidT t.heap H) := { kin := kb, glob := nm nsM, blt := ⟨mb, nm nsB, bb⟩, nolimit := ⟨mc, nm l1, l2⟩ }
  have env : Env0 P w K mg (hidT t.heap H) callerA [] t H := by
    refine ⟨rfl, md, ?_, ?_, trivial, ?_, hok, .of_eq gen⟩
    · exact fun b o e => of_hidT e
    · exact Nat.le_of_eq (hidT_size _ _)
    · intro b m
      cases (show b ∈ ([] : List Addr) from m)
  have run := (F _ kb (nm nsM)).go callerA [] t H ⟨[.ref a], []⟩ [.ref a] [.ref a] _ _ room rfl env (bind t (.ref a)) (.cons rfl .nil) hs
  refine codeAny_mono run ?_
  rintro (e | f) t' r
  · exact (show False from r).elim
  cases f <;> first | exact (show False from r).elim | skip
  obtain ⟨v, H', os, bare, un, hok', rv, q⟩ := r
  have q : v = .bl true := q
  subst q
  obtain rfl := (show _ = Value.bool true from rv)
  refine ⟨rfl, OldK.of_keep fun b o e => ?_, os, bare⟩
  by_cases c : H b = none
  · refine un.keep b o e c ?_ (by simp)
    intro z
    cases (show b ∈ ([] : List Addr) from z)
  · rcases only b with z | ⟨ob, xs, z⟩
    · exact absurd z c
    · have e1 := (hok b _ z).1
      have e2 := (hok' b _ (un.frzs b ob _ z)).1
      rw [e] at e1
      cases e1
      exact e2
theorem runL (kin : K.In t.heap) (nsM : t.heap.Ns mainGlobals mg) (nsB : t.heap.Ns builtinsNs mb) (bb : ∀ y : Str, y ≠ "__name__" → mb y = bootBuiltins y)
    (lim : t.heap.NoLimit) (gen : t.gens = #[]) (obj : t.heap.get? a = some { cls := .type "list", data := .seq vs.toArray }) (hi : IntsAre vs ns) (hl : ns.length ≤ sizeLine)
    (room : Room k callerA) (F : ∀ base : Heap, K.In base → base.Ns mainGlobals mg → FnG P w K mg base CX0 k fa fd [x] sp)
    (bind : ∀ (s : Shared) (u : Value), BindsTo s fd ⟨[u], []⟩ [(x, u)])
    (hs : ∀ H : Hp, Only H → SqL K H a (ns.map V.int) → sp [.ref a] H (fun v _ => v = .bl true) fun _ _ _ => False) :
    codeAny (model P w) callerA (.call (.ref fa) ⟨[.ref a], []⟩) (Good t) t := by
  have rv := vals_ints hi
  have n1 := hi.length
  cases q : K.lookup a with
  | some o =>
    have e := kin a o q
    rw [obj] at e
    cases e
    have on : Only fun _ => none := fun _ => .inl rfl
    refine runH kin nsM nsB bb lim gen obj room F bind _ on (fun b u z => by cases z) (fun b z => absurd rfl z) (fun z => absurd rfl z) (hs _ on (.inr ⟨_, vs.toArray, _, q, rfl, rfl, rfl, ?_, by simpa using rv⟩))
    rw [List.size_toArray, n1]
    exact hl
  | none =>
    have at_ : ∀ b (u : HO), (fun b => if b = a then some (HO.frz { cls := .type "list", data := .seq vs.toArray } (.lst (ns.map V.int))) else none) b = some u → b = a ∧ u = .frz { cls := .type "list", data := .seq vs.toArray } (.lst (ns.map V.int)) := by
      intro b u z
      by_cases c : b = a
      · exact ⟨c, (Option.some.inj ((if_pos c).symm.trans z)).symm⟩
      · cases (if_neg c).symm.trans z
    have on : Only fun b => if b = a then some (HO.frz { cls := .type "list", data := .seq vs.toArray } (.lst (ns.map V.int))) else none := by
      intro b
      by_cases c : b = a
      · exact .inr ⟨_, _, if_pos c⟩
      · exact .inl (if_neg c)
    refine runH kin nsM nsB bb lim gen obj room F bind _ on (fun b u z => ?_) (fun b z => ?_) (fun _ => q) (hs _ on (.inl (.inr ⟨_, if_pos rfl⟩)))
    · obtain ⟨rfl, rfl⟩ := at_ b u z
      exact ⟨obj, by rw [List.length_map]; exact hl, vs, _, rv, obj⟩
    · by_cases c : b = a
      · exact c
      · exact absurd (if_neg c) z
end
/-- the goal that the head leaves, from the promise of the law's def -/
theorem walkG {l : PySem.W.OpenLaw} {n k : Nat} {q : Program} {loose : List Str} {XP : (Str → Option Value) → Heap → Prop} {YP : World → Heap → Prop} {d : DefRec} {K : Params → PySem.W.Frag} {sp : World → Sp} {x : Str}
    (hn : l.most = some n) (hn2 : n ≤ sizeLine) (hdf : d.params.defaults = []) (room : Room k callerA) (hY : ∀ (w : World) (h : Heap), YP w h → (K w.params).In h)
    (F : ∀ (w : World) (mg : Str → Option Value) (fa : Addr) (h : Heap), (K w.params).In h → h.Ns mainGlobals mg → mg d.name = some (.ref fa) →
      ∃ fd : FuncData, (∀ (s : Shared) (u : Value), BindsTo s fd ⟨[u], []⟩ [(x, u)]) ∧ ∀ base : Heap, (K w.params).In base → base.Ns mainGlobals mg → FnG l.prog w (K w.params) mg base CX0 k fa fd [x] (sp w))
    (hs : ∀ (w : World) (H : Hp) (a : Addr) (ns : List Int), ns.length ≤ n → Only H → SqL (K w.params) H a (ns.map V.int) → sp w [.ref a] H (fun v _ => v = .bl true) fun _ _ _ => False) :
    PySem.W.WalkO q loose XP YP l.row.toRowW d [] (fun f vs => PySem.call f vs) := by
  refine Att.attach_call hn hdf fun w s₀ t mg mb fa o pm cd doc a vs ns G Y _ _ _ hm hobj hints hlen hg => ?_
  have kin := hY w _ Y
  obtain ⟨fd, hb, hF⟩ := F w mg fa _ kin G.T.g hm
  exact runL kin G.T.g G.T.b G.T.builtins G.T.nolimit hg hobj hints (Nat.le_trans hlen hn2) room hF hb fun H hO hS => hs w H a ns hlen hO hS
/-- a def, from what the top has written -/
theorem hd_mk {K : PySem.W.Frag} {h : Heap} {mg : Str → Option Value} {x : Str} {st : Stmt} {ps : List Str} {f : Addr} {od an : Option Addr} {sl : Array (Option Value)} {oc kV dc pm cd ct : Value} (X : K.In h) (G : h.Ns mainGlobals mg)
    (a : PySem.W.nsIn K mainGlobals x = some (some (.ref f))) (l : K.lookup f = some ⟨oc, od, .func (PySem.W.fnOf x x (defArgs st) (defBody st) (defScope st) .none kV dc pm an cd ct), sl⟩) (c : PySem.W.codeIn K cd x = true) (k : PySem.W.keepIn K (.ref f) = true)
    (b : ∀ (kV doc pm : Value) (an : Option Addr) (cdv ct : Value) (us : List Value), us.length = ps.length → bindArgs (PySem.W.fnOf x x (defArgs st) (defBody st) (defScope st) .none kV doc pm an cdv ct) ⟨us, []⟩ = pure (ps.zip us)) : Hd K mg x st ps :=
  ⟨f, _, fun_mk l c k, (fun_mk l c k).binds b, PySem.W.mg_of X G a⟩
end PP

set_option Elab.async false
set_option linter.all false
set_option maxRecDepth 100000
set_option maxHeartbeats 2000000
namespace PP
open PySem PySem.Spec PyProof.Rows L2
section
variable {P : Program} {w : World} {K : PySem.W.Frag} {mg mb : Str → Option Value} {k : Nat} {fa a : Addr} {fd : FuncData} {x : Str} {sp : Sp} {t : Shared} {vs : List Value} {ns : List Int}
/-- at one tracked heap -/
theorem runHM (kin : K.In t.heap) (nsM : t.heap.Ns mainGlobals mg) (nsB : t.heap.Ns builtinsNs mb) (bb : ∀ y : Str, y ≠ "__name__" → mb y = bootBuiltins y)
    (mods : ∃ mm, t.heap.Ns sysModules mm) (lim : t.heap.NoLimit) (gen : t.gens = #[]) (obj : t.heap.get? a = some { cls := .type "list", data := .seq vs.toArray })
    (room : Room k callerA) (F : ∀ base : Heap, K.In base → base.Ns mainGlobals mg → (∃ o, base.get? sysModules = some o) → FnG P w K mg base CX0 k fa fd [x] sp)
    (bind : ∀ (s : Shared) (u : Value), BindsTo s fd ⟨[u], []⟩ [(x, u)]) (H : Hp) (only : Only H) (hok : HOk P w H t.heap)
    (ow : ∀ b, H b ≠ none → b = a) (nk : H a ≠ none → K.lookup a = none) (hs : sp [.ref a] H (fun v _ => v = .bl true) fun _ _ _ => False) :
    codeAny (model P w) callerA (.call (.ref fa) ⟨[.ref a], []⟩) (Good t) t := by
  have kb : K.In (hidT t.heap H) := fun b o e => by
    by_cases c : H b = none
    · exact hidT_get (kin b o e) c
    · have z := ow b c
      subst z
      rw [nk c] at e
      cases e
  have nm : ∀ {b : Addr} {m : Str → Option Value}, t.heap.Ns b m → (hidT t.heap H).Ns b m := fun {b m} ⟨o, es, ep, e, d, r⟩ => by
    refine ⟨o, es, ep, hidT_get e ?_, d, r⟩
    by_cases c : H b = none
    · exact c
    · have z := ow b c
      subst z
      rw [obj] at e
      cases e
      exact nomatch (show Data.seq vs.toArray _ = Data.dict es ep from d)
  obtain ⟨mc, l1, l2⟩ := lim
  have md : Mod K mg (hidT t.heap H) := { kin := kb, glob := nm nsM, blt := ⟨mb, nm nsB, bb⟩, nolimit := ⟨mc, nm l1, l2⟩ }
  have env : Env0 P w K mg (hidT t.heap H) callerA [] t H := by
    refine ⟨rfl, md, ?_, ?_, trivial, ?_, hok, .of_eq gen⟩
    · exact fun b o e => of_hidT e
    · exact Nat.le_of_eq (hidT_size _ _)
    · intro b m
      cases (show b ∈ ([] : List Addr) from m)
  have run := (F _ kb (nm nsM) (let ⟨_, x⟩ := mods; let ⟨o, _, _, e, _⟩ := nm x; ⟨o, e⟩)).go callerA [] t H ⟨[.ref a], []⟩ [.ref a] [.ref a] _ _ room rfl env (bind t (.ref a)) (.cons rfl .nil) hs
  refine codeAny_mono run ?_
  rintro (e | f) t' r
  · exact (show False from r).elim
  cases f <;> first | exact (show False from r).elim | skip
  obtain ⟨v, H', os, bare, un, hok', rv, q⟩ := r
  have q : v = .bl true := q
  subst q
  obtain rfl := (show _ = Value.bool true from rv)
  refine ⟨rfl, OldK.of_keep fun b o e => ?_, os, bare⟩
  by_cases c : H b = none
  · refine un.keep b o e c ?_ (by simp)
    intro z
    cases (show b ∈ ([] : List Addr) from z)
  · rcases only b with z | ⟨ob, xs, z⟩
    · exact absurd z c
    · have e1 := (hok b _ z).1
      have e2 := (hok' b _ (un.frzs b ob _ z)).1
      rw [e] at e1
      cases e1
      exact e2
theorem runLM (kin : K.In t.heap) (nsM : t.heap.Ns mainGlobals mg) (nsB : t.heap.Ns builtinsNs mb) (bb : ∀ y : Str, y ≠ "__name__" → mb y = bootBuiltins y)
    (mods : ∃ mm, t.heap.Ns sysModules mm) (lim : t.heap.NoLimit) (gen : t.gens = #[]) (obj : t.heap.get? a = some { cls := .type "list", data := .seq vs.toArray }) (hi : IntsAre vs ns) (hl : ns.length ≤ sizeLine)
    (room : Room k callerA) (F : ∀ base : Heap, K.In base → base.Ns mainGlobals mg → (∃ o, base.get? sysModules = some o) → FnG P w K mg base CX0 k fa fd [x] sp)
    (bind : ∀ (s : Shared) (u : Value), BindsTo s fd ⟨[u], []⟩ [(x, u)])
    (hs : ∀ H : Hp, Only H → SqL K H a (ns.map V.int) → sp [.ref a] H (fun v _ => v = .bl true) fun _ _ _ => False) :
    codeAny (model P w) callerA (.call (.ref fa) ⟨[.ref a], []⟩) (Good t) t := by
  have rv := vals_ints hi
  have n1 := hi.length
  cases q : K.lookup a with
  | some o =>
    have e := kin a o q
    rw [obj] at e
    cases e
    have on : Only fun _ => none := fun _ => .inl rfl
    refine runHM kin nsM nsB bb mods lim gen obj room F bind _ on (fun b u z => by cases z) (fun b z => absurd rfl z) (fun z => absurd rfl z) (hs _ on (.inr ⟨_, vs.toArray, _, q, rfl, rfl, rfl, ?_, by simpa using rv⟩))
    rw [List.size_toArray, n1]
    exact hl
  | none =>
    have at_ : ∀ b (u : HO), (fun b => if b = a then some (HO.frz { cls := .type "list", data := .seq vs.toArray } (.lst (ns.map V.int))) else none) b = some u → b = a ∧ u = .frz { cls := .type "list", data := .seq vs.toArray } (.lst (ns.map V.int)) := by
      intro b u z
      by_cases c : b = a
      · exact ⟨c, (Option.some.inj ((if_pos c).symm.trans z)).symm⟩
      · cases (if_neg c).symm.trans z
    have on : Only fun b => if b = a then some (HO.frz { cls := .type "list", data := .seq vs.toArray } (.lst (ns.map V.int))) else none := by
      intro b
      by_cases c : b = a
      · exact .inr ⟨_, _, if_pos c⟩
      · exact .inl (if_neg c)
    refine runHM kin nsM nsB bb mods lim gen obj room F bind _ on (fun b u z => ?_) (fun b z => ?_) (fun _ => q) (hs _ on (.inl (.inr ⟨_, if_pos rfl⟩)))
    · obtain ⟨rfl, rfl⟩ := at_ b u z
      exact ⟨obj, by rw [List.length_map]; exact hl, vs, _, rv, obj⟩
    · by_cases c : b = a
      · exact c
      · exact absurd (if_neg c) z
end
/-- the goal that the head leaves, from the promise of the law's def -/
theorem walkGM {l : PySem.W.OpenLaw} {n k : Nat} {q : Program} {loose : List Str} {XP : (Str → Option Value) → Heap → Prop} {YP : World → Heap → Prop} {d : DefRec} {K : Params → PySem.W.Frag} {sp : World → Sp} {x : Str}
    (hi : importsNone q = true) (hn : l.most = some n) (hn2 : n ≤ sizeLine) (hdf : d.params.defaults = []) (room : Room k callerA) (hY : ∀ (w : World) (h : Heap), YP w h → (K w.params).In h)
    (F : ∀ (w : World) (mg : Str → Option Value) (fa : Addr) (h : Heap), (K w.params).In h → h.Ns mainGlobals mg → mg d.name = some (.ref fa) →
      ∃ fd : FuncData, (∀ (s : Shared) (u : Value), BindsTo s fd ⟨[u], []⟩ [(x, u)]) ∧ ∀ base : Heap, (K w.params).In base → base.Ns mainGlobals mg → (∃ o, base.get? sysModules = some o) → FnG l.prog w (K w.params) mg base CX0 k fa fd [x] (sp w))
    (hs : ∀ (w : World) (H : Hp) (a : Addr) (ns : List Int), ns.length ≤ n → Only H → SqL (K w.params) H a (ns.map V.int) → sp w [.ref a] H (fun v _ => v = .bl true) fun _ _ _ => False) :
    PySem.W.WalkO q loose XP YP l.row.toRowW d [] (fun f vs => PySem.call f vs) := by
  refine Att.attach_call hn hdf fun w s₀ t mg mb fa o pm cd doc a vs ns G Y _ _ _ hm hobj hints hlen hg => ?_
  have kin := hY w _ Y
  obtain ⟨fd, hb, hF⟩ := F w mg fa _ kin G.T.g hm
  exact runLM kin G.T.g G.T.b G.T.builtins (let ⟨mm, h, _⟩ := (G.T.seer hi).mods; ⟨mm, h⟩) G.T.nolimit hg hobj hints (Nat.le_trans hlen hn2) room hF hb fun H hO hS => hs w H a ns hlen hO hS

/-! ### a dict of the top from texts to ints -/
def kvE (e : DictEntry) : Option (Str × Int) := match e.key, e.val with
  | .str x _, .int i _ => some (x, i)
  | _, _ => none
theorem kvE_of {e : DictEntry} {x : Str} {i : Int} (h : kvE e = some (x, i)) : (∃ t, e.key = .str x t) ∧ ∃ t, e.val = .int i t := by
  unfold kvE at h
  split at h
  · rename_i x' t i' t' h1 h2
    cases h
    exact ⟨⟨_, h1⟩, _, h2⟩
  · cases h
theorem find_tab : ∀ {l : List DictEntry} {tab : List (Str × Int)}, l.map kvE = tab.map some → ∀ z, (l.any (·.refKey)) = false ∧ match tabFind tab z with
    | some i => ∃ e t, l.find? (·.key.isStr z) = some e ∧ e.val = .int i t
    | none => l.find? (·.key.isStr z) = none
  | [], [], _, z => ⟨rfl, rfl⟩
  | [], _ :: _, h, _ => by cases h
  | _ :: _, [], h, _ => by cases h
  | e :: l, (x, i) :: tab, h, z => by
    obtain ⟨h1, h2⟩ := List.cons.inj h
    obtain ⟨⟨t, hk⟩, t', hv⟩ := kvE_of h1
    obtain ⟨i1, i2⟩ := find_tab h2 z
    have hr : e.refKey = false := by unfold DictEntry.refKey; rw [hk]
    refine ⟨by rw [List.any_cons, hr, i1]; rfl, ?_⟩
    have he : e.key.isStr z = (x == z) := by rw [hk]; rfl
    unfold tabFind at i2 ⊢
    by_cases c : x = z
    · subst c
      rw [List.find?_cons_of_pos (by simp)]
      exact ⟨e, t', by rw [List.find?_cons_of_pos (by rw [he]; simp)], hv⟩
    · have c2 : (x == z) = false := by simpa using c
      rw [List.find?_cons_of_neg (by rw [c2]; decide), List.find?_cons_of_neg (by rw [he, c2]; decide)]
      exact i2
theorem tab_mk {K : PySem.W.Frag} {w : World} {h : Heap} {mg : Str → Option Value} {y : Str} {tab : List (Str × Int)} {d : Addr} {es : Array DictEntry} {n : Nat} (X : K.In h) (G : h.Ns mainGlobals mg)
    (a : PySem.W.nsIn K mainGlobals y = some (some (.ref d))) (l : K.lookup d = some ⟨.type "dict", none, .dict es n, #[]⟩) (lo : (d == sysModules) = false)
    (k : es.toList.map He.keyOf = He.keysIn w.params (tab.map (·.1))) (v : es.toList.map kvE = tab.map some) : KTab K w mg y tab := by
  refine ⟨d, es, n, PySem.W.mg_of X G a, ⟨l, He.keysLit_of k, lo⟩, fun z => ?_⟩
  obtain ⟨i1, i2⟩ := find_tab v z
  unfold PySem.W.nsIn
  rw [l]
  dsimp only
  cases q : tabFind tab z with
  | some i =>
    rw [q] at i2
    obtain ⟨e, t, h1, h2⟩ := i2
    rw [h1]
    exact ⟨some e.val, rfl, t, by rw [h2]⟩
  | none =>
    rw [q] at i2
    have i2 : es.toList.find? (·.key.isStr z) = none := i2
    rw [i2]
    dsimp only
    rw [i1]
    exact ⟨none, rfl, rfl⟩
end PP

set_option Elab.async false
set_option linter.all false
set_option maxRecDepth 100000
set_option maxHeartbeats 2000000
namespace PP
open PySem PySem.Spec PyProof.Rows L2
section
variable {P : Program} {w : World} {K : PySem.W.Frag} {mg : Str → Option Value} {base : Heap}
/-- all defs stand -/
structure Tops (K : PySem.W.Frag) (mg : Str → Option Value) : Prop where
  t_law_deck : Hd K mg "_law_deck" s_law_deck ["script"]
  t_law_draw : Hd K mg "_law_draw" s_law_draw ["deck", "many"]
  t_law_one : Hd K mg "_law_one" s_law_one ["deck", "items"]
  t_law_kinds : Hd K mg "_law_kinds" s_law_kinds ["error"]
theorem allK {f : Addr} {fd : FuncData} (m : Nm K mg) (G : Gx57 K mg) (sy : ∃ o, base.get? sysModules = some o) (T : Tops K mg) (F : Fun K "law" "law" slaw f fd) : FnG P w K mg base CX0 60 f fd ["script"] (spLaw K) := by
  have dk : DkCl P w K mg base := by
    obtain ⟨f, fd, F, b, hm⟩ := T.t_law_deck.ex
    exact ⟨⟨f, fd, hm, F.kp, b, .of (ok_law_deck F m.nabs)⟩⟩
  have c_law_draw : ClZ IsF2 P w K mg base 1 "_law_draw" ["deck", "many"] [.dk, .val] kDraw := by
    obtain ⟨f, fd, F, b, hm⟩ := T.t_law_draw.ex
    exact ⟨⟨f, fd, hm, F.kp, b, .of (ok_law_draw F m.nint m.nlen)⟩, kDraw_mono⟩
  have c_law_one := d_law_one (P := P) (w := w) (base := base) m T.t_law_one c_law_draw
  obtain ⟨CBadWeb, CBadOrder, CTooMany, CShort, CLeft, CNoOrder, CBarred, CFull, CUsed, CNothingToUndo, CNothingToRedo, CBadText, CNoStep, CWebError, gm⟩ := G.ex
  have c_law_kinds := d_law_kinds (P := P) (w := w) (base := base) m gm.xBadWeb.mgC gm.xBadOrder.mgC gm.xTooMany.mgC gm.xShort.mgC gm.xLeft.mgC gm.xNoOrder.mgC gm.xBarred.mgC gm.xFull.mgC gm.xUsed.mgC gm.xNothingToUndo.mgC gm.xNothingToRedo.mgC gm.xBadText.mgC gm.xNoStep.mgC T.t_law_kinds
  exact dlaw m F dk gm.xBadWeb.mgC gm.xBadOrder.mgC gm.xTooMany.mgC gm.xShort.mgC gm.xLeft.mgC gm.xNoOrder.mgC gm.xBarred.mgC gm.xFull.mgC gm.xUsed.mgC gm.xNothingToUndo.mgC gm.xNothingToRedo.mgC gm.xBadText.mgC gm.xNoStep.mgC gm.mW gm.xBadWeb.cl gm.xShort.cl gm.xLeft.cl gm.xBarred.cl gm.xUsed.cl gm.xBadText.cl gm.xNoStep.cl gm.xBadWeb.kw gm.xShort.kw gm.xLeft.kw gm.xBarred.kw gm.xUsed.kw gm.xBadText.kw gm.xNoStep.kw gm.xNoStep.pl gm.xBadOrder.q gm.xBadOrder.e gm.xTooMany.q gm.xTooMany.e gm.xNoOrder.q gm.xNoOrder.e gm.xFull.q gm.xFull.e gm.xNothingToUndo.q gm.xNothingToUndo.e gm.xNothingToRedo.q gm.xNothingToRedo.e gm.bValueError gm.bLookupError gm.bIndexError gm.bKeyError gm.gMAX_STEPS gm.gMAX_COPIES gm.gMAX_EDITS gm.E gm.xBadWeb.xf gm.xShort.xf gm.xLeft.xf gm.xBarred.xf gm.xUsed.xf gm.xBadText.xf gm.xNoStep.xf sy c_law_one c_law_kinds c_law_draw
theorem law_mk {h : Heap} {fa f2 : Addr} {od an : Option Addr} {sl : Array (Option Value)} {oc kV dc pm cd ct : Value} (X : K.In h) (G : h.Ns mainGlobals mg) (hfa : mg "law" = some (.ref fa))
    (a : PySem.W.nsIn K mainGlobals "law" = some (some (.ref f2))) (l : K.lookup f2 = some ⟨oc, od, .func (PySem.W.fnOf "law" "law" (defArgs slaw) (defBody slaw) (defScope slaw) .none kV dc pm an cd ct), sl⟩) (c : PySem.W.codeIn K cd "law" = true) (k : PySem.W.keepIn K (.ref f2) = true)
    (m : Nm K mg) (Gx : Gx57 K mg) (T : Tops K mg) : ∃ fd : FuncData, (∀ (s : Shared) (v : Value), BindsTo s fd ⟨[v], []⟩ [("script", v)]) ∧ ∀ base : Heap, K.In base → base.Ns mainGlobals mg → (∃ o, base.get? sysModules = some o) → FnG P w K mg base CX0 60 fa fd ["script"] (spLaw K) := by
  have e := hfa.symm.trans (PySem.W.mg_of X G a)
  cases e
  have F := fun_mk (st := slaw) l c k
  exact ⟨PySem.W.fnOf "law" "law" (defArgs slaw) (defBody slaw) (defScope slaw) .none kV dc pm an cd ct, fun s v => .of_eq rfl, fun base _ _ sy => allK m Gx sy T F⟩
end
end PP
theorem PP.nm_mk {K : PySem.W.Frag} {h : PySem.Heap} {mg : PySem.Str → Option PySem.Value} (X : K.In h) (G : h.Ns PySem.mainGlobals mg)
    (z0 : PySem.W.nsIn K PySem.mainGlobals "len" = some none)
    (z1 : PySem.W.nsIn K PySem.mainGlobals "int" = some none)
    (z2 : PySem.W.nsIn K PySem.mainGlobals "abs" = some none)
    (z3 : PySem.W.nsIn K PySem.mainGlobals "tuple" = some none)
    (z4 : PySem.W.nsIn K PySem.mainGlobals "list" = some none)
    (z5 : PySem.W.nsIn K PySem.mainGlobals "max" = some none)
    (z6 : PySem.W.nsIn K PySem.mainGlobals "min" = some none)
    (z7 : PySem.W.nsIn K PySem.mainGlobals "range" = some none)
    (z8 : PySem.W.nsIn K PySem.mainGlobals "repr" = some none)
    (z9 : PySem.W.nsIn K PySem.mainGlobals "enumerate" = some none)
    (z10 : PySem.W.nsIn K PySem.mainGlobals "sorted" = some none)
    (z11 : PySem.W.nsIn K PySem.mainGlobals "set" = some none)
    (z12 : PySem.W.nsIn K PySem.mainGlobals "zip" = some none)
    (z13 : PySem.W.nsIn K PySem.mainGlobals "dict" = some none)
    (z14 : PySem.W.nsIn K PySem.mainGlobals "all" = some none)
    (z15 : PySem.W.nsIn K PySem.mainGlobals "any" = some none)
    (z16 : PySem.W.nsIn K PySem.mainGlobals "sum" = some none)
    (z17 : PySem.W.nsIn K PySem.mainGlobals "isinstance" = some none)
    (z18 : PySem.W.nsIn K PySem.mainGlobals "bool" = some none)
    (z19 : PySem.W.nsIn K PySem.mainGlobals "str" = some none) : PP.Nm K mg := by
  refine ⟨fun y hy => ?_⟩
  simp only [List.mem_cons, List.not_mem_nil, or_false] at hy
  rcases hy with h | h | h | h | h | h | h | h | h | h | h | h | h | h | h | h | h | h | h | h <;> subst h
  · exact PySem.W.mg_none_of X G z0
  · exact PySem.W.mg_none_of X G z1
  · exact PySem.W.mg_none_of X G z2
  · exact PySem.W.mg_none_of X G z3
  · exact PySem.W.mg_none_of X G z4
  · exact PySem.W.mg_none_of X G z5
  · exact PySem.W.mg_none_of X G z6
  · exact PySem.W.mg_none_of X G z7
  · exact PySem.W.mg_none_of X G z8
  · exact PySem.W.mg_none_of X G z9
  · exact PySem.W.mg_none_of X G z10
  · exact PySem.W.mg_none_of X G z11
  · exact PySem.W.mg_none_of X G z12
  · exact PySem.W.mg_none_of X G z13
  · exact PySem.W.mg_none_of X G z14
  · exact PySem.W.mg_none_of X G z15
  · exact PySem.W.mg_none_of X G z16
  · exact PySem.W.mg_none_of X G z17
  · exact PySem.W.mg_none_of X G z18
  · exact PySem.W.mg_none_of X G z19
open PySem PySem.Spec PyProof.Rows L2 in
theorem PP.gx_mk {K : PySem.W.Frag} {h : PySem.Heap} {mg : PySem.Str → Option PySem.Value} {CBadWeb CBadOrder CTooMany CShort CLeft CNoOrder CBarred CFull CUsed CNothingToUndo CNothingToRedo CBadText CNoStep CWebError : Addr} {tS tC tE : PySem.Tok} (X : K.In h) (G : h.Ns PySem.mainGlobals mg)
    (xBadWeb : PP.BadWebK K mg CBadWeb) (xBadOrder : PP.ZeroK K mg "BadOrder" CBadOrder) (xTooMany : PP.ZeroK K mg "TooMany" CTooMany) (xShort : PP.ShortK K mg CShort) (xLeft : PP.LeftK K mg CLeft) (xNoOrder : PP.ZeroK K mg "NoOrder" CNoOrder) (xBarred : PP.BarredK K mg CBarred) (xFull : PP.ZeroK K mg "Full" CFull) (xUsed : PP.UsedK K mg CUsed) (xNothingToUndo : PP.ZeroK K mg "NothingToUndo" CNothingToUndo) (xNothingToRedo : PP.ZeroK K mg "NothingToRedo" CNothingToRedo) (xBadText : PP.BadTextK K mg CBadText) (xNoStep : PP.NoStepK K mg CNoStep)
    (nW : PySem.W.nsIn K PySem.mainGlobals "WebError" = some (some (.ref CWebError))) (bValueError : PySem.W.nsIn K PySem.mainGlobals "ValueError" = some none) (bLookupError : PySem.W.nsIn K PySem.mainGlobals "LookupError" = some none) (bIndexError : PySem.W.nsIn K PySem.mainGlobals "IndexError" = some none) (bKeyError : PySem.W.nsIn K PySem.mainGlobals "KeyError" = some none) (gMAX_STEPS : PySem.W.nsIn K PySem.mainGlobals "MAX_STEPS" = some (some (.int 10 tS))) (gMAX_COPIES : PySem.W.nsIn K PySem.mainGlobals "MAX_COPIES" = some (some (.int 30 tC))) (gMAX_EDITS : PySem.W.nsIn K PySem.mainGlobals "MAX_EDITS" = some (some (.int 40 tE)))
    (hk : ([CBadWeb, CBadOrder, CTooMany, CShort, CLeft, CNoOrder, CBarred, CFull, CUsed, CNothingToUndo, CNothingToRedo, CBadText, CNoStep].map fun C => [CBadWeb, CBadOrder, CTooMany, CShort, CLeft, CNoOrder, CBarred, CFull, CUsed, CNothingToUndo, CNothingToRedo, CBadText, CNoStep].map fun D => PySem.W.kitOne K (.ref C) (.ref D)) = (List.range 13).map fun k => (List.range 13).map fun j => some (j == k))
    (hw : ([CBadWeb, CBadOrder, CTooMany, CShort, CLeft, CNoOrder, CBarred, CFull, CUsed, CNothingToUndo, CNothingToRedo, CBadText, CNoStep].map fun C => PySem.W.kitOne K (.ref C) (.ref CWebError)) = (List.range 13).map fun k => some (decide (k < 12))) (hv : ([CBadWeb, CBadOrder, CTooMany, CShort, CLeft, CNoOrder, CBarred, CFull, CUsed, CNothingToUndo, CNothingToRedo, CBadText, CNoStep].map fun C => PySem.W.kitOne K (.ref C) (.type "ValueError")) = (List.range 13).map fun k => some (decide (k < 12)))
    (nl : PySem.W.kitOne K (.ref CNoStep) (.type "LookupError") = some true) (ni : PySem.W.kitOne K (.ref CNoStep) (.type "IndexError") = some false) (nk : PySem.W.kitOne K (.ref CNoStep) (.type "KeyError") = some false) : PP.Gx57 K mg :=
  ⟨CBadWeb, CBadOrder, CTooMany, CShort, CLeft, CNoOrder, CBarred, CFull, CUsed, CNothingToUndo, CNothingToRedo, CBadText, CNoStep, CWebError, ⟨xBadWeb, xBadOrder, xTooMany, xShort, xLeft, xNoOrder, xBarred, xFull, xUsed, xNothingToUndo, xNothingToRedo, xBadText, xNoStep, PySem.W.mg_of X G nW, PySem.W.mg_none_of X G bValueError, PySem.W.mg_none_of X G bLookupError, PySem.W.mg_none_of X G bIndexError, PySem.W.mg_none_of X G bKeyError, ⟨_, PySem.W.mg_of X G gMAX_STEPS⟩, ⟨_, PySem.W.mg_of X G gMAX_COPIES⟩, ⟨_, PySem.W.mg_of X G gMAX_EDITS⟩, PP.e57_mk (fun C hC => by
    simp only [List.mem_cons, List.not_mem_nil, or_false] at hC
    rcases hC with h | h | h | h | h | h | h | h | h | h | h | h | h <;> subst h
    · exact xBadWeb.ec
    · exact xBadOrder.ec
    · exact xTooMany.ec
    · exact xShort.ec
    · exact xLeft.ec
    · exact xNoOrder.ec
    · exact xBarred.ec
    · exact xFull.ec
    · exact xUsed.ec
    · exact xNothingToUndo.ec
    · exact xNothingToRedo.ec
    · exact xBadText.ec
    · exact xNoStep.ec) hk hw hv nl ni nk⟩⟩
open PySem PySem.W PyProof.Rows
set_option maxHeartbeats 0 in
theorem PySem.Challenge.cw_pilepass_k57_errors_and_bounds_holds : PySem.Challenge.rw_pilepass_k57_errors_and_bounds.Holds := by
  w_on; o_law; k_head; (case hw => w_witness2)
  k_fill
  refine PP.walkGM (l := PySem.Challenge.rw_pilepass_k57_errors_and_bounds) (n := 63) (k := 60) (x := "script") (sp := fun w => PP.spLaw _) (by decide +kernel) rfl (by decide) rfl ⟨rfl, by decide, by decide⟩ (fun w h Y => PySem.W.kIn_of Y) ?F (fun _ _ a ns hl _ hS => ⟨a, ns, rfl, hS, hl, fun _ => rfl⟩)
  case F =>
    intro w mg fa h KX G hmg
    have h_law_deck : PP.Hd (L2.KOf KX) mg "_law_deck" PP.s_law_deck ["script"] := by
      delta L2.KOf
      refine' PP.hd_mk KX G ?a ?l ?c ?k (fun _ _ _ _ _ _ us hl => match us, hl with | [_], _ => rfl)
      (case a => k_is); (case l => k_is); (case c => k_is); (case k => k_is)
    have h_law_draw : PP.Hd (L2.KOf KX) mg "_law_draw" PP.s_law_draw ["deck", "many"] := by
      delta L2.KOf
      refine' PP.hd_mk KX G ?a ?l ?c ?k (fun _ _ _ _ _ _ us hl => match us, hl with | [_, _], _ => rfl)
      (case a => k_is); (case l => k_is); (case c => k_is); (case k => k_is)
    have h_law_one : PP.Hd (L2.KOf KX) mg "_law_one" PP.s_law_one ["deck", "items"] := by
      delta L2.KOf
      refine' PP.hd_mk KX G ?a ?l ?c ?k (fun _ _ _ _ _ _ us hl => match us, hl with | [_, _], _ => rfl)
      (case a => k_is); (case l => k_is); (case c => k_is); (case k => k_is)
    have h_law_kinds : PP.Hd (L2.KOf KX) mg "_law_kinds" PP.s_law_kinds ["error"] := by
      delta L2.KOf
      refine' PP.hd_mk KX G ?a ?l ?c ?k (fun _ _ _ _ _ _ us hl => match us, hl with | [_], _ => rfl)
      (case a => k_is); (case l => k_is); (case c => k_is); (case k => k_is)
    have nm : PP.Nm (L2.KOf KX) mg := by
      delta L2.KOf
      refine' PP.nm_mk KX G ?z0 ?z1 ?z2 ?z3 ?z4 ?z5 ?z6 ?z7 ?z8 ?z9 ?z10 ?z11 ?z12 ?z13 ?z14 ?z15 ?z16 ?z17 ?z18 ?z19
      (case z0 => k_is); (case z1 => k_is); (case z2 => k_is); (case z3 => k_is); (case z4 => k_is); (case z5 => k_is); (case z6 => k_is); (case z7 => k_is); (case z8 => k_is); (case z9 => k_is); (case z10 => k_is); (case z11 => k_is); (case z12 => k_is); (case z13 => k_is); (case z14 => k_is); (case z15 => k_is); (case z16 => k_is); (case z17 => k_is); (case z18 => k_is); (case z19 => k_is)
    have gm : PP.Gx57 (L2.KOf KX) mg := by
      delta L2.KOf
      refine' PP.gx_mk KX G (PP.BadWeb_mk KX G ?aCBadWeb ?lkBadWeb ?rvBadWeb ?saBadWeb ?exCBadWeb ?tyCBadWeb ?kCBadWeb ?nfBadWeb ?a0BadWeb ?t0BadWeb ?l0BadWeb ?c0BadWeb ?kf0BadWeb ?gaBadWeb ?ggBadWeb ?hdBadWeb ?haBadWeb ?hnBadWeb ?htBadWeb ?hmBadWeb) (PP.zero_mk KX G ?aCBadOrder ?exCBadOrder ?tyCBadOrder ?kCBadOrder ?gaBadOrder ?ggBadOrder ?hdBadOrder ?haBadOrder ?hnBadOrder ?htBadOrder ?hmBadOrder ?qBadOrder) (PP.zero_mk KX G ?aCTooMany ?exCTooMany ?tyCTooMany ?kCTooMany ?gaTooMany ?ggTooMany ?hdTooMany ?haTooMany ?hnTooMany ?htTooMany ?hmTooMany ?qTooMany) (PP.Short_mk KX G ?aCShort ?lkShort ?rvShort ?saShort ?exCShort ?tyCShort ?kCShort ?nfShort ?a0Short ?t0Short ?l0Short ?c0Short ?kf0Short ?gaShort ?ggShort ?hdShort ?haShort ?hnShort ?htShort ?hmShort) (PP.Left_mk KX G ?aCLeft ?lkLeft ?rvLeft ?saLeft ?exCLeft ?tyCLeft ?kCLeft ?nfLeft ?a0Left ?t0Left ?l0Left ?c0Left ?kf0Left ?gaLeft ?ggLeft ?hdLeft ?haLeft ?hnLeft ?htLeft ?hmLeft) (PP.zero_mk KX G ?aCNoOrder ?exCNoOrder ?tyCNoOrder ?kCNoOrder ?gaNoOrder ?ggNoOrder ?hdNoOrder ?haNoOrder ?hnNoOrder ?htNoOrder ?hmNoOrder ?qNoOrder) (PP.Barred_mk KX G ?aCBarred ?lkBarred ?rvBarred ?saBarred ?exCBarred ?tyCBarred ?kCBarred ?nfBarred ?a0Barred ?t0Barred ?l0Barred ?c0Barred ?kf0Barred ?gaBarred ?ggBarred ?hdBarred ?haBarred ?hnBarred ?htBarred ?hmBarred) (PP.zero_mk KX G ?aCFull ?exCFull ?tyCFull ?kCFull ?gaFull ?ggFull ?hdFull ?haFull ?hnFull ?htFull ?hmFull ?qFull) (PP.Used_mk KX G ?aCUsed ?lkUsed ?rvUsed ?saUsed ?exCUsed ?tyCUsed ?kCUsed ?nfUsed ?a0Used ?t0Used ?l0Used ?c0Used ?kf0Used ?gaUsed ?ggUsed ?hdUsed ?haUsed ?hnUsed ?htUsed ?hmUsed) (PP.zero_mk KX G ?aCNothingToUndo ?exCNothingToUndo ?tyCNothingToUndo ?kCNothingToUndo ?gaNothingToUndo ?ggNothingToUndo ?hdNothingToUndo ?haNothingToUndo ?hnNothingToUndo ?htNothingToUndo ?hmNothingToUndo ?qNothingToUndo) (PP.zero_mk KX G ?aCNothingToRedo ?exCNothingToRedo ?tyCNothingToRedo ?kCNothingToRedo ?gaNothingToRedo ?ggNothingToRedo ?hdNothingToRedo ?haNothingToRedo ?hnNothingToRedo ?htNothingToRedo ?hmNothingToRedo ?qNothingToRedo) (PP.BadText_mk KX G ?aCBadText ?lkBadText ?rvBadText ?saBadText ?exCBadText ?tyCBadText ?kCBadText ?nfBadText ?a0BadText ?t0BadText ?l0BadText ?c0BadText ?kf0BadText ?gaBadText ?ggBadText ?hdBadText ?haBadText ?hnBadText ?htBadText ?hmBadText) (PP.NoStep_mk KX G ?aCNoStep ?lkNoStep ?rvNoStep ?saNoStep ?exCNoStep ?tyCNoStep ?kCNoStep ?nfNoStep ?a0NoStep ?t0NoStep ?l0NoStep ?c0NoStep ?kf0NoStep ?gaNoStep ?ggNoStep ?hdNoStep ?haNoStep ?hnNoStep ?htNoStep ?hmNoStep) ?nW ?bValueError ?bLookupError ?bIndexError ?bKeyError ?gMAX_STEPS ?gMAX_COPIES ?gMAX_EDITS ?hk ?hw ?hv ?nl ?ni ?nk
      (case aCBadWeb => k_is); (case lkBadWeb => k_is); (case rvBadWeb => kernel_rfl); (case saBadWeb => k_is); (case exCBadWeb => k_is); (case tyCBadWeb => k_is); (case kCBadWeb => k_is); (case nfBadWeb => k_is); (case a0BadWeb => k_is); (case t0BadWeb => k_is); (case l0BadWeb => k_is); (case c0BadWeb => k_is); (case kf0BadWeb => k_is); (case gaBadWeb => k_is); (case ggBadWeb => k_is); (case hdBadWeb => k_is); (case haBadWeb => k_is); (case hnBadWeb => k_is); (case htBadWeb => k_is); (case hmBadWeb => k_is)
      (case aCBadOrder => k_is); (case exCBadOrder => k_is); (case tyCBadOrder => k_is); (case kCBadOrder => k_is); (case gaBadOrder => k_is); (case ggBadOrder => k_is); (case hdBadOrder => k_is); (case haBadOrder => k_is); (case hnBadOrder => k_is); (case htBadOrder => k_is); (case hmBadOrder => k_is); (case qBadOrder => kernel_rfl)
      (case aCTooMany => k_is); (case exCTooMany => k_is); (case tyCTooMany => k_is); (case kCTooMany => k_is); (case gaTooMany => k_is); (case ggTooMany => k_is); (case hdTooMany => k_is); (case haTooMany => k_is); (case hnTooMany => k_is); (case htTooMany => k_is); (case hmTooMany => k_is); (case qTooMany => kernel_rfl)
      (case aCShort => k_is); (case lkShort => k_is); (case rvShort => kernel_rfl); (case saShort => k_is); (case exCShort => k_is); (case tyCShort => k_is); (case kCShort => k_is); (case nfShort => k_is); (case a0Short => k_is); (case t0Short => k_is); (case l0Short => k_is); (case c0Short => k_is); (case kf0Short => k_is); (case gaShort => k_is); (case ggShort => k_is); (case hdShort => k_is); (case haShort => k_is); (case hnShort => k_is); (case htShort => k_is); (case hmShort => k_is)
      (case aCLeft => k_is); (case lkLeft => k_is); (case rvLeft => kernel_rfl); (case saLeft => k_is); (case exCLeft => k_is); (case tyCLeft => k_is); (case kCLeft => k_is); (case nfLeft => k_is); (case a0Left => k_is); (case t0Left => k_is); (case l0Left => k_is); (case c0Left => k_is); (case kf0Left => k_is); (case gaLeft => k_is); (case ggLeft => k_is); (case hdLeft => k_is); (case haLeft => k_is); (case hnLeft => k_is); (case htLeft => k_is); (case hmLeft => k_is)
      (case aCNoOrder => k_is); (case exCNoOrder => k_is); (case tyCNoOrder => k_is); (case kCNoOrder => k_is); (case gaNoOrder => k_is); (case ggNoOrder => k_is); (case hdNoOrder => k_is); (case haNoOrder => k_is); (case hnNoOrder => k_is); (case htNoOrder => k_is); (case hmNoOrder => k_is); (case qNoOrder => kernel_rfl)
      (case aCBarred => k_is); (case lkBarred => k_is); (case rvBarred => kernel_rfl); (case saBarred => k_is); (case exCBarred => k_is); (case tyCBarred => k_is); (case kCBarred => k_is); (case nfBarred => k_is); (case a0Barred => k_is); (case t0Barred => k_is); (case l0Barred => k_is); (case c0Barred => k_is); (case kf0Barred => k_is); (case gaBarred => k_is); (case ggBarred => k_is); (case hdBarred => k_is); (case haBarred => k_is); (case hnBarred => k_is); (case htBarred => k_is); (case hmBarred => k_is)
      (case aCFull => k_is); (case exCFull => k_is); (case tyCFull => k_is); (case kCFull => k_is); (case gaFull => k_is); (case ggFull => k_is); (case hdFull => k_is); (case haFull => k_is); (case hnFull => k_is); (case htFull => k_is); (case hmFull => k_is); (case qFull => kernel_rfl)
      (case aCUsed => k_is); (case lkUsed => k_is); (case rvUsed => kernel_rfl); (case saUsed => k_is); (case exCUsed => k_is); (case tyCUsed => k_is); (case kCUsed => k_is); (case nfUsed => k_is); (case a0Used => k_is); (case t0Used => k_is); (case l0Used => k_is); (case c0Used => k_is); (case kf0Used => k_is); (case gaUsed => k_is); (case ggUsed => k_is); (case hdUsed => k_is); (case haUsed => k_is); (case hnUsed => k_is); (case htUsed => k_is); (case hmUsed => k_is)
      (case aCNothingToUndo => k_is); (case exCNothingToUndo => k_is); (case tyCNothingToUndo => k_is); (case kCNothingToUndo => k_is); (case gaNothingToUndo => k_is); (case ggNothingToUndo => k_is); (case hdNothingToUndo => k_is); (case haNothingToUndo => k_is); (case hnNothingToUndo => k_is); (case htNothingToUndo => k_is); (case hmNothingToUndo => k_is); (case qNothingToUndo => kernel_rfl)
      (case aCNothingToRedo => k_is); (case exCNothingToRedo => k_is); (case tyCNothingToRedo => k_is); (case kCNothingToRedo => k_is); (case gaNothingToRedo => k_is); (case ggNothingToRedo => k_is); (case hdNothingToRedo => k_is); (case haNothingToRedo => k_is); (case hnNothingToRedo => k_is); (case htNothingToRedo => k_is); (case hmNothingToRedo => k_is); (case qNothingToRedo => kernel_rfl)
      (case aCBadText => k_is); (case lkBadText => k_is); (case rvBadText => kernel_rfl); (case saBadText => k_is); (case exCBadText => k_is); (case tyCBadText => k_is); (case kCBadText => k_is); (case nfBadText => k_is); (case a0BadText => k_is); (case t0BadText => k_is); (case l0BadText => k_is); (case c0BadText => k_is); (case kf0BadText => k_is); (case gaBadText => k_is); (case ggBadText => k_is); (case hdBadText => k_is); (case haBadText => k_is); (case hnBadText => k_is); (case htBadText => k_is); (case hmBadText => k_is)
      (case aCNoStep => k_is); (case lkNoStep => k_is); (case rvNoStep => rfl); (case saNoStep => k_is); (case exCNoStep => k_is); (case tyCNoStep => k_is); (case kCNoStep => k_is); (case nfNoStep => k_is); (case a0NoStep => k_is); (case t0NoStep => k_is); (case l0NoStep => k_is); (case c0NoStep => k_is); (case kf0NoStep => k_is); (case gaNoStep => k_is); (case ggNoStep => k_is); (case hdNoStep => k_is); (case haNoStep => k_is); (case hnNoStep => k_is); (case htNoStep => k_is); (case hmNoStep => k_is)
      (case nW => k_is); (case bValueError => k_is); (case bLookupError => k_is); (case bIndexError => k_is); (case bKeyError => k_is); (case gMAX_STEPS => k_is); (case gMAX_COPIES => k_is); (case gMAX_EDITS => k_is)
      (case hk => kernel_rfl); (case hw => kernel_rfl); (case hv => kernel_rfl); (case nl => kernel_rfl); (case ni => kernel_rfl); (case nk => kernel_rfl)
    refine' PP.law_mk KX G hmg ?a ?l ?c ?k nm gm ⟨h_law_deck, h_law_draw, h_law_one, h_law_kinds⟩
    (case a => k_is); (case l => k_is); (case c => k_is); (case k => k_is)
