import PyProof.Rows.All
import Wide.All
import OpenK.AllK
import Wide.FinOn
import HandS.AnyAll
import HandS.ForMost
import HandS.IsInst
import HandS.Conv
import HandS.Exc
import HandS.TryOnly
import HandS.WordsExc
import HandS.ExcInit
import HandS.Wide
import HandS.TupAny
import HandS.TupMul
import HandS.Rev
import HandS.Style
import HandS.EndTab
import HandS.Lambda
import HandS.Nested
import HandS.ForExc
import HandS.ExcOwn
import KE.KDictKeyed
import KE.KeyNested
import PyProof.IsiBase
import PyProof.FactsAll.object
import KE.KIsAll
import HandS.Iter
import HandS.Walk
import KE.GoesEnum
import HandS.Zip
import HandS.NoneIn
import HandS.Deep
import PyProof.ListNew
import HandS.RevTup
import KE.KDictZip
import HandS.Strs
import PyProof.Rows.ReprR
import PyProof.ReprLen
import HandS.ExcField
import HandS.ExcIs
import HandS.TryMany
import KE.KExcIs
import PyProof.P3Eq
import PyProof.AutoSeq1
import PyProof.ListOps
import HandS.WideBits
import HandS.Text
import HandS.Call
import HandS.Replace
import HandS.ReplaceList
import HandS.Codes
import HandS.SetFor
import PySem.Challenge.RW_stillopen_k42_words_machines_that_are_no
set_option Elab.async false
set_option linter.all false
set_option maxRecDepth 100000
set_option maxHeartbeats 4000000
namespace SoGx
open PySem PySem.Spec PyProof.Rows L2 GxR
section
variable {X : Cx} {pins : List (Addr × Obj)} {σ : L2.St} {H : Hp} {s : Shared}
end
end SoGx
set_option Elab.async false
set_option linter.all false
set_option maxRecDepth 100000
set_option maxHeartbeats 4000000
namespace So
open PySem PySem.Spec PyProof.Rows L2
abbrev TabG := @GxR.TabG
/-- all but the table at P stands as before; the table stands still a table -/
def Sm (P : Addr) (H H' : Hp) : Prop := (∀ b o, b ≠ P → H b = some o → H' b = some o) ∧ GxR.TabG H' P
theorem tab_tup {H : Hp} {P b : Addr} {u : HO} (t : GxR.TabG H P) (h : H b = some u) (n : ∀ ps, u ≠ .tbl ps) : b ≠ P := fun z => by
  obtain ⟨ps, e, _⟩ := t
  rw [z, e] at h
  exact n ps (Option.some.inj h).symm
theorem Sm.refl {P : Addr} {H : Hp} (t : GxR.TabG H P) : Sm P H H := ⟨fun _ _ _ h => h, t⟩
theorem Sm.trans {P : Addr} {H H1 H2 : Hp} (a : Sm P H H1) (b : Sm P H1 H2) : Sm P H H2 := ⟨fun c o n h => b.1 c o n (a.1 c o n h), b.2⟩
theorem Sm.new {P p : Addr} {H : Hp} {o : HO} (t : GxR.TabG H P) (h : H p = none) : Sm P H (upd H p o) := by
  obtain ⟨ps, e, r⟩ := t
  refine ⟨fun b u _ e => ?_, ⟨ps, ?_, r⟩⟩
  · rw [upd_ne (ne_of_none e h)]
    exact e
  · rw [upd_ne (ne_of_none e h)]
    exact e
/-- what H does not know may change -/
theorem Sm.mut {P p : Addr} {H H' : Hp} {o : HO} (a : Sm P H H') (h : H p = none) (n : p ≠ P) : Sm P H (upd H' p o) := by
  obtain ⟨k, ps, e, r⟩ := a
  refine ⟨fun b u nb e => ?_, ⟨ps, ?_, r⟩⟩
  · rw [upd_ne (ne_of_none e h)]
    exact k b u nb e
  · rw [upd_ne (Ne.symm n)]
    exact e
section
variable {K : PySem.W.Frag} {P a : Addr} {H H' : Hp} {xs : List V}
theorem Sm.tup (t : GxR.TabG H P) (s : Sm P H H') (h : SqT K H a xs) : SqT K H' a xs := by
  rcases h with (h | ⟨o, h⟩) | h
  · exact .inl (.inl (s.1 _ _ (tab_tup t h (fun _ q => nomatch q)) h))
  · exact .inl (.inr ⟨o, s.1 _ _ (tab_tup t h (fun _ q => nomatch q)) h⟩)
  · exact .inr h
theorem Sm.lst (t : GxR.TabG H P) (s : Sm P H H') (h : SqL K H a xs) : SqL K H' a xs := by
  rcases h with (h | ⟨o, h⟩) | h
  · exact .inl (.inl (s.1 _ _ (tab_tup t h (fun _ q => nomatch q)) h))
  · exact .inl (.inr ⟨o, s.1 _ _ (tab_tup t h (fun _ q => nomatch q)) h⟩)
  · exact .inr h
theorem Sm.free (s : Sm P H H') (t : GxR.TabG H P) (h : H' a = none) : H a = none := by
  cases q : H a with
  | none => rfl
  | some o =>
    by_cases e : a = P
    · obtain ⟨ps, z, _⟩ := s.2
      rw [e, z] at h
      cases h
    · rw [s.1 _ _ e q] at h
      cases h
end
/-- a def of the text as its callers need it -/
structure Df (K : PySem.W.Frag) (mg : Str → Option Value) (x : Str) (st : Stmt) (ps : List Str) (f : Addr) (fd : FuncData) : Prop where
  F : Fun K x x st f fd
  g : mg x = some (.ref f)
  b : Binds K fd ps []
/-- .. with its code object -/
structure DfC (K : PySem.W.Frag) (mg : Str → Option Value) (x : Str) (st : Stmt) (ps : List Str) (f : Addr) (fd : FuncData) (c : Addr) : Prop where
  ex : ∃ (oc : Value) (od : Option Addr) (kV doc pm : Value) (an : Option Addr) (ct : Value) (osl : Array (Option Value)),
    fd = PySem.W.fnOf x x (defArgs st) (defBody st) (defScope st) .none kV doc pm an (.ref c) ct ∧ K.lookup f = some ⟨oc, od, .func fd, osl⟩ ∧ PySem.W.codeIn K (.ref c) x = true
  kp : PySem.W.keepIn K (.ref f) = true
  g : mg x = some (.ref f)
  b : Binds K fd ps []
theorem DfC.ok {Pg : Program} {w : World} {K : PySem.W.Frag} {mg : Str → Option Value} {base : Heap} {x : Str} {st : Stmt} {f c : Addr} {fd : FuncData} {N ps : List Str} {k : Nat} {sp : Sp} {CX : CXT}
    (F : DfC K mg x st ps f fd c) (S : FnScope N ps (defScope st)) (len : ∀ vs H Q E, sp vs H Q E → vs.length = ps.length)
    (body : ∀ (A : Around) (outer : List Env) (s : Shared) (H : Hp) (vs : List V) (Q : VK) (E : XK), Room k (A.deeper (envOfC x (defScope st) s.heap.objs.size f (.ref c))) → sp vs H Q E →
      ∃ t, PSs (cxOf CX Pg w K mg base N x (defScope st) f (.ref c) A outer s H E) (defBody st) t ∧ t { nx := fun _ H' => Q .non H', rt := Q } (start N vs) H) :
    FnOk Pg w K mg base CX (k + 1) f fd ps sp := by
  obtain ⟨oc, od, kV, doc, pm, an, ct, osl, rfl, lk, hcd⟩ := F.ex
  exact fn_of lk hcd S len body
end So
set_option Elab.async false
set_option linter.all false
set_option maxRecDepth 100000
set_option maxHeartbeats 4000000
namespace Dl
open PySem PySem.Spec PyProof.Rows L2 So
/-- a place of the text that makes functions: a lambda, a def within a def -/
structure SiteC where
  name : Str
  qual : Str
  params : Arguments
  scope : Scope
  fr : List Str
  body : Sum Expr (List Stmt)
/-- the tables: is_label's, those of defs that make functions; what an error's attribute is called -/
structure Tb where
  P : Addr
  L : List NdefX.NTab
  st : Nat → Option SiteC := fun _ => none
  an : Addr → Str := fun _ => "at"
def Tg (H : Hp) (T : Tb) : Prop := GxR.TabG H T.P ∧ NdefX.TabsN T.L H
/-- is_label's table is none of the others -/
def Apt (T : Tb) : Prop := ∀ p ∈ T.L, p.1 ≠ T.P
/-- all but the tables stays -/
def Ex (T : Tb) (H H' : Hp) : Prop := LamX.ExtN H H' ∧ Tg H' T
section
variable {T : Tb} {H H1 H' : Hp} {p a b : Addr} {o : HO} {xs : List V}
theorem Ex.refl (t : Tg H T) : Ex T H H := ⟨LamX.ExtN.refl H, t⟩
theorem Ex.trans (a : Ex T H H1) (b : Ex T H1 H') : Ex T H H' := ⟨a.1.trans b.1, b.2⟩
theorem Tg.ext (t : Tg H T) (e : ∀ b o, H b = some o → H' b = some o) : Tg H' T := ⟨by
  obtain ⟨⟨ps, h1, h2⟩, _⟩ := t
  exact ⟨ps, e _ _ h1, h2⟩, t.2.ext e⟩
theorem Ex.of (t : Tg H T) (e : ∀ b o, H b = some o → H' b = some o) : Ex T H H' := ⟨LamX.ExtN.of e, t.ext e⟩
theorem Ex.new (t : Tg H T) (h : H p = none) : Ex T H (upd H p o) := Ex.of t fun b u e => by rw [upd_ne (ne_of_none e h)]; exact e
theorem Ex.at (s : Ex T H H') (h : H b = some o) (n : ∀ ps, o ≠ .tbl ps) : H' b = some o := s.1 b o h n
/-- no table, no code object: may be taken away, may change -/
def Free (o : HO) : Prop := (∀ ps, o ≠ .tbl ps) ∧ ∀ c q, o ≠ LamX.CodeO c q
theorem Tg.but (t : Tg H T) (n : ∀ o, H p = some o → Free o) (e : ∀ b, b ≠ p → ∀ o, H b = some o → H' b = some o) : Tg H' T := by
  obtain ⟨⟨ps, h1, h2⟩, t2⟩ := t
  refine ⟨⟨ps, e _ (fun z => (n _ (z ▸ h1)).1 ps rfl) _ h1, h2⟩, fun q hq => ?_⟩
  obtain ⟨qs, a, b, c⟩ := t2 q hq
  refine ⟨qs, e _ (fun z => (n _ (z ▸ a)).1 qs rfl) _ a, b, fun pos cv hc => ?_⟩
  obtain ⟨d, e1, e2⟩ := c pos cv hc
  exact ⟨d, e1, e _ (fun z => (n _ (z ▸ e2)).2 _ _ rfl) _ e2⟩
/-- what H does not know may change -/
theorem Ex.mut (s : Ex T H H') (h : H p = none) (n : ∀ o, H' p = some o → Free o) : Ex T H (upd H' p o) := by
  refine ⟨fun b u e nt => ?_, s.2.but n fun b nb o e => by rw [upd_ne nb]; exact e⟩
  rw [upd_ne (ne_of_none e h)]
  exact s.1 b u e nt
variable {K : PySem.W.Frag}
theorem sqt_ext (x : LamX.ExtN H H') {a : Addr} {xs : List V} (h : SqT K H a xs) : SqT K H' a xs := h.imp (fun q => q.imp (fun q => x _ _ q fun _ z => nomatch z) fun ⟨o, q⟩ => ⟨o, x _ _ q fun _ z => nomatch z⟩) _root_.id
theorem sql_ext (x : LamX.ExtN H H') {a : Addr} {xs : List V} (h : SqL K H a xs) : SqL K H' a xs := h.imp (fun q => q.imp (fun q => x _ _ q fun _ z => nomatch z) fun ⟨o, q⟩ => ⟨o, x _ _ q fun _ z => nomatch z⟩) _root_.id
theorem Ex.tup (s : Ex T H H') (h : SqT K H a xs) : SqT K H' a xs := sqt_ext s.1 h
theorem Ex.lst (s : Ex T H H') (h : SqL K H a xs) : SqL K H' a xs := sql_ext s.1 h
end
/-- its object tells all of it -/
structure Lcl (o : HO) : Prop where
  keep : ∀ {Pg : Program} {w : World} {H H' : Hp} {h h' : Heap} {a : Addr}, ObjOk Pg w H h a o → (∀ ob, h.get? a = some ob → h'.get? a = some ob) → ObjOk Pg w H' h' a o
  obj : ∀ {Pg : Program} {w : World} {H : Hp} {h : Heap} {a : Addr}, ObjOk Pg w H h a o → ∃ ob, h.get? a = some ob
  nt : ∀ xs, o ≠ .tup xs
  no : ∀ x, o ≠ .own x
theorem lcl_lst {xs : List V} : Lcl (.lst xs) := ⟨fun ⟨z, its, n, r, e⟩ k => ⟨z, its, n, r, k _ e⟩, fun ⟨_, _, _, _, e⟩ => ⟨_, e⟩, (fun _ z => nomatch z), (fun _ z => nomatch z)⟩
theorem lcl_ext {φ : Heap → Prop} : Lcl (.ext φ) := ⟨fun ⟨p, ⟨o, e⟩, st⟩ k => ⟨st _ _ p k, ⟨o, k _ e⟩, st⟩, fun ⟨_, e, _⟩ => e, (fun _ z => nomatch z), (fun _ z => nomatch z)⟩
theorem lcl_frz {ob : Obj} {u : HO} (l : Lcl u) : Lcl (.frz ob u) := ⟨fun ⟨e, q⟩ k => ⟨k _ e, l.keep q k⟩, fun ⟨e, _⟩ => ⟨_, e⟩, (fun _ z => nomatch z), (fun _ z => nomatch z)⟩
/-- a cell that is known and stays as it is -/
def CellU : HO := .ext fun _ => True
abbrev CellF (ob : Obj) : HO := .frz ob CellU
theorem cellF_ok {Pg : Program} {w : World} {H : Hp} {h : Heap} {a : Addr} {ob : Obj} (e : h.get? a = some ob) : ObjOk Pg w H h a (CellF ob) := ⟨e, trivial, ⟨ob, e⟩, fun _ _ _ _ => trivial⟩
/-- ls hidden, the cells co shown -/
def mask (ls : List Addr) (co : Addr → Option Obj) (H : Hp) : Hp := fun b => if b ∈ ls then none else match co b with
  | some ob => some (CellF ob)
  | none => H b
def unmask (ls : List Addr) (co : Addr → Option Obj) (H H' : Hp) : Hp := fun b => if b ∈ ls then H b else match co b with
  | some _ => none
  | none => H' b
def noCo : Addr → Option Obj := fun _ => none
section
variable {ls : List Addr} {co : Addr → Option Obj} {H H' : Hp} {b : Addr}
theorem mask_in (h : b ∈ ls) : mask ls co H b = none := if_pos h
theorem mask_co {ob : Obj} (h : b ∉ ls) (e : co b = some ob) : mask ls co H b = some (CellF ob) := by unfold mask; rw [if_neg h, e]
theorem mask_out (h : b ∉ ls) (e : co b = none) : mask ls co H b = H b := by unfold mask; rw [if_neg h, e]
theorem unmask_in (h : b ∈ ls) : unmask ls co H H' b = H b := if_pos h
theorem unmask_co {ob : Obj} (h : b ∉ ls) (e : co b = some ob) : unmask ls co H H' b = none := by unfold unmask; rw [if_neg h, e]
theorem unmask_out (h : b ∉ ls) (e : co b = none) : unmask ls co H H' b = H' b := by unfold unmask; rw [if_neg h, e]
/-- what may be hidden, what may be shown -/
structure Msk (fs : List Addr) (ls : List Addr) (co : Addr → Option Obj) (H : Hp) (h : Heap) : Prop where
  hid : ∀ b ∈ ls, ∃ o, H b = some o ∧ Lcl o
  sho : ∀ b ob, co b = some ob → H b = none ∧ h.get? b = some ob ∧ b ∉ fs
variable {Pg : Program} {w : World} {fs : List Addr} {h h' : Heap}
theorem Msk.nl (M : Msk fs ls co H h) (n : H b = none) : b ∉ ls := fun m => by
  obtain ⟨o, e, _⟩ := M.hid b m
  rw [n] at e
  cases e
theorem Msk.nc {o : HO} (M : Msk fs ls co H h) (e : H b = some o) : co b = none := by
  cases q : co b with
  | none => rfl
  | some ob => rw [(M.sho b ob q).1] at e; cases e
theorem Msk.has {o : HO} (M : Msk fs ls co H h) (e : H b = some o) (n : ¬ Lcl o) : mask ls co H b = some o := by
  rw [mask_out (fun m => ?_) (M.nc e)]
  · exact e
  · obtain ⟨u, q, l⟩ := M.hid b m
    rw [e] at q
    cases q
    exact n l
theorem not_lcl_tup {xs : List V} : ¬ Lcl (.tup xs) := fun l => l.nt xs rfl
theorem not_lcl_own {x : Addr} : ¬ Lcl (.own x) := fun l => l.no x rfl
theorem mask_ok (M : Msk fs ls co H h) (ok : HOk Pg w H h) : HOk Pg w (mask ls co H) h := by
  intro a o e
  by_cases m : a ∈ ls
  · rw [mask_in m] at e
    cases e
  · cases q : co a with
    | some ob =>
      rw [mask_co m q] at e
      cases e
      exact cellF_ok (M.sho a ob q).2.1
    | none =>
      rw [mask_out m q] at e
      exact (ok a o e).stay (fun _ _ _ q => q) (fun c q => M.has q not_lcl_own) fun c xs q => M.has q not_lcl_tup
/-- what the called def's end has of it -/
structure Bck (ls : List Addr) (co : Addr → Option Obj) (H' : Hp) : Prop where
  gone : ∀ b ∈ ls, H' b = none
  kept : ∀ b ob, co b = some ob → H' b = some (CellF ob)
theorem unmask_ok (M : Msk fs ls co H h) (ok : HOk Pg w H h) (B : Bck ls co H') (ok' : HOk Pg w H' h') (kp : ∀ c ∈ ls, ∀ o, h.get? c = some o → h'.get? c = some o) : HOk Pg w (unmask ls co H H') h' := by
  have key : ∀ c u, H' c = some u → (∀ ob, u ≠ CellF ob) → unmask ls co H H' c = some u := fun c u q n => by
    have m : c ∉ ls := fun k => by
      rw [B.gone c k] at q
      cases q
    have e : co c = none := by
      cases e : co c with
      | none => rfl
      | some ob =>
        rw [B.kept c ob e] at q
        cases q
        exact absurd rfl (n ob)
    rw [unmask_out m e]
    exact q
  intro a o e
  by_cases m : a ∈ ls
  · rw [unmask_in m] at e
    obtain ⟨u, q, l⟩ := M.hid a m
    rw [q] at e
    cases e
    exact l.keep (ok a _ q) (kp a m)
  · cases q : co a with
    | some ob => rw [unmask_co m q] at e; cases e
    | none =>
      rw [unmask_out m q] at e
      exact (ok' a o e).stay (fun _ _ _ q => q) (fun c q => key c _ q fun _ z => nomatch z) fun c xs q => key c _ q fun _ z => nomatch z
theorem Msk.obj (M : Msk fs ls co H h) (ok : HOk Pg w H h) {c : Addr} (m : c ∈ ls) : ∃ o, h.get? c = some o := by
  obtain ⟨o, e, l⟩ := M.hid c m
  exact l.obj (ok c o e)
end
end Dl
set_option Elab.async false
set_option linter.all false
set_option maxRecDepth 100000
set_option maxHeartbeats 4000000
namespace Dl
open PySem PySem.Spec PyProof.Rows L2 So
section
variable {ls : List Addr} {co : Addr → Option Obj} {H H' : Hp} {b : Addr} {Pg : Program} {w : World} {fs : List Addr} {h h' : Heap}
theorem bck_of (M : Msk fs ls co H h) (ok : HOk Pg w H h) (u : Un fs [] (mask ls co H) H' h h') : Bck ls co H' := by
  refine ⟨fun b m => ?_, fun b ob e => ?_⟩
  · obtain ⟨o, q⟩ := M.obj ok m
    exact u.free b o q (mask_in m) (fun z => nomatch z)
  · exact u.frzs b ob _ (mask_co (M.nl (M.sho b ob e).1) e)
theorem unmask_un (M : Msk fs ls co H h) (ok : HOk Pg w H h) (u : Un fs [] (mask ls co H) H' h h') (ok' : HOk Pg w H' h') : Un fs [] H (unmask ls co H H') h h' := by
  have B := bck_of M ok u
  have out : ∀ {b o}, H b = some o → b ∉ ls → mask ls co H b = some o := fun {b o} e m => by rw [mask_out m (M.nc e)]; exact e
  have nn : ∀ {b}, H b = none → co b = none → mask ls co H b = none := fun {b} n e => by rw [mask_out (M.nl n) e]; exact n
  refine ⟨fun b o g n f x => ?_, fun b o g n f x => ?_, fun b o g n x => ?_, u.there, fun b xs e => ?_, fun b o v e => ?_, fun b ps e => ?_⟩
  · cases q : co b with
    | some ob =>
      have e1 := (M.sho b ob q).2.1
      rw [g] at e1
      cases e1
      exact (ok' b _ (B.kept b o q)).1
    | none => exact u.keep b o g (nn n q) f x
  · cases q : co b with
    | some ob => exact absurd f (M.sho b ob q).2.2
    | none => exact u.slot b o g (nn n q) f x
  · cases q : co b with
    | some ob => exact unmask_co (M.nl n) q
    | none =>
      rw [unmask_out (M.nl n) q]
      exact u.free b o g (nn n q) x
  · have m : b ∉ ls := fun m => by
      obtain ⟨o, q, l⟩ := M.hid b m
      rw [e] at q
      cases q
      exact l.nt _ rfl
    rw [unmask_out m (M.nc e)]
    exact u.tups b xs (out e m)
  · by_cases m : b ∈ ls
    · rw [unmask_in m]
      exact e
    · rw [unmask_out m (M.nc e)]
      exact u.frzs b o v (out e m)
  · by_cases m : b ∈ ls
    · rw [unmask_in m]
      exact ⟨#[], by rw [e]; simp⟩
    · rw [unmask_out m (M.nc e)]
      exact u.tbls b ps (out e m)
theorem cx_unmask {outer : List Env} {s s' : Shared} {E E' : XK} {u : Value} (M : Msk (frs outer) ls co H s.heap) (ok : HOk Pg w H s.heap) (nf : ∀ b ∈ frs outer, H b = none) (h : L2.CX Pg w outer (mask ls co H) s E' u s')
    (hE : ∀ cls d H2, E' cls d H2 → Bck ls co H2 → E cls d (unmask ls co H H2)) : L2.CX Pg w outer H s E u s' := by
  obtain ⟨a, B, H2, cls, d, rfl, fl, hok, ub, na, os, ag, q⟩ := h
  have nfr : ∀ c ∈ ls, c ∉ frs outer := fun c m f => by
    obtain ⟨o, e, _⟩ := M.hid c m
    rw [nf c f] at e
    cases e
  have bk : Bck ls co H2 := ⟨fun c m => by
    obtain ⟨o, g⟩ := M.obj ok m
    exact ub.free c o g (mask_in m), fun c ob e => ub.frzs c ob _ (mask_co (M.nl (M.sho c ob e).1) e)⟩
  have kp : ∀ c ∈ ls, ∀ o, s.heap.get? c = some o → B.get? c = some o := fun c m o g => ub.keep c o g (mask_in m) (nfr c m)
  have out : ∀ {b o}, H b = some o → b ∉ ls → mask ls co H b = some o := fun {b o} e m => by rw [mask_out m (M.nc e)]; exact e
  have nn : ∀ {b}, H b = none → co b = none → mask ls co H b = none := fun {b} n e => by rw [mask_out (M.nl n) e]; exact n
  refine ⟨a, B, unmask ls co H H2, cls, d, rfl, fl, unmask_ok M ok bk hok kp, ?_, ?_, os, ag, hE cls d H2 q bk⟩
  · refine ⟨fun b o g n f => ?_, ub.slot, fun b o g n => ?_, ub.there, fun b xs e => ?_, fun b o v e => ?_, fun b ps e => ?_⟩
    · cases q : co b with
      | some ob =>
        have e1 := (M.sho b ob q).2.1
        rw [g] at e1
        cases e1
        exact (hok b _ (bk.kept b o q)).1
      | none => exact ub.keep b o g (nn n q) f
    · cases q : co b with
      | some ob => exact unmask_co (M.nl n) q
      | none =>
        rw [unmask_out (M.nl n) q]
        exact ub.free b o g (nn n q)
    · have m : b ∉ ls := fun m => by
        obtain ⟨o, q, l⟩ := M.hid b m
        rw [e] at q
        cases q
        exact l.nt _ rfl
      rw [unmask_out m (M.nc e)]
      exact ub.tups b xs (out e m)
    · by_cases m : b ∈ ls
      · rw [unmask_in m]
        exact e
      · rw [unmask_out m (M.nc e)]
        exact ub.frzs b o v (out e m)
    · by_cases m : b ∈ ls
      · rw [unmask_in m]
        exact ⟨#[], by rw [e]; simp⟩
      · rw [unmask_out m (M.nc e)]
        exact ub.tbls b ps (out e m)
  · by_cases m : a ∈ ls
    · obtain ⟨o, g⟩ := M.obj ok m
      have g' := kp a m o g
      rw [fl.2.1] at g'
      cases g'
    · cases q : co a with
      | some ob => exact unmask_co m q
      | none =>
        rw [unmask_out m q]
        exact na
theorem mask_env {K : PySem.W.Frag} {mg : Str → Option Value} {base : Heap} {A : Around} {outer : List Env} {s : Shared} (M : Msk (frs outer) ls co H s.heap) (nb : ∀ b ob, co b = some ob → base.get? b = none) (e0 : Env0 Pg w K mg base A outer s H) : Env0 Pg w K mg base A outer s (mask ls co H) := by
  have nn : ∀ {b}, H b = none → co b = none → mask ls co H b = none := fun {b} n e => by rw [mask_out (M.nl n) e]; exact n
  refine ⟨e0.frames, e0.mod, fun b o g => ⟨(e0.bs b o g).1, nn (e0.bs b o g).2 ?_⟩, e0.bsz, e0.funs, fun b m => nn (e0.frf b m) ?_, mask_ok M e0.hok, e0.bare⟩
  · cases q : co b with
    | none => rfl
    | some ob => rw [nb b ob q] at g; cases g
  · cases q : co b with
    | none => rfl
    | some ob => exact absurd m (M.sho b ob q).2.2
end
structure FnD (Pg : Program) (w : World) (K : PySem.W.Frag) (mg : Str → Option Value) (base : Heap) (CX : CXT) (k : Nat) (f : Addr) (fd : FuncData) (ps : List Str) (sp : Sp) : Prop where
  len : ∀ vs H Q E, sp vs H Q E → vs.length = ps.length
  run : ∀ (A : Around) (outer : List Env) (s : Shared) (H : Hp) (args : Args) (us : List Value) (vs : List V) (Q : VK) (E : XK), Room k A → A.guards = some [] → Env0 Pg w K mg base A outer s H → BindsTo s fd args (ps.zip us) → Vals vs us → sp vs H Q E →
    codeAny (model Pg w) A (.call (.ref f) args) (CR CX outer Pg w H s Q E) s
section
variable {Pg : Program} {w : World} {K : PySem.W.Frag} {mg : Str → Option Value} {base : Heap} {CX : CXT} {k j : Nat} {f : Addr} {fd : FuncData} {ps : List Str} {sp sp' : Sp}
theorem FnD.of (F : FnOk Pg w K mg base CX k f fd ps sp) : FnD Pg w K mg base CX k f fd ps sp := ⟨F.len, fun A outer s H args us vs Q E hr _ e0 hb r h => F.run A outer s H args us vs Q E hr e0 hb r h⟩
theorem FnD.mono (F : FnD Pg w K mg base CX j f fd ps sp) (h : j ≤ k) : FnD Pg w K mg base CX k f fd ps sp := ⟨F.len, fun A outer s H args us vs Q E hr => F.run A outer s H args us vs Q E (hr.mono h)⟩
theorem FnD.imp (F : FnD Pg w K mg base CX k f fd ps sp) (h : ∀ vs H Q E, sp' vs H Q E → sp vs H Q E) : FnD Pg w K mg base CX k f fd ps sp' :=
  ⟨fun vs H Q E q => F.len vs H Q E (h vs H Q E q), fun A outer s H args us vs Q E hr hg e0 hb r q => F.run A outer s H args us vs Q E hr hg e0 hb r (h vs H Q E q)⟩
/-- what lets nothing out may be called where something may be let out -/
theorem FnD.up (F : FnD Pg w K mg base CX0 k f fd ps sp) : FnD Pg w K mg base CX k f fd ps sp := ⟨F.len, fun A outer s H args us vs Q E hr hg e0 hb r q => codeAny_mono (F.run A outer s H args us vs Q E hr hg e0 hb r q) fun z s' hq => by
  match z, hq with
  | .ok (.ret u), hq => exact hq
  | .error e, hq => exact hq.elim⟩
/-- a def by its body -/
theorem FnD.ok {x y : Str} {st : Stmt} {N : List Str} (F : Fun K x y st f fd) (S : FnScope N ps (defScope st)) (len : ∀ vs H Q E, sp vs H Q E → vs.length = ps.length)
    (body : ∀ (cd : Value) (A : Around) (outer : List Env) (s : Shared) (H : Hp) (vs : List V) (Q : VK) (E : XK), Room k (A.deeper (envOfC y (defScope st) s.heap.objs.size f cd)) → (A.deeper (envOfC y (defScope st) s.heap.objs.size f cd)).guards = some [] → sp vs H Q E →
      ∃ t, PSs (cxOf CX0 Pg w K mg base N y (defScope st) f cd A outer s H E).nox (defBody st) t ∧ t { nx := fun _ H' => Q .non H', rt := Q } (start N vs) H) : FnD Pg w K mg base CX0 (k + 1) f fd ps sp := by
  obtain ⟨oc, od, kV, doc, pm, an, cd, ct, osl, rfl, lk, hcd⟩ := F.ex
  refine ⟨len, ?_⟩
  intro A outer s H args us vs Q E hr hg e0 hb r hsp
  have hl := len _ _ _ _ hsp
  have kp : ∀ b o, base.get? b = some o → s.heap.get? b = some o := fun b o z => (e0.bs b o z).1
  have pk : ∀ y ∈ ps.zip us, (defScope st).names.lookup y.1 = some .local ∨ ((defScope st).names.lookup y.1 = some .cell ∧ ((cellsFrom (s.heap.objs.size + 1) (defScope st).names []).lookup y.1).isSome = true) := fun y hy =>
    (S.par y.1 (List.of_mem_zip hy).1).imp id fun q => ⟨q, PySem.W.cellsFrom_some _ _ _ (.inl q)⟩
  have KX := e0.mod.kin.keeps kp
  refine codeAny_call_function hr.depth (KX _ _ lk) rfl S.co S.gen rfl (PySem.W.codeRec_of KX hcd) (hb _ _ _ _ (wpAny_newFunctionEnv_cells S.kind pk fun env he s1 x1 => ?_))
  subst he
  obtain ⟨t, ht, hq⟩ := body cd A outer s H vs Q E (hr.deeper _) hg hsp
  have I := inv_start (CX := CX0) (E := E) (cd := cd) (f := f) (qual := y) (us := us) S hr.hd e0 hl r x1
  refine ⟨(e0.mod.nolimit.keeps kp).keeps x1.toInCall.keep, codeAny_func (wpAny_mono (ht.nox.run [] s1 _ H _ I hq) (fun fl s' hs => ?_) fun _ _ z => z)⟩
  match fl, hs with
  | .ret u, ⟨v, σ', H', J, rv, q⟩ => exact ⟨v, H', J.os, J.bare, J.base, J.hok, rv, q⟩
  | .next, ⟨σ', H', J, q⟩ => exact ⟨V.non, H', J.os, J.bare, J.base, J.hok, rfl, q⟩
  | .brk, ⟨_, _, _, q⟩ => exact q.elim
  | .cont, ⟨_, _, _, q⟩ => exact q.elim
/-- a def that may raise, by its body -/
theorem FnD.okX {x y : Str} {st : Stmt} {N : List Str} (F : Fun K x y st f fd) (S : FnScope N ps (defScope st)) (len : ∀ vs H Q E, sp vs H Q E → vs.length = ps.length)
    (body : ∀ (cd : Value) (A : Around) (outer : List Env) (s : Shared) (H : Hp) (vs : List V) (Q : VK) (E : XK), Room k (A.deeper (envOfC y (defScope st) s.heap.objs.size f cd)) → (A.deeper (envOfC y (defScope st) s.heap.objs.size f cd)).guards = some [] → sp vs H Q E →
      ∃ t, PSs (cxOf CX Pg w K mg base N y (defScope st) f cd A outer s H E) (defBody st) t ∧ t { nx := fun _ H' => Q .non H', rt := Q } (start N vs) H) : FnD Pg w K mg base CX (k + 1) f fd ps sp := by
  obtain ⟨oc, od, kV, doc, pm, an, cd, ct, osl, rfl, lk, hcd⟩ := F.ex
  refine ⟨len, ?_⟩
  intro A outer s H args us vs Q E hr hg e0 hb r hsp
  have hl := len _ _ _ _ hsp
  have kp : ∀ b o, base.get? b = some o → s.heap.get? b = some o := fun b o z => (e0.bs b o z).1
  have pk : ∀ y ∈ ps.zip us, (defScope st).names.lookup y.1 = some .local ∨ ((defScope st).names.lookup y.1 = some .cell ∧ ((cellsFrom (s.heap.objs.size + 1) (defScope st).names []).lookup y.1).isSome = true) := fun y hy =>
    (S.par y.1 (List.of_mem_zip hy).1).imp id fun q => ⟨q, PySem.W.cellsFrom_some _ _ _ (.inl q)⟩
  have KX := e0.mod.kin.keeps kp
  refine codeAny_call_function hr.depth (KX _ _ lk) rfl S.co S.gen rfl (PySem.W.codeRec_of KX hcd) (hb _ _ _ _ (wpAny_newFunctionEnv_cells S.kind pk fun env he s1 x1 => ?_))
  subst he
  obtain ⟨t, ht, hq⟩ := body cd A outer s H vs Q E (hr.deeper _) hg hsp
  have I := inv_start (CX := CX) (E := E) (cd := cd) (f := f) (qual := y) (us := us) S hr.hd e0 hl r x1
  refine ⟨(e0.mod.nolimit.keeps kp).keeps x1.toInCall.keep, codeAny_func (wpAny_mono (ht.run [] s1 _ H _ I hq) (fun fl s' hs => ?_) fun _ _ z => z)⟩
  match fl, hs with
  | .ret u, ⟨v, σ', H', J, rv, q⟩ => exact ⟨v, H', J.os, J.bare, J.base, J.hok, rv, q⟩
  | .next, ⟨σ', H', J, q⟩ => exact ⟨V.non, H', J.os, J.bare, J.base, J.hok, rfl, q⟩
  | .brk, ⟨_, _, _, q⟩ => exact q.elim
  | .cont, ⟨_, _, _, q⟩ => exact q.elim
end
theorem cell_one {h : Heap} {c : Addr} {v u : Option Value} (a : h.IsCell c v) (b : h.IsCell c u) : v = u := by
  obtain ⟨o, e1, e2⟩ := a
  obtain ⟨o', e3, e4⟩ := b
  rw [e1] at e3
  cases e3
  rw [e2] at e4
  cases e4
  rfl
/-- the slots js are cells of the running def's own -/
def CellJ (X : Cx) (js : List Nat) : Prop := ∀ j ∈ js, ∃ y, X.N[j]? = some y ∧ X.env.scope.names.lookup y = some .cell ∧ X.fn y = true
/-- the cells of the slots js, as they stand; where a slot is known, what the cell holds -/
structure Shown (X : Cx) (σ : L2.St) (js : List Nat) (co : Addr → Option Obj) : Prop where
  own : ∀ b ob, co b = some ob → ∃ j y, j ∈ js ∧ X.N[j]? = some y ∧ X.env.cells.lookup y = some b
  at_ : ∀ j ∈ js, ∀ y, X.N[j]? = some y → ∃ c ob, X.env.cells.lookup y = some c ∧ co c = some ob ∧ ∃ x, ob.data = .cell x ∧ ∀ v, σ[j]? = some (some v) → ∃ u, x = some u ∧ RelV v u
section
variable {X : Cx} {pins : List (Addr × Obj)} {σ : L2.St} {H : Hp} {s : Shared}
theorem own_cell (I : Inv X pins σ H s) {y : Str} {b : Addr} (hf : X.fn y = true) (e : X.env.cells.lookup y = some b) : b ∉ frs X.stack ∧ X.base.get? b = none := by
  have ge := I.ok.cab y b hf e
  refine ⟨fun m => ?_, ?_⟩
  · rcases List.mem_cons.mp (I.stkSub b m) with z | z
    · exact I.cne y b e z
    · obtain ⟨_, o, ho, _⟩ := I.ok.funs.mem z
      exact absurd (Nat.lt_of_lt_of_le (Heap.lt_size ho) ge) (Nat.lt_irrefl _)
  · cases q : X.base.get? b with
    | none => rfl
    | some o => exact absurd (Nat.lt_of_lt_of_le (Heap.lt_size (I.ok.bs b o q).1) ge) (Nat.lt_irrefl _)
open Classical in
theorem shown_of (I : Inv X pins σ H s) {js : List Nat} (hj : CellJ X js) : ∃ co, Shown X σ js co ∧ (∀ b ob, co b = some ob → H b = none ∧ s.heap.get? b = some ob ∧ b ∉ frs X.stack) ∧ ∀ b ob, co b = some ob → X.base.get? b = none := by
  have cell : ∀ j ∈ js, ∀ y, X.N[j]? = some y → ∃ c, X.env.cells.lookup y = some c ∧ X.fn y = true ∧ ∃ x, s.heap.IsCell c x ∧ ∀ v, σ[j]? = some (some v) → ∃ u, x = some u ∧ RelV v u := by
    intro j mj y ey
    obtain ⟨y', e1, kd, hf⟩ := hj j mj
    rw [ey] at e1
    cases e1
    obtain ⟨c, hc⟩ := I.ok.has y (.inl kd)
    obtain ⟨x, hx⟩ := I.cell y c hc
    refine ⟨c, hc, hf, x, hx, fun v ev => ?_⟩
    obtain ⟨m, hn, hl⟩ := I.loc
    obtain ⟨u, r, l⟩ := hl j y v ey ev (.inr (.inl kd))
    rcases l with ⟨k', _⟩ | ⟨_, c', hc', hcell⟩
    · have k' : X.env.scope.names.lookup y = some .local := k'
      rw [kd] at k'
      cases k'
    · rw [hc] at hc'
      cases hc'
      exact ⟨u, cell_one hx hcell, r⟩
  refine ⟨fun b => if ∃ j y, j ∈ js ∧ X.N[j]? = some y ∧ X.env.cells.lookup y = some b then s.heap.get? b else none, ⟨fun b ob e => ?_, fun j mj y ey => ?_⟩, fun b ob e => ?_, fun b ob e => ?_⟩
  · split at e
    · rename_i h
      exact h
    · cases e
  · obtain ⟨c, hc, _, x, ⟨ob, ho, hd⟩, hv⟩ := cell j mj y ey
    exact ⟨c, ob, hc, by rw [if_pos ⟨j, y, mj, ey, hc⟩]; exact ho, x, hd, hv⟩
  · dsimp only at e
    split at e
    · rename_i h
      obtain ⟨j, y, mj, ey, hc⟩ := h
      obtain ⟨c, hc', hf, _⟩ := cell j mj y ey
      rw [hc] at hc'
      cases hc'
      exact ⟨I.freeC y b hc, e, (own_cell I hf hc).1⟩
    · cases e
  · dsimp only at e
    split at e
    · rename_i h
      obtain ⟨j, y, mj, ey, hc⟩ := h
      obtain ⟨c, hc', hf, _⟩ := cell j mj y ey
      rw [hc] at hc'
      cases hc'
      exact (own_cell I hf hc).2
    · cases e
end
/-- a call: ls hidden, the cells of the slots js shown -/
@[irreducible] def maskK (X : Cx) (σ : L2.St) (sp : Sp) (E : XK) : List V → Hp → VK → Prop := fun vs H1 Q => ∃ (ls : List Addr) (js : List Nat), (∀ b ∈ ls, ∃ o, H1 b = some o ∧ Lcl o) ∧ CellJ X js ∧ ∀ co, Shown X σ js co → (∀ b ob, co b = some ob → H1 b = none) →
  sp vs (mask ls co H1) (fun v H2 => Bck ls co H2 → Q v (unmask ls co H1 H2)) (fun cls d H2 => Bck ls co H2 → E cls d (unmask ls co H1 H2))
section
variable {X : Cx} {CX : CXT} {k : Nat} {f : Addr} {fd : FuncData} {ps ks : List Str} {sp : Sp} {E : L2.St → XK} {x : Str} {p pos : Pos} {e : Expr} {es : List Expr} {t tk : TA} {kws : List Keyword} {g : List Value → List Value → List Value} {gV : List V → List V → List V}
/-- what lets nothing out, or what tells of errors -/
inductive Lets (X : Cx) : CXT → (L2.St → XK) → Prop
  | non {E : L2.St → XK} : Lets X CX0 E
  | may {E : L2.St → XK} (hx : ∀ σ, PassesAt (L2.CX X.prog X.w) X σ (E σ)) : Lets X (L2.CX X.prog X.w) E
theorem Lets.all {X : Cx} {E : XK} (hx : Passes (L2.CX X.prog X.w) X E) : Lets X (L2.CX X.prog X.w) (fun _ => E) := .may fun σ pins H s e s' I c => hx pins σ H s e s' I c
theorem run_mask {pins : List (Addr × Obj)} {σ : L2.St} {H : Hp} {s : Shared} {Q : VK} {us : List Value} {vs : List V} {args : Args} (F : FnD X.prog X.w X.K X.mg X.base CX k f fd ps sp) (hl : Lets X CX E) (hr : Room k X.A) (hgd : X.A.guards = some []) (I : Inv X pins σ H s) (r : Vals vs us)
    (hb : us.length = ps.length → BindsTo s fd args (ps.zip us)) (h : maskK X σ sp (E σ) vs H Q) : codeAny (model X.prog X.w) X.A (.call (.ref f) args) (fun z s' => match z with
      | .ok (.ret u) => EP X pins σ Q u s'
      | .ok _ => False
      | .error e => X.xe e s') s := by
  unfold maskK at h
  obtain ⟨ls, js, L, hj, q⟩ := h
  obtain ⟨co, sh, c1, c2⟩ := shown_of I hj
  have q := q co sh fun b ob e => (c1 b ob e).1
  have M : Msk (frs X.stack) ls co H s.heap := ⟨L, c1⟩
  have e0 := I.env0
  refine codeAny_mono (F.run X.A X.stack s (mask ls co H) args us vs _ _ hr hgd (mask_env M c2 e0) (hb (r.length.symm.trans (F.len _ _ _ _ q))) r q) fun z s' hq => ?_
  match z, hq with
  | .error e, hq =>
    cases hl with
    | non => exact hq.elim
    | may hx => exact hx σ pins H s e s' I (cx_unmask M e0.hok e0.frf hq fun cls d H2 q g => q g)
  | .ok (.ret u), ⟨v, H2, os, bare, un, hok, rv, z⟩ =>
    have bk := bck_of M e0.hok un
    exact I.after ⟨v, unmask ls co H H2, os, bare, unmask_un M e0.hok un hok, unmask_ok M e0.hok bk hok fun c m o g => un.keep c o g (mask_in m) (fun m2 => by
      obtain ⟨o, e, _⟩ := L c m
      rw [e0.frf c m2] at e
      cases e) (fun z => nomatch z), rv, z bk⟩
theorem run_call {pins : List (Addr × Obj)} {σ : L2.St} {H : Hp} {s : Shared} {Q : VK} {us : List Value} {vs : List V} (F : FnD X.prog X.w X.K X.mg X.base CX k f fd ps sp) (hl : Lets X CX E) (hr : Room k X.A) (hgd : X.A.guards = some []) (hb : Binds X.K fd ps []) (I : Inv X pins σ H s) (r : Vals vs us) (h : maskK X σ sp (E σ) vs H Q) :
    wpAny (model X.prog X.w) X.A (call (.ref f) us) (EP X pins σ Q) X.xe s := by
  refine wpAny_call (codeAny_mono (run_mask F hl hr hgd I r (fun z => ?_) h) fun z s' hq => ?_)
  · have B := hb s us I.kIn (by rw [List.append_nil]; exact z)
    rwa [List.append_nil] at B
  · match z, hq with
    | .error e, hq => exact hq
    | .ok (.ret u), hq => exact hq
def tCallM (X : Cx) (sp : Sp) (E : L2.St → XK) (t : TA) : TE := fun σ H Q => t σ H fun vs H1 => maskK X σ sp (E σ) vs H1 Q
theorem pe_callM (F : FnD X.prog X.w X.K X.mg X.base CX k f fd ps sp) (hl : Lets X CX E) (hr : Room k X.A) (hgd : X.A.guards = some []) (hg : Gl X x) (hm : X.mg x = some (.ref f)) (hk : PySem.W.keepIn X.K (.ref f) = true) (hb : Binds X.K fd ps []) (ha : PA X (e :: es) t)
    (hdb : (x == ("__debug__" : Str)) = false := by decide) (he : starEach (e :: es) X.env = (false, eval e X.env) :: starEach es X.env := by rfl) (hpl : (backTo pos (starEach es X.env)).any (·.1) = false := by rfl) :
    PE X (.Call (.Name x p) (e :: es) [] pos) (tCallM X sp E t) := by
  refine ⟨fun pins s σ H Q I h => wpAny_Call_Name_kw (ld_glob I hg hm ?_ hdb)⟩
  refine PySem.W.callWith_K (h₀ := X.base) I.ok.mod.kin hk ?_ he hpl
  exact thn (ha.run pos pins s σ H _ I h) fun us s1 ⟨vs, H1, J, r, hh⟩ => ⟨J.kIn, run_call F hl hr hgd hb J r hh⟩
end
end Dl
set_option Elab.async false
set_option linter.all false
set_option maxRecDepth 100000
set_option maxHeartbeats 4000000
namespace SoC
open PySem PySem.Spec PyProof.Rows L2 LamX NdefX So
/-- what cells hold, by their addresses -/
abbrev CF := Addr → Option Value → Prop
/-- what is tracked -/
abbrev TR := Addr → HO → Prop
def cellsIn (C : CF) (s : Shared) (H : Hp) : Prop := ∀ c v, C c v → H c = none ∧ s.heap.IsCell c v
def trkIn (T : TR) (H : Hp) : Prop := ∀ a o, T a o → H a = some o
theorem cellsIn.un {C : CF} {s s' : Shared} {H H' : Hp} {fs ex : List Addr} (h : cellsIn C s H) (u : Un fs ex H H' s.heap s'.heap) (hx : ∀ c v, C c v → c ∉ ex) : cellsIn C s' H' := by
  intro c v q
  obtain ⟨n, o, ho, hd⟩ := h c v q
  obtain ⟨sl, e⟩ := u.any ho n (hx c v q)
  exact ⟨u.free c o ho n (hx c v q), _, e, hd⟩
/-- the function at f keeps sp, wherever what it leans on stands -/
def Cal (Pg : Program) (w : World) (K : PySem.W.Frag) (mg : Str → Option Value) (base : Heap) (k : Nat) (C : CF) (T : TR) (f : Addr) (sp : Sp) : Prop :=
  ∀ (A : Around) (outer : List Env) (s : Shared) (H : Hp) (us : List Value) (vs : List V) (Q : VK) (E : XK), Room k A → Env0 Pg w K mg base A outer s H → cellsIn C s H → trkIn T H → Vals vs us → sp vs H Q E →
    codeAny (model Pg w) A (.call (.ref f) ⟨us, []⟩) (CR (L2.CX Pg w) outer Pg w H s Q E) s
section
variable {Pg : Program} {w : World} {K : PySem.W.Frag} {mg : Str → Option Value} {base : Heap} {k j : Nat} {C : CF} {T : TR} {f : Addr} {sp sp' : Sp}
theorem Cal.mono (c : Cal Pg w K mg base j C T f sp) (h : j ≤ k) : Cal Pg w K mg base k C T f sp := fun A outer s H us vs Q E hr => c A outer s H us vs Q E (hr.mono h)
theorem Cal.imp (c : Cal Pg w K mg base k C T f sp) (h : ∀ vs H Q E, trkIn T H → sp' vs H Q E → sp vs H Q E) : Cal Pg w K mg base k C T f sp' := fun A outer s H us vs Q E hr e0 hc ht r q => c A outer s H us vs Q E hr e0 hc ht r (h vs H Q E ht q)
end
/-- a lambda stands at f: its words, its cells, its code -/
def LmO (f : Addr) (F : NF) (body : Expr) : HO := .ext fun h => ∃ pm ctv : Value, h.get? f = some (PySem.W.kla_obj "<lambda>" F.qual F.params body F.scope F.cl pm F.c ctv)
/-- something that is called stands at f -/
def FnK (H : Hp) (f : Addr) : Prop := ∃ φ : Heap → Prop, H f = some (.ext φ) ∧ ∀ h, φ h → PySem.W.FnAt f h
theorem FnK.at {Pg : Program} {w : World} {H : Hp} {h : Heap} {f : Addr} (x : FnK H f) (hok : HOk Pg w H h) : PySem.W.FnAt f h := by
  obtain ⟨φ, e, q⟩ := x
  obtain ⟨z, _, _⟩ := hok f _ e
  exact q h z
section
variable {X : Cx} {k j i : Nat} {C : CF} {T : TR} {f : Addr} {sp : Sp} {E : XK} {t : TA} {x : Str} {e : Expr} {es : List Expr} {p pos : Pos}
end
end SoC
set_option Elab.async false
set_option linter.all false
set_option maxRecDepth 100000
set_option maxHeartbeats 4000000
namespace Dl
open PySem PySem.Spec PyProof.Rows L2 So
/-- what the rules ask of a run: its tables, its program's constants -/
structure Zw where
  T : Tb
  K : PySem.W.Frag
  Pg : Program
  w : World
  mg : Str → Option Value
  base : Heap
abbrev zOf (X : Cx) (T : Tb) : Zw := ⟨T, X.K, X.prog, X.w, X.mg, X.base⟩
def cloD (s : Nat) (Ds : List PyData) : PyData := .dict [(.list [.int s], .tuple Ds)]
def SiteC.nf (sc : SiteC) (cl : List (Str × Addr)) (c : Addr) : NdefX.NF := ⟨sc.name, sc.qual, sc.params, (match sc.body with | .inr b => b | .inl _ => []), sc.scope, cl, c⟩
def FunO (sc : SiteC) (f : Addr) (F : NdefX.NF) : HO := match sc.body with
  | .inl e => SoC.LmO f F e
  | .inr _ => NdefX.FnO f F
theorem funO_ext (sc : SiteC) (f : Addr) (F : NdefX.NF) : ∃ φ : Heap → Prop, FunO sc f F = .ext φ ∧ ∀ h, φ h → PySem.W.FnAt f h := by
  unfold FunO
  split
  · exact ⟨_, rfl, fun h ⟨pm, ctv, z⟩ => ⟨_, _, _, _, z⟩⟩
  · exact ⟨_, rfl, fun h ⟨od, sl, doc, pm, ctv, z⟩ => ⟨_, _, _, _, z⟩⟩
theorem funO_cls (sc : SiteC) (f : Addr) (F : NdefX.NF) : ∃ φ : Heap → Prop, FunO sc f F = .ext φ ∧ ∀ h, φ h → ∃ o, h.get? f = some o ∧ o.cls = .type "function" := by
  unfold FunO
  split
  · exact ⟨_, rfl, fun h ⟨pm, ctv, z⟩ => ⟨_, z, rfl⟩⟩
  · exact ⟨_, rfl, fun h ⟨od, sl, doc, pm, ctv, z⟩ => ⟨_, z, rfl⟩⟩
/-- what the captured cells hold for good -/
structure CellsF (G : Hp) (cl : List (Str × Addr)) (fr : List Str) (as : List Addr) (vs : List V) : Prop where
  la : as.length = fr.length
  lv : vs.length = fr.length
  at_ : ∀ (i : Nat) (y : Str), fr[i]? = some y → ∃ a v u ob, as[i]? = some a ∧ vs[i]? = some v ∧ cl.lookup y = some a ∧ G a = some (CellF ob) ∧ ob.data = .cell (some u) ∧ RelV v u
  all : ∀ y a, cl.lookup y = some a → a ∈ as
  inj : ∀ x y a, cl.lookup x = some a → cl.lookup y = some a → x = y
structure CloAt (T : Tb) (G : Hp) (f : Addr) (s : Nat) (as : List Addr) (vs : List V) : Prop where
  ex : ∃ sc cl c, T.st s = some sc ∧ G f = some (FunO sc f (sc.nf cl c)) ∧ G c = some (LamX.CodeO c sc.qual) ∧ CellsF G cl sc.fr as vs
def dels (as : List Addr) (G : Hp) : Hp := fun b => if b ∈ as then none else G b
theorem dels_ext {as : List Addr} {G G' : Hp} (x : LamX.ExtN G G') : LamX.ExtN (dels as G) (dels as G') := fun b o e n => by
  unfold dels at e ⊢
  split at e
  · cases e
  · rename_i h
    rw [if_neg h]
    exact x b o e n
theorem CellsF.ext {G G' : Hp} {cl : List (Str × Addr)} {fr : List Str} {as : List Addr} {vs : List V} (x : LamX.ExtN G G') (h : CellsF G cl fr as vs) : CellsF G' cl fr as vs :=
  ⟨h.la, h.lv, fun i y e => by
    obtain ⟨a, v, u, ob, h1, h2, h3, h4, h5⟩ := h.at_ i y e
    exact ⟨a, v, u, ob, h1, h2, h3, x _ _ h4 (fun ps z => nomatch z), h5⟩, h.all, h.inj⟩
theorem CloAt.ext {T : Tb} {G G' : Hp} {f : Addr} {s : Nat} {as : List Addr} {vs : List V} (x : LamX.ExtN G G') (h : CloAt T G f s as vs) : CloAt T G' f s as vs := by
  obtain ⟨sc, cl, c, h1, h2, h3, h4⟩ := h.ex
  refine ⟨sc, cl, c, h1, x _ _ h2 (fun ps z => ?_), x _ _ h3 (fun ps z => ?_), h4.ext x⟩
  · obtain ⟨φ, e, _⟩ := funO_ext sc f (sc.nf cl c)
    rw [e] at z
    cases z
  · exact LamX.codeO_ne ps z
/-- a dict by its raw entries -/
def DicO (a : Addr) (es : Array DictEntry) : HO := .ext fun h => ∃ ep, h.DictRaw a es ep
mutual
/-- a key, up to == -/
def nk : PyData → NestedKey
  | .none => .none
  | .bool b => .num (if b = true then 1 else 0)
  | .int i => .num i
  | .str z => .text z
  | .tuple ds => .tup (nks ds)
  | .list _ => .none
  | .dict _ => .none
def nks : List PyData → List NestedKey
  | [] => []
  | d :: ds => nk d :: nks ds
end
mutual
inductive Dw (Z : Zw) : Hp → V → PyData → Prop
  | non {G : Hp} : Dw Z G .non .none
  | bl {G : Hp} (b : Bool) : Dw Z G (.bl b) (.bool b)
  | int {G : Hp} (i : Int) : Dw Z G (.int i) (.int i)
  | str {G : Hp} (x : Str) : Dw Z G (.str x) (.str x)
  | lst {G : Hp} {a : Addr} {xs : List V} {ds : List PyData} : SqL Z.K G a xs → DwAll Z G xs ds → Dw Z G (.ref a) (.list ds)
  | tup {G : Hp} {a : Addr} {xs : List V} {ds : List PyData} : SqT Z.K G a xs → DwAll Z G xs ds → Dw Z G (.ref a) (.tuple ds)
  | dic {G : Hp} {a : Addr} {es : Array DictEntry} {kvs : List (PyData × PyData)} : G a = some (DicO a es) → DwKV Z G es.toList kvs → Dw Z G (.ref a) (.dict kvs)
  | clo {G : Hp} {f : Addr} {s : Nat} {as : List Addr} {vs : List V} {Ds : List PyData} : CloAt Z.T G f s as vs → DwAll Z (dels as G) vs Ds → Dw Z G (.ref f) (cloD s Ds)
inductive DwAll (Z : Zw) : Hp → List V → List PyData → Prop
  | nil {G : Hp} : DwAll Z G [] []
  | cons {G : Hp} {v : V} {vs : List V} {d : PyData} {ds : List PyData} : Dw Z G v d → DwAll Z G vs ds → DwAll Z G (v :: vs) (d :: ds)
inductive DwKV (Z : Zw) : Hp → List DictEntry → List (PyData × PyData) → Prop
  | nil {G : Hp} : DwKV Z G [] []
  | cons {G : Hp} {e : DictEntry} {es : List DictEntry} {k v : V} {dk dv : PyData} {kvs : List (PyData × PyData)} : RelV k e.key → RelV v e.val → e.hash = (nk dk).hash Z.w → Dw Z G k dk → Dw Z G v dv → (∀ p ∈ kvs, nk p.1 ≠ nk dk) → DwKV Z G es kvs → DwKV Z G (e :: es) ((dk, dv) :: kvs)
end
section
variable {Z : Zw} {G G' : Hp} {v : V} {D : PyData}
mutual
theorem Dw.ext : ∀ {G G' : Hp} {v : V} {D : PyData}, LamX.ExtN G G' → Dw Z G v D → Dw Z G' v D
  | _, _, _, _, _, .non => .non
  | _, _, _, _, _, .bl b => .bl b
  | _, _, _, _, _, .int b => .int b
  | _, _, _, _, _, .str b => .str b
  | _, _, _, _, x, .lst a b => .lst (sql_ext x a) (DwAll.ext x b)
  | _, _, _, _, x, .tup a b => .tup (sqt_ext x a) (DwAll.ext x b)
  | _, _, _, _, x, .dic a b => .dic (x _ _ a (fun _ z => nomatch z)) (DwKV.ext x b)
  | _, _, _, _, x, .clo a b => .clo (a.ext x) (DwAll.ext (dels_ext x) b)
theorem DwAll.ext : ∀ {G G' : Hp} {vs : List V} {Ds : List PyData}, LamX.ExtN G G' → DwAll Z G vs Ds → DwAll Z G' vs Ds
  | _, _, _, _, _, .nil => .nil
  | _, _, _, _, x, .cons a b => .cons (Dw.ext x a) (DwAll.ext x b)
theorem DwKV.ext : ∀ {G G' : Hp} {es : List DictEntry} {kvs : List (PyData × PyData)}, LamX.ExtN G G' → DwKV Z G es kvs → DwKV Z G' es kvs
  | _, _, _, _, _, .nil => .nil
  | _, _, _, _, x, .cons r1 r2 h a b n c => .cons r1 r2 h (Dw.ext x a) (Dw.ext x b) n (DwKV.ext x c)
end
theorem Dw.mono {T : Tb} (s : Ex T G G') (h : Dw Z G v D) : Dw Z G' v D := h.ext s.1
theorem DwAll.mono {T : Tb} {vs : List V} {Ds : List PyData} (s : Ex T G G') (h : DwAll Z G vs Ds) : DwAll Z G' vs Ds := h.ext s.1
mutual
/-- no dict, no function in it -/
def plain : PyData → Bool
  | .dict _ => false
  | .list ds => plains ds
  | .tuple ds => plains ds
  | _ => true
def plains : List PyData → Bool
  | [] => true
  | d :: ds => plain d && plains ds
end
mutual
theorem plain_of_lay : ∀ {D : PyData}, D.canLay0 = true → plain D = true
  | .none, _ => rfl
  | .bool _, _ => rfl
  | .int _, _ => rfl
  | .str _, _ => rfl
  | .list ds, h => by
    simp only [PyData.canLay0] at h
    unfold plain
    exact plains_of_lay h
  | .tuple ds, h => by
    simp only [PyData.canLay0] at h
    unfold plain
    exact plains_of_lay h
  | .dict _, h => by simp [PyData.canLay0] at h
theorem plains_of_lay : ∀ {Ds : List PyData}, PyData.canLayAll0 Ds = true → plains Ds = true
  | [], _ => rfl
  | d :: ds, h => by
    unfold PyData.canLayAll0 at h
    rw [Bool.and_eq_true] at h
    unfold plains
    rw [plain_of_lay h.1, plains_of_lay h.2]
    rfl
end
mutual
theorem Dw.dp : ∀ {D : PyData} {v : V}, plain D = true → Dw Z G v D → Dp Z.K G v D
  | .none, _, _, h => by cases h; exact .non
  | .bool _, _, _, h => by cases h; exact .bl _
  | .int _, _, _, h => by cases h; exact .int _
  | .str _, _, _, h => by cases h; exact .str _
  | .list ds, _, p, h => by
    cases h with
    | lst a b => exact .lst a (DwAll.dp (by unfold plain at p; exact p) b)
  | .tuple ds, _, p, h => by
    cases h with
    | tup a b => exact .tup a (DwAll.dp (by unfold plain at p; exact p) b)
  | .dict _, _, p, _ => nomatch p
theorem DwAll.dp : ∀ {Ds : List PyData} {vs : List V}, plains Ds = true → DwAll Z G vs Ds → DpAll Z.K G vs Ds
  | [], _, _, h => by cases h; exact .nil
  | d :: ds, _, p, h => by
    unfold plains at p
    rw [Bool.and_eq_true] at p
    cases h with
    | cons a b => exact .cons (Dw.dp p.1 a) (DwAll.dp p.2 b)
end
end
end Dl
set_option Elab.async false
set_option linter.all false
set_option maxRecDepth 100000
namespace PySem
open Sem (wp)
theorem fnT_get : Slot "function" "__getattribute__" "object.__getattribute__" := by
  refine .of (owner := "object") (n := "__getattribute__") ?_ ?_ ?_ ?_ ?_ ?_
  · rw [typeLookup_type, builtinLookup_eq_fast]; kernel_rfl
  · decide +kernel
  · decide +kernel
  · decide +kernel
  · first | exact .inl (by decide +kernel) | exact .inr (by decide +kernel)
  · rw [isSubtype_type]; kernel_rfl
theorem fnT_look : typeLookup (.type "function") "__class__" = pure (some (.builtin "object.__class__")) := by rw [typeLookup_type, builtinLookup_eq_fast]; kernel_rfl
theorem fnT_sub : isSubtype (.type "function") (.type (".".intercalate ("object.__class__".cutAt '.').dropLast)) = pure true := by rw [F.owner_object_class, isSubtype_type]; kernel_rfl
section
variable {prog : Program} {w : World} {A : Around} {E : Value → Shared → Prop} {h : Heap} {g : Array GenState} {d : Drawn} {t : Nat} {os : OsState} {a : Addr}
/-- a function object at a -/
def FnAtT (h : Heap) (a : Addr) : Prop := ∃ o, h.get? a = some o ∧ o.cls = .type "function"
theorem FnAtT.ty (p : FnAtT h a) : (⟨h, g, d, t, os⟩ : Shared).TypeIs (.ref a) "function" := p
/-- the descriptor's answer -/
theorem fnT_desc {R : Result → Shared → Prop} (p : FnAtT h a) (r : R (.ok (.ret (.type "function"))) ⟨h, g, d, t, os⟩) :
    codeAny (model prog w) A (.call (.builtin "getset_descriptor.__get__") ⟨[.builtin "object.__class__", .ref a, .type "function"], []⟩) R ⟨h, g, d, t, os⟩ := by
  obtain ⟨o, hx, hc⟩ := p
  have k1 : (⟨h, g, d, t, os⟩ : Shared).TypeIs (.ref a) "function" := ⟨o, hx, hc⟩
  have k2 : (⟨h, g, d, t, os⟩ : Shared).TypeIs (.builtin "object.__class__") "getset_descriptor" := F.typeOf_object_class
  have k3 := fnT_sub
  refine codeAny_call_builtin F.slot_gs_get.plain F.entry_gs_get (F.slot_gs_get.check _ _ _ _ _ _ _ _ k2 (F.args_gs_get _ _ _) ?_)
  repeat (any_goals (first | assumption | wp_step))
  refine ⟨Code.quiet_builtin _ (by decide +kernel), codeAny_builtin F.entry_object_class ?_⟩
  repeat (any_goals (first | assumption | wp_step))
/-- the general way to an attribute, asked for the class -/
theorem fnT_own {tk : Tok} {R : Result → Shared → Prop} (p : FnAtT h a) (r : R (.ok (.ret (.type "function"))) ⟨h, g, d, t, os⟩) :
    codeAny (model prog w) A (.call (.builtin "object.__getattribute__") ⟨[.ref a, .str "__class__" tk], []⟩) R ⟨h, g, d, t, os⟩ := by
  refine codeAny_call_builtin fnT_get.plain F.entry_object_getattribute (fnT_get.check _ _ _ _ _ _ _ _ p.ty (F.args_object_getattribute_2 _ _) ?_)
  have p' := p
  obtain ⟨o, hx, hc⟩ := p'
  have k1 : (⟨h, g, d, t, os⟩ : Shared).TypeIs (.ref a) "function" := ⟨o, hx, hc⟩
  have k2 : (⟨h, g, d, t, os⟩ : Shared).TypeIs (.builtin "object.__class__") "getset_descriptor" := F.typeOf_object_class
  have k3 := fnT_look
  have k4 := F.typeOf_object_class
  have k5 := F.slot_gs_get.lookup
  have k6 := F.slot_gs_set.lookup
  repeat (any_goals (first | assumption | wp_step))
  refine fnT_desc p ?_
  repeat (any_goals (first | assumption | wp_step))
theorem fnT_by {tk : Tok} {Q : Value → Shared → Prop} (p : FnAtT h a) (r : Q (.type "function") ⟨h, g, d, t, os⟩) : wpAny (model prog w) A (getAttrBy (.ref a) (.str "__class__" tk) false) Q E ⟨h, g, d, t, os⟩ := by
  have p' := p
  obtain ⟨o, hx, hc⟩ := p'
  have k1 : (⟨h, g, d, t, os⟩ : Shared).TypeIs (.ref a) "function" := ⟨o, hx, hc⟩
  have k2 := fnT_get.lookup
  have k3 := fnT_get.bind (.ref a)
  repeat (any_goals (first | assumption | wp_step))
  refine fnT_own p ?_
  repeat (any_goals (first | assumption | wp_step))
/-- what f.__class__ is -/
theorem fnT_class {Q : Option Value → Shared → Prop} (p : FnAtT h a) (r : Q (some (.type "function")) ⟨h, g, d, t + 1, os⟩) : wpAny (model prog w) A (getAttr? (.ref a) "__class__") Q E ⟨h, g, d, t, os⟩ := by
  unfold getAttr? getAttrBy?
  repeat (any_goals (first | assumption | with_reducible apply fnT_by p | wp_step))
end
namespace W
theorem kitx_fn {K : Frag} {a : Addr} : KitX K (.ref a) (.type "function") (KitAt a "function") := kitx_of kitAt_ty fun {_ _ _ _ _ s} p k => by
  obtain ⟨h, g, d, t, os⟩ := s
  exact fnT_class p k
end W
end PySem
set_option Elab.async false
set_option linter.all false
set_option maxRecDepth 100000
set_option maxHeartbeats 4000000
namespace SoE
open PySem PySem.Spec PyProof.Rows L2
theorem enum_new {v : Value} {o : Obj} {Z : Heap → Prop} (B : Begins v o Z) :
    Meets (Builtin.«enumerate.__new__» ⟨[.type "enumerate", v], []⟩) (fun _ R s => Z s.heap ∧
      R (.ok (.ret (.ref (s.heap.push o).objs.size))) { s with heap := (s.heap.push o).push { cls := .type "enumerate", data := .fields #[.none, .bool false, .ref s.heap.objs.size, rawInt 0, .none, .none] } }) :=
  .of_wp fun prog w A R s h => by
    obtain ⟨hp, g, d, tk, os⟩ := s
    obtain ⟨z, r⟩ := h
    have hsub := sub_enumerate
    have it0 : ∀ {A' : Around} {E : Value → Shared → Prop} {Q : Value → Shared → Prop}, Q (.ref hp.objs.size) ⟨hp.push o, g, d, tk, os⟩ →
        wpAny (model prog w) A' (pyIter v) Q E ⟨hp, g, d, tk, os⟩ := fun q => B.iter prog w _ _ ⟨hp, g, d, tk, os⟩ _ z q
    wp_walk using it0
    refine wpAny_stack_any fun st => wpAny_pure ?_
    split
    · rename_i c _ _ _ _ _
      cases (c == Value.type "enumerate") <;> (wp_walk using it0; exact ⟨_, rfl, r⟩)
    · wp_walk using it0
      exact ⟨_, rfl, r⟩
theorem enum_call {prog : Program} {w : World} {A : Around} {E : Value → Shared → Prop} {s : Shared} {v : Value} {o : Obj} {Z : Heap → Prop} {Q : Value → Shared → Prop} (B : Begins v o Z) (z : Z s.heap)
    (h : ∀ h', IsEnum h' (s.heap.objs.size + 1) s.heap.objs.size 0 .none → h'.get? s.heap.objs.size = some o → h'.objs.size = s.heap.objs.size + 2 →
      (∀ b u, s.heap.get? b = some u → h'.get? b = some u) → Q (.ref (s.heap.objs.size + 1)) { s with heap := h' }) : wpAny (model prog w) A (call (.type "enumerate") [v]) Q E s := by
  refine callType_new F.called_enumerate (by decide) (F.typeCall_enumerate_1 _) (F.newCall_enumerate_1 _) (fun obj => F.args_object_init_2 obj _) F.entry_enumerate_new (enum_new B) ⟨z, ?_⟩
  have sz : (s.heap.push o).objs.size = s.heap.objs.size + 1 := Heap.size_push ..
  show _ ∧ _
  rw [sz]
  have he : IsEnum ((s.heap.push o).push { cls := .type "enumerate", data := .fields #[.none, .bool false, .ref s.heap.objs.size, rawInt 0, .none, .none] }) (s.heap.objs.size + 1) s.heap.objs.size 0 .none := by
    have q := Heap.get?_push_size (s.heap.push o) (o := { cls := .type "enumerate", data := .fields #[.none, .bool false, .ref s.heap.objs.size, rawInt 0, .none, .none] }) rfl
    rw [sz] at q
    exact q
  exact ⟨⟨_, he, rfl⟩, h _ he (Heap.get?_push_of_some _ (Heap.get?_push_size _ B.free)) (by rw [Heap.size_push, sz]) fun b u x => Heap.get?_push_of_some _ (Heap.get?_push_of_some _ x)⟩
/-- the tuple at a, each item in a new pair with its place -/
def IteT (K : PySem.W.Frag) (a : Addr) : It :=
  ⟨fun i H => ∃ (xs : List V) (x : V), SqT K H a xs ∧ xs[i]? = some x,
    fun i H v H' => ∃ T x, v = .ref T ∧ H T = none ∧ H' = upd H T (.tup [.int (i : Nat), x]) ∧ ∀ xs, SqT K H a xs → xs[i]? = some x,
    fun i H => ∃ xs : List V, SqT K H a xs ∧ xs.length = i⟩
theorem walk_enumT {K : PySem.W.Frag} {a : Addr} {xs : List V} : Walk (IteT K a) xs.length (fun H => SqT K H a xs) (YPair (fun i => some (.int (i : Nat))) (fun i => xs[i]?)) := by
  refine ⟨fun i _ hi q => ⟨xs, xs[i], q, by simp [hi]⟩, fun _ q => ⟨xs, q, rfl⟩, fun i H v H' _ q y => ?_⟩
  obtain ⟨T, x, h1, h2, h3, h4⟩ := y
  exact ⟨T, .int (i : Nat), x, h1, h2, h3, rfl, h4 xs q⟩
theorem turn_enumT {P : Program} {w : World} {K : PySem.W.Frag} {elts : List Expr} {kk : Nat} {tpos : Pos} (a e it : Addr) :
    Turn P w K (.Tuple elts kk tpos) (IteT K a) [e, it] e (fun i h => (∃ old, IsEnum h e it ((i : Nat) : Int) old) ∧ h.IsTupleIter it a i ∧ e ≠ it) where
  mem := by simp
  obj := fun i h st b hb => by
    obtain ⟨⟨old, he⟩, ⟨o, ho, hc, hd⟩, _⟩ := st
    have e' : b = e ∨ b = it := by simpa using hb
    rcases e' with z | z
    · rw [z]; exact ⟨_, he, fun v q => nomatch q⟩
    · rw [z]; exact ⟨o, ho, fun v q => by rw [hd] at q; cases q⟩
  keep := fun i h h' st k => let ⟨⟨old, he⟩, hi, hne⟩ := st; ⟨⟨old, k e (by simp) _ he⟩, hi.at fun o q => k it (by simp) o q, hne⟩
  item := by
    intro X hP hw hK hc i pins s σ H E I hf st hg
    subst hP hw hK
    obtain ⟨⟨old, he⟩, hit, hne⟩ := st
    obtain ⟨xs, x, hq, hx⟩ := hg
    obtain ⟨its, rv, p, hz⟩ := I.tuple hq
    have pt : s.heap.IsTuple a its.toArray := p
    obtain ⟨u, hu, ru⟩ := rv.get hx
    have hel : e < s.heap.objs.size := Heap.lt_size he
    have hil : it < s.heap.objs.size := by obtain ⟨_, q, _⟩ := hit; exact Heap.lt_size q
    have nai : a ≠ it := fun z => by
      obtain ⟨o1, q1, c1, _⟩ := hit
      obtain ⟨o2, q2, c2, _⟩ := pt
      rw [z, q1] at q2
      cases q2
      rw [c1] at c2
      exact absurd c2 (by simp)
    have nae : e ≠ a := fun z => by
      obtain ⟨o2, q2, c2, _⟩ := pt
      rw [← z] at q2
      have he' : s.heap.get? e = some _ := he
      rw [he'] at q2
      cases q2
      exact absurd c2 (by simp)
    have hlt : i < its.toArray.size := by
      have q := (List.getElem?_eq_some_iff.mp hu).1
      simpa using q
    refine wpAny_pyNext_enum_itemC (Draws.tuple (A := X.A.in1) (I.ok.hd hc) it a nai its.toArray) he ⟨hit, pt⟩ hlt hne (by simp [hne, nae]) fun y h' tk hPy ho hst' hT hsz hk => ?_
    have hy : y = u := by
      have q : its.toArray[i]? = some u := by simpa using hu
      have q2 : its.toArray[i]? = some y := hPy
      rw [q] at q2
      exact (Option.some.inj q2).symm
    subst hy
    refine ⟨_, rfl, wpAny_letOwnedTupleGo_enum (s := { s with heap := h', toks := tk + 1 }) ho fun h'' he' sb => ?_⟩
    have hT2 : h''.get? s.heap.objs.size = some { cls := .type "tuple", data := .seq #[.int i tk, y] } := (sb.2 _ (Nat.ne_of_gt hel)).trans hT
    have new : ObjOk X.prog X.w (upd H s.heap.objs.size (.tup [.int (i : Nat), x])) h'' s.heap.objs.size (.tup [.int (i : Nat), x]) :=
      ⟨by show 2 ≤ sizeLine; decide, [.int i tk, y], .cons ⟨_, rfl⟩ (.cons ru .nil), ⟨_, hT2, rfl, _, rfl⟩⟩
    have I1 : Inv X pins σ (upd H s.heap.objs.size (.tup [.int (i : Nat), x])) { s with heap := h'', toks := tk + 1 } :=
      I.turnedNew (ch := [e, it]) (fun b ob hb q => (sb.2 b (fun z => hb (by simp [z]))).trans (hk b ob (fun z => hb (by simp [z])) (fun z => hb (by simp [z])) q)) hf (Nat.le_refl _) new
    refine ⟨.ref s.heap.objs.size, _, I1, rfl, ⟨_, x, rfl, I.hok.fresh (Nat.le_refl _), rfl, fun ys hy => by rw [I.tuple_inj hy hq]; exact hx⟩, ⟨⟨y, ?_⟩, hst'.1.at fun o q => (sb.2 it (Ne.symm hne)).trans q, hne⟩, fun b hb => ?_⟩
    · have e1 : ((i + 1 : Nat) : Int) = (i : Int) + 1 := by omega
      rw [e1]; exact he'
    · have hb' : b < s.heap.objs.size := by
        have e' : b = e ∨ b = it := by simpa using hb
        rcases e' with z | z
        · rw [z]; exact hel
        · rw [z]; exact hil
      rw [upd_ne (Nat.ne_of_lt hb')]
      exact (hf b hb).1
  done := by
    intro X hP hw hK hc i pins s σ H E I hf st hg
    subst hP hw hK
    obtain ⟨⟨old, he⟩, hit, hne⟩ := st
    obtain ⟨xs, hq, hx⟩ := hg
    obtain ⟨its, rv, p, hz⟩ := I.tuple hq
    have pt : s.heap.IsTuple a its.toArray := p
    have nai : a ≠ it := fun z => by
      obtain ⟨o1, q1, c1, _⟩ := hit
      obtain ⟨o2, q2, c2, _⟩ := pt
      rw [z, q1] at q2
      cases q2
      rw [c1] at c2
      exact absurd c2 (by simp)
    obtain ⟨f0, f1, f2, f3, f4, f5⟩ := hf it (by simp)
    have hl := rv.length
    have en : i = its.toArray.size := by
      rw [List.size_toArray]
      omega
    subst en
    exact wpAny_pyNext_enum_endD (Draws.tuple (A := X.A.in1) (I.ok.hd hc) it a nai its.toArray) he ⟨hit, pt⟩ fun h' eb => ⟨rfl, I.turned (t' := s.toks) (fun b o hb q => eb b o hb q) f0 f1 f3 f4 f5⟩
  self := fun A i s Q E st h => let ⟨⟨_, he⟩, _⟩ := st; wpAny_pyIter_enum he h
end SoE
set_option Elab.async false
set_option linter.all false
set_option maxRecDepth 100000
set_option maxHeartbeats 4000000
namespace SoM
open PySem PySem.Spec PyProof.Rows L2
end SoM
set_option Elab.async false
set_option linter.all false
set_option maxRecDepth 100000
set_option maxHeartbeats 4000000
namespace Da
open PySem PySem.Spec PyProof.Rows L2 So Dl
theorem pe_weak {X : Cx} {e : Expr} {t t' : TE} (h : PE X e t) (i : ∀ σ H Q, t' σ H Q → t σ H Q) : PE X e t' := ⟨fun pins s σ H Q I q => h.run pins s σ H Q I (i σ H Q q)⟩
theorem pt_weak {X : Cx} {e : Expr} {t t' : TT} (h : PT X e t) (i : ∀ σ H Q, t' σ H Q → t σ H Q) : PT X e t' := ⟨fun pins s σ H Q I q => h.run pins s σ H Q I (i σ H Q q)⟩
theorem pw_weak {X : Cx} {e : Expr} {t t' : TT} (h : PW X e t) (i : ∀ σ H Q, t' σ H Q → t σ H Q) : PW X e t' := ⟨fun wh pins s σ H Q I q => h.run wh pins s σ H Q I (i σ H Q q)⟩
theorem pa_weak {X : Cx} {es : List Expr} {t t' : TA} (h : PA X es t) (i : ∀ σ H Q, t' σ H Q → t σ H Q) : PA X es t' := ⟨fun pos pins s σ H Q I q => h.run pos pins s σ H Q I (i σ H Q q)⟩
theorem ps_weak {X : Cx} {e : Stmt} {t t' : TS} (h : PS X e t) (i : ∀ D σ H, t' D σ H → t D σ H) : PS X e t' := ⟨fun pins s σ H D I q => h.run pins s σ H D I (i D σ H q)⟩
theorem pss_weak {X : Cx} {e : List Stmt} {t t' : TS} (h : PSs X e t) (i : ∀ D σ H, t' D σ H → t D σ H) : PSs X e t' := ⟨fun pins s σ H D I q => h.run pins s σ H D I (i D σ H q)⟩
def Sq (K : PySem.W.Frag) (H : Hp) (a : Addr) (xs : List V) : Prop := SqT K H a xs ∨ SqL K H a xs
theorem Sq.ext {K : PySem.W.Frag} {H H' : Hp} {a : Addr} {xs : List V} (s : LamX.ExtN H H') (h : Sq K H a xs) : Sq K H' a xs := h.elim (fun h => .inl (sqt_ext s h)) (fun h => .inr (sql_ext s h))
def tnD : PyData → String
  | .none => "NoneType"
  | .bool _ => "bool"
  | .int _ => "int"
  | .str _ => "str"
  | .list _ => "list"
  | .tuple _ => "tuple"
  | .dict _ => "dict"
/-- no dict, no function -/
def nd : PyData → Bool
  | .dict _ => false
  | _ => true
def isSq : PyData → Bool
  | .list _ => true
  | .tuple _ => true
  | _ => false
def itD : PyData → List PyData
  | .list xs => xs
  | .tuple xs => xs
  | _ => []
def intB : PyData → Bool
  | .int _ => true
  | .bool _ => true
  | _ => false
def blB : PyData → Bool
  | .bool _ => true
  | _ => false
mutual
/-- no text, no row is longer than this -/
def fitD : PyData → Bool
  | .str z => decide (z.length ≤ 100000)
  | .list xs => decide (xs.length ≤ 100000) && fitA xs
  | .tuple xs => decide (xs.length ≤ 100000) && fitA xs
  | .dict _ => false
  | _ => true
def fitA : List PyData → Bool
  | [] => true
  | x :: xs => fitD x && fitA xs
end
/-- data as it is handed to the program -/
structure OkD (D : PyData) : Prop where
  fit : fitD D = true
  lay : D.canLay0 = true
  dep : D.depth ≤ 50
theorem OkD.sh {D : PyData} (h : OkD D) : SeqAt.shaped D = true := by
  unfold SeqAt.shaped
  rw [h.lay, decide_eq_true (Nat.le_trans h.dep (by decide))]
  rfl
section
variable {K : Zw} {H H' : Hp} {v : V} {D : PyData}
theorem tyT {p : Addr} {xs : List V} (h : SqT K.K H p xs) : TyX K.K H (.ref p) (.type "tuple") := by
  rcases h with (h | ⟨o, h⟩) | ⟨o, its, n, h, c, _⟩
  · exact .base (.tup h)
  · exact .fTuple h
  · exact .kTuple h c
theorem tyLL {p : Addr} {xs : List V} (h : SqL K.K H p xs) : TyX K.K H (.ref p) (.type "list") := by
  rcases h with (h | ⟨o, h⟩) | ⟨o, its, n, h, c, _⟩
  · exact .base (.lst h)
  · exact .base (.frz h)
  · exact .kList h c
theorem tyD (n : nd D = true) (h : Dw K H v D) : TyX K.K H v (.type (tnD D)) := by
  cases h with
  | non => exact .base .non
  | bl b => exact .base (.bl b)
  | int b => exact .base (.int b)
  | str b => exact .base (.str b)
  | lst h _ => exact tyLL h
  | tup h _ => exact tyT h
  | dic _ _ => exact nomatch n
  | clo _ _ => exact nomatch n
theorem dp_seq (h : Dw K H v D) (e : isSq D = true) : ∃ a xs, v = .ref a ∧ Sq K.K H a xs ∧ DwAll K H xs (itD D) := by
  cases h with
  | lst h g => exact ⟨_, _, rfl, .inr h, g⟩
  | tup h g => exact ⟨_, _, rfl, .inl h, g⟩
  | non => exact nomatch e
  | bl b => exact nomatch e
  | int b => exact nomatch e
  | str b => exact nomatch e
  | dic _ _ => exact nomatch e
  | clo _ _ => exact nomatch e
theorem kit_sq (n : nd D = true) : PySem.W.kitAny K.K (.type (tnD D)) [.type "list", .type "tuple"] = some (isSq D) := by
  have no : ∀ {t : String}, kitB t "list" = some false → kitB t "tuple" = some false → PySem.W.kitAny K.K (.type t) [.type "list", .type "tuple"] = some false := fun a b =>
    kitAny_cons (kit_ty a) (fun _ => kitAny_cons (kit_ty b) (fun _ => rfl) (fun q => nomatch q)) (fun q => nomatch q)
  cases D with
  | list _ => exact kitAny_cons (b := true) (kit_ty (show kitB "list" "list" = some true by decide +kernel)) (fun q => nomatch q) (fun _ => rfl)
  | tuple _ => exact kitAny_cons (b := false) (kit_ty (show kitB "tuple" "list" = some false by decide +kernel)) (fun _ => kitAny_cons (b := true) (kit_ty (show kitB "tuple" "tuple" = some true by decide +kernel)) (fun q => nomatch q) fun _ => rfl) (fun q => nomatch q)
  | none => exact no (t := "NoneType") (by decide +kernel) (by decide +kernel)
  | bool b => exact no (t := "bool") (by decide +kernel) (by decide +kernel)
  | int b => exact no (t := "int") (by decide +kernel) (by decide +kernel)
  | str b => exact no (t := "str") (by decide +kernel) (by decide +kernel)
  | dict b => exact nomatch n
theorem kit_int (n : nd D = true) : PySem.W.kitOne K.K (.type (tnD D)) (.type "int") = some (intB D) := by
  cases D with
  | none => exact kit_ty (show kitB "NoneType" "int" = some false by decide +kernel)
  | bool _ => exact kit_ty (show kitB "bool" "int" = some true by decide +kernel)
  | int _ => exact kit_ty (show kitB "int" "int" = some true by decide +kernel)
  | str _ => exact kit_ty (show kitB "str" "int" = some false by decide +kernel)
  | list _ => exact kit_ty (show kitB "list" "int" = some false by decide +kernel)
  | tuple _ => exact kit_ty (show kitB "tuple" "int" = some false by decide +kernel)
  | dict b => exact nomatch n
theorem kit_bool (n : nd D = true) : PySem.W.kitOne K.K (.type (tnD D)) (.type "bool") = some (blB D) := by
  cases D with
  | none => exact kit_ty (show kitB "NoneType" "bool" = some false by decide +kernel)
  | bool _ => exact kit_ty (show kitB "bool" "bool" = some true by decide +kernel)
  | int _ => exact kit_ty (show kitB "int" "bool" = some false by decide +kernel)
  | str _ => exact kit_ty (show kitB "str" "bool" = some false by decide +kernel)
  | list _ => exact kit_ty (show kitB "list" "bool" = some false by decide +kernel)
  | tuple _ => exact kit_ty (show kitB "tuple" "bool" = some false by decide +kernel)
  | dict b => exact nomatch n
theorem dpa_len : ∀ {xs : List V} {ds : List PyData}, DwAll K H xs ds → xs.length = ds.length
  | _, _, .nil => rfl
  | _, _, .cons _ h => congrArg Nat.succ (dpa_len h)
theorem dpa_at : ∀ {xs : List V} {ds : List PyData} {i : Nat} {x : V}, DwAll K H xs ds → xs[i]? = some x → ∃ d, ds[i]? = some d ∧ Dw K H x d
  | _, _, _, _, .nil, e => nomatch e
  | _, _, 0, _, .cons h _, e => by
    cases e
    exact ⟨_, rfl, h⟩
  | _, _, i + 1, x, .cons _ h, e => by
    obtain ⟨d, h1, h2⟩ := dpa_at (i := i) h (by simpa using e)
    exact ⟨d, by simpa using h1, h2⟩
theorem dpa_at' : ∀ {xs : List V} {ds : List PyData} {i : Nat} {d : PyData}, DwAll K H xs ds → ds[i]? = some d → ∃ x, xs[i]? = some x ∧ Dw K H x d
  | _, _, _, _, .nil, e => nomatch e
  | _, _, 0, _, .cons h _, e => by
    cases e
    exact ⟨_, rfl, h⟩
  | _, _, i + 1, x, .cons _ h, e => by
    obtain ⟨d, h1, h2⟩ := dpa_at' (i := i) h (by simpa using e)
    exact ⟨d, by simpa using h1, h2⟩
theorem dpa_app : ∀ {xs ys : List V} {ds es : List PyData}, DwAll K H xs ds → DwAll K H ys es → DwAll K H (xs ++ ys) (ds ++ es)
  | _, _, _, _, .nil, h => h
  | _, _, _, _, .cons a b, h => .cons a (dpa_app b h)
theorem Dw.xt (x : ∀ b o, H b = some o → H' b = some o) (h : Dw K H v D) : Dw K H' v D := h.ext (LamX.ExtN.of x)
theorem DwAll.xt {vs : List V} {Ds : List PyData} (x : ∀ b o, H b = some o → H' b = some o) (h : DwAll K H vs Ds) : DwAll K H' vs Ds := h.ext (LamX.ExtN.of x)
end
/-- a value's type; dicts by their entries and functions, too -/
def TyY (K : PySem.W.Frag) (H : Hp) (x : V) (t : Value) : Prop := TyX K H x t ∨ (∃ a es, x = .ref a ∧ H a = some (DicO a es) ∧ t = .type "dict") ∨ ∃ a, x = .ref a ∧ (∃ φ : Heap → Prop, H a = some (.ext φ) ∧ ∀ h, φ h → ∃ o, h.get? a = some o ∧ o.cls = .type "function") ∧ t = .type "function"
theorem kit_ofY {X : Cx} {pins : List (Addr × Obj)} {σ : L2.St} {H : Hp} {s : Shared} {x : V} {u t : Value} (I : Inv X pins σ H s) (rx : RelV x u) (ty : TyY X.K H x t) : ∃ P : Heap → Prop, PySem.W.KitX X.K u t P ∧ P s.heap ∧ u ≠ .builtin "__main__.__loader__#opaque" := by
  rcases ty with h | ⟨a, es, rfl, e, rfl⟩ | ⟨a, rfl, ⟨φ, e, k⟩, rfl⟩
  · exact kit_of I rx h
  · cases (show u = Value.ref a from rx)
    obtain ⟨⟨ep, o, h1, h2, _⟩, _⟩ := I.hok a _ e
    exact ⟨_, PySem.W.kitx_dict, ⟨o, h1, h2.1⟩, fun z => nomatch z⟩
  · cases (show u = Value.ref a from rx)
    obtain ⟨z, _⟩ := I.hok a _ e
    exact ⟨_, PySem.W.kitx_fn, k _ z, fun z => nomatch z⟩
def rIsY (K : PySem.W.Frag) : List V → Hp → VK → Prop := fun xs H Q => ∃ (x c : V) (t u : Value) (b : Bool), xs = [x, c] ∧ ClsV c u ∧ TyY K H x t ∧ PySem.W.kitOne K t u = some b ∧ Q (.bl b) H
def rIsYT (K : PySem.W.Frag) : List V → Hp → VK → Prop := fun xs H Q => ∃ (x : V) (tp : Addr) (cs : List V) (t : Value) (us : List Value) (b : Bool), xs = [x, .ref tp] ∧ H tp = some (.tup cs) ∧ Paired ClsV cs us ∧ TyY K H x t ∧ PySem.W.kitAny K t us = some b ∧ Q (.bl b) H
theorem call_isY {X : Cx} : CallR X (.builtin "isinstance") (rIsY X.K) := by
  intro pins s σ H xs us Q I r h
  obtain ⟨x, c, t, u, b, rfl, cv, ty, e, q⟩ := h
  match us, r with
  | [w1, w2], .cons r1 (.cons r2 .nil) =>
    cases cv.eq r2
    obtain ⟨P, kx, p, ne⟩ := kit_ofY I r1 ty
    exact PySem.W.kia_one kx I.kIn p e ne fun tk => ⟨.bl b, H, I.tok tk, rfl, q⟩
theorem call_isYT {X : Cx} : CallR X (.builtin "isinstance") (rIsYT X.K) := by
  intro pins s σ H xs us Q I r h
  obtain ⟨x, tp, cs, t, ws, b, rfl, ht, cv, ty, e, q⟩ := h
  match us, r with
  | [w1, w2], .cons r1 (.cons r2 .nil) =>
    obtain rfl : w2 = Value.ref tp := r2
    obtain ⟨P, kx, p, ne⟩ := kit_ofY I r1 ty
    obtain ⟨_, its, rv, o, g1, g2, n, g3⟩ := (show ObjOk X.prog X.w H s.heap tp (.tup cs) from I.hok tp _ ht)
    cases ClsV.all cv rv
    obtain ⟨oc, od, dt, sl⟩ := o
    dsimp only at g2 g3
    subst g2 g3
    exact PySem.W.kia_tup kx I.kIn p g1 e ne fun tk => ⟨.bl b, H, I.tok tk, rfl, q⟩
/-- a kind of value: which data is of it; no dict, no function -/
structure KitF (T : String) (kf : PyData → Bool) : Prop where
  nd : ∀ {K : Zw} {D : PyData}, nd D = true → PySem.W.kitOne K.K (.type (tnD D)) (.type T) = some (kf D)
  dic : ∀ K : PySem.W.Frag, PySem.W.kitOne K (.type "dict") (.type T) = some false
  fn : ∀ K : PySem.W.Frag, PySem.W.kitOne K (.type "function") (.type T) = some false
  no : ∀ kvs, kf (.dict kvs) = false
theorem kitf_int : KitF "int" intB := ⟨fun h => kit_int h, fun K => kit_ty (by decide +kernel), fun K => kit_ty (by decide +kernel), fun _ => rfl⟩
theorem kitf_bool : KitF "bool" blB := ⟨fun h => kit_bool h, fun K => kit_ty (by decide +kernel), fun K => kit_ty (by decide +kernel), fun _ => rfl⟩
/-- the type of data, and what it is not -/
theorem tyAll {K : Zw} {H : Hp} {v : V} {D : PyData} {T : String} {kf : PyData → Bool} (k : KitF T kf) (h : Dw K H v D) : ∃ t, TyY K.K H v t ∧ PySem.W.kitOne K.K t (.type T) = some (kf D) := by
  cases h with
  | dic e q => exact ⟨_, .inr (.inl ⟨_, _, rfl, e, rfl⟩), by rw [k.no]; exact k.dic _⟩
  | clo c q =>
    obtain ⟨sc, cl, cc, _, e, _⟩ := c.ex
    obtain ⟨φ, e1, e2⟩ := funO_cls sc _ (sc.nf cl cc)
    rw [e1] at e
    exact ⟨_, .inr (.inr ⟨_, rfl, ⟨φ, e, e2⟩, rfl⟩), by unfold cloD; rw [k.no]; exact k.fn _⟩
  | non => exact ⟨_, .inl (tyD rfl .non), k.nd (K := K) rfl⟩
  | bl b => exact ⟨_, .inl (tyD rfl (.bl b)), k.nd (K := K) rfl⟩
  | int b => exact ⟨_, .inl (tyD rfl (.int b)), k.nd (K := K) rfl⟩
  | str b => exact ⟨_, .inl (tyD rfl (.str b)), k.nd (K := K) rfl⟩
  | lst y z => exact ⟨_, .inl (tyD rfl (.lst y z)), k.nd (K := K) rfl⟩
  | tup y z => exact ⟨_, .inl (tyD rfl (.tup y z)), k.nd (K := K) rfl⟩
theorem tySeq {K : Zw} {H : Hp} {v : V} {D : PyData} (h : Dw K H v D) : ∃ t, TyY K.K H v t ∧ PySem.W.kitAny K.K t [.type "list", .type "tuple"] = some (isSq D) := by
  have no : ∀ {t : String}, kitB t "list" = some false → kitB t "tuple" = some false → PySem.W.kitAny K.K (.type t) [.type "list", .type "tuple"] = some false := fun a b =>
    kitAny_cons (kit_ty a) (fun _ => kitAny_cons (kit_ty b) (fun _ => rfl) (fun q => nomatch q)) (fun q => nomatch q)
  by_cases n : nd D = true
  · exact ⟨_, .inl (tyD n h), kit_sq (K := K) n⟩
  · cases h with
    | dic e q => exact ⟨_, .inr (.inl ⟨_, _, rfl, e, rfl⟩), no (t := "dict") (by decide +kernel) (by decide +kernel)⟩
    | clo c q =>
      obtain ⟨sc, cl, cc, _, e, _⟩ := c.ex
      obtain ⟨φ, e1, e2⟩ := funO_cls sc _ (sc.nf cl cc)
      rw [e1] at e
      exact ⟨_, .inr (.inr ⟨_, rfl, ⟨φ, e, e2⟩, rfl⟩), no (t := "function") (by decide +kernel) (by decide +kernel)⟩
    | _ => exact absurd rfl n
end Da
set_option Elab.async false
set_option linter.all false
set_option maxRecDepth 100000
set_option maxHeartbeats 4000000
namespace Dl
open PySem PySem.Spec PyProof.Rows L2 So Da
/-- an answer, or an error: its class, what it bears -/
inductive Out where
  | told (D : PyData)
  | err (C : Addr) (D : PyData)
/-- what a call comes to, by its arguments: what is wished of its outcome -/
abbrev LW := List PyData → (Out → Prop) → Prop
/-- what a captured name holds: data, a function and the level of its calls -/
inductive Cp where
  | dat (D : PyData)
  | fn (k : Nat) (W : LW)
  | bx
/-- .. by what its captured names hold -/
abbrev LW2 := List Cp → LW
/-- a function: whatever it leans on stands for good; or it leans on the cells of slots of the running def -/
inductive Fk where
  | fn (k : Nat) (W : LW)
  | lam (ca : Nat → Addr) (js : List Nat) (W : LW2)
  | bx
/-- what an owned object holds -/
inductive Oc where
  | lst (ds : List PyData)
  | box
  | dic (kvs : List (PyData × PyData))
  | lams (ca : Nat → Addr) (ls : List (List Nat × LW2))
/-- a slot: nothing known, data that stands for good, an object of one's own, an error that was caught, a function -/
inductive Lc where
  | un
  | sh (D : PyData)
  | ob (a : Addr) (c : Oc)
  | exc (a C d : Addr) (D : PyData)
  | ask (O : Fk)
abbrev Sto := List Lc
/-- an error's own dict -/
def Xd (K : Zw) (C : Addr) (H : Hp) (d : Addr) (v : V) : Prop := H d = some (.xd [(K.T.an C, v)])
/-- all that G knows stands in H -/
def Sub (G H : Hp) : Prop := ∀ b o, G b = some o → H b = some o
/-- a tuple of texts stands in the ground only where its object is known, and has no attributes of its own -/
def txV (xs : List V) : Bool := !xs.isEmpty && xs.all fun x => match x with
  | .str _ => true
  | _ => false
def NTo : HO → Prop
  | .tup xs => txV xs = false
  | .frz ob (.tup _) => ob.dict = none
  | _ => True
def NT (G : Hp) : Prop := ∀ p o, G p = some o → NTo o
theorem NT.upd {G : Hp} {p : Addr} {o : HO} (h : NT G) (k : NTo o) : NT (upd G p o) := fun b u e => by
  by_cases q : b = p
  · rw [q, upd_same] at e
    cases e
    exact k
  · rw [upd_ne q] at e
    exact h b u e
/-- what is wished behind a call -/
def spAsk (K : Zw) : Out → Hp → VK → XK → Prop
  | .told D, G, Q, _ => ∀ v G' H', Ex K.T G G' → Sub G' H' → NT G' → Dw K G' v D → Q v H'
  | .err C D, G, _, E => ∀ d v G' H', Ex K.T G G' → Sub G' H' → NT G' → Xd K C G' d v → Dw K G' v D → E (.ref C) (some d) H'
/-- lambdas stand at this level -/
def aL : Nat := 60
def FnT (K : PySem.W.Frag) (G : Hp) (f : Addr) : Prop := (∃ φ : Heap → Prop, G f = some (.ext φ) ∧ ∀ h, φ h → PySem.W.FnAt f h) ∨ ∀ h, K.In h → PySem.W.FnAt f h
theorem FnT.ext {K : PySem.W.Frag} {G G' : Hp} {f : Addr} (x : LamX.ExtN G G') (h : FnT K G f) : FnT K G' f := by
  refine h.imp_left fun h => ?_
  obtain ⟨φ, e, q⟩ := h
  exact ⟨φ, x _ _ e (fun _ z => nomatch z), q⟩
/-- a function at f, wherever it is called -/
structure AskOk (K : Zw) (G : Hp) (f : Addr) (k : Nat) (W : LW) : Prop where
  fn : FnT K.K G f
  run : ∀ (A : Around) (outer : List Env) (s : Shared) (H G1 : Hp) (us : List Value) (vs : List V) (Ds : List PyData) (R : Out → Prop) (Q : VK) (E : XK), Room k A → A.guards = some [] → Env0 K.Pg K.w K.K K.mg K.base A outer s H → Ex K.T G G1 → Sub G1 H → NT G1 → Vals vs us → DwAll K G1 vs Ds → W Ds R → (∀ o, R o → spAsk K o G1 Q E) →
    codeAny (model K.Pg K.w) A (.call (.ref f) ⟨us, []⟩) (CR (L2.CX K.Pg K.w) outer K.Pg K.w H s Q E) s
theorem AskOk.mono {K : Zw} {G G' : Hp} {f : Addr} {k : Nat} {W : LW} (s : Ex K.T G G') (h : AskOk K G f k W) : AskOk K G' f k W := ⟨h.fn.ext s.1, fun A outer s1 H G1 us vs Ds R Q E hr hg e0 x sub nt r d q k => h.run A outer s1 H G1 us vs Ds R Q E hr hg e0 (s.trans x) sub nt r d q k⟩
/-- two numbers, whichever they are -/
def BxP (b : Addr) (h : Heap) : Prop := ∃ (g s : Int) (t u : Tok) (n : Nat), h.get? b = some { cls := .type "list", data := .seq #[.int g t, .int s u] n } ∧ 0 ≤ g ∧ 0 ≤ s ∧ s ≤ 2147483648
def BxO (b : Addr) : HO := .ext (BxP b)
def CpOk (K : Zw) (G : Hp) (v : V) : Cp → Prop
  | .dat D => Dw K G v D
  | .fn k W => ∃ f, v = .ref f ∧ AskOk K G f k W
  | .bx => ∃ b, v = .ref b ∧ G b = some (BxO b)
theorem CpOk.mono {K : Zw} {G G' : Hp} {v : V} (s : Ex K.T G G') : ∀ {c : Cp}, CpOk K G v c → CpOk K G' v c
  | .dat _, h => Dw.mono s h
  | .fn _ _, ⟨f, e, h⟩ => ⟨f, e, h.mono s⟩
  | .bx, ⟨b, e, h⟩ => ⟨b, e, s.1 _ _ h (fun _ z => nomatch z)⟩
/-- what untracked cells hold -/
def CellsU (K : Zw) (G : Hp) (h : Heap) (H : Hp) : List Addr → List Cp → Prop
  | [], [] => True
  | a :: as, c :: cs => (H a = none ∧ ∃ v u, h.IsCell a (some u) ∧ RelV v u ∧ CpOk K G v c) ∧ CellsU K G h H as cs
  | _, _ => False
/-- .. by what the cells at as hold -/
structure LamOk (K : Zw) (G : Hp) (f : Addr) (k : Nat) (as : List Addr) (W : LW2) : Prop where
  fn : FnT K.K G f
  run : ∀ (A : Around) (outer : List Env) (s : Shared) (H G1 : Hp) (us : List Value) (vs : List V) (Ds : List PyData) (cs : List Cp) (R : Out → Prop) (Q : VK) (E : XK), Room k A → A.guards = some [] → Env0 K.Pg K.w K.K K.mg K.base A outer s H → Ex K.T G G1 → Sub G1 H → NT G1 → CellsU K G1 s.heap H as cs → Vals vs us → DwAll K G1 vs Ds → W cs Ds R → (∀ o, R o → spAsk K o G1 Q E) →
    codeAny (model K.Pg K.w) A (.call (.ref f) ⟨us, []⟩) (CR (L2.CX K.Pg K.w) outer K.Pg K.w H s Q E) s
theorem LamOk.mono {K : Zw} {G G' : Hp} {f : Addr} {k : Nat} {as : List Addr} {W : LW2} (s : Ex K.T G G') (h : LamOk K G f k as W) : LamOk K G' f k as W := ⟨h.fn.ext s.1, fun A outer s1 H G1 us vs Ds cs R Q E hr hg e0 x sub nt c r d q kk => h.run A outer s1 H G1 us vs Ds cs R Q E hr hg e0 (s.trans x) sub nt c r d q kk⟩
def FkOk (K : Zw) (G : Hp) (f : Addr) : Fk → Prop
  | .fn k W => AskOk K G f k W
  | .lam ca js W => LamOk K G f aL (js.map ca) W
  | .bx => G f = some (BxO f)
theorem FkOk.mono {K : Zw} {G G' : Hp} {f : Addr} (s : Ex K.T G G') : ∀ {O : Fk}, FkOk K G f O → FkOk K G' f O
  | .fn _ _, h => AskOk.mono s h
  | .lam _ _ _, h => LamOk.mono s h
  | .bx, h => s.1 _ _ h (fun _ z => nomatch z)
theorem FkOk.fnT {K : Zw} {G : Hp} {f : Addr} {k : Nat} {W : LW} (h : FkOk K G f (.fn k W)) : FnT K.K G f := AskOk.fn h
def OcOk (K : Zw) (G : Hp) (a : Addr) : Oc → HO → Prop
  | .lst ds, o => ∃ vs, o = .lst vs ∧ DwAll K G vs ds
  | .box, o => ∃ g s : Int, o = .lst [.int g, .int s] ∧ 0 ≤ g ∧ 0 ≤ s ∧ s ≤ 2147483648
  | .dic kvs, o => ∃ es, o = DicO a es ∧ DwKV K G es.toList kvs ∧ kvs.length ≤ sizeLine
  | .lams ca ls, o => ∃ vs, o = .lst vs ∧ Paired (fun v (l : List Nat × LW2) => ∃ f, v = V.ref f ∧ LamOk K G f aL (l.1.map ca) l.2) vs ls
theorem paired_imp {α β : Type} {p q : α → β → Prop} (h : ∀ a b, p a b → q a b) : ∀ {l : List α} {m : List β}, Paired p l m → Paired q l m
  | _, _, .nil => .nil
  | _, _, .cons a b => .cons (h _ _ a) (paired_imp h b)
theorem OcOk.mono {K : Zw} {G G' : Hp} {a : Addr} (s : Ex K.T G G') : ∀ {c : Oc} {o : HO}, OcOk K G a c o → OcOk K G' a c o
  | .lst _, _, ⟨vs, e, d⟩ => ⟨vs, e, d.mono s⟩
  | .box, _, h => h
  | .dic _, _, ⟨es, e, d, l⟩ => ⟨es, e, d.ext s.1, l⟩
  | .lams _ _, _, ⟨vs, e, d⟩ => ⟨vs, e, paired_imp (fun _ _ ⟨f, e, m⟩ => ⟨f, e, m.mono s⟩) d⟩
theorem OcOk.lcl {K : Zw} {G : Hp} {a : Addr} : ∀ {c : Oc} {o : HO}, OcOk K G a c o → Lcl o
  | .lst _, _, ⟨vs, e, _⟩ => e ▸ lcl_lst
  | .box, _, ⟨_, _, e, _⟩ => e ▸ lcl_lst
  | .dic _, _, ⟨_, e, _⟩ => e ▸ lcl_ext
  | .lams _ _, _, ⟨_, e, _⟩ => e ▸ lcl_lst
def Owns (ρ : Sto) (a : Addr) : Prop := ∃ (i : Nat) (c : Oc), ρ[i]? = some (.ob a c)
structure Rep (K : Zw) (F : List (Addr × HO)) (G : Hp) (ρ : Sto) (σ : L2.St) (H : Hp) : Prop where
  len : σ.length = ρ.length
  sh : ∀ {i : Nat} {D : PyData}, ρ[i]? = some (.sh D) → ∃ v, σ[i]? = some (some v) ∧ Dw K G v D
  ob : ∀ {i : Nat} {a : Addr} {c : Oc}, ρ[i]? = some (.ob a c) → σ[i]? = some (some (.ref a)) ∧ G a = none ∧ ∃ o, H a = some o ∧ OcOk K G a c o
  exc : ∀ {i : Nat} {a C d : Addr} {D : PyData}, ρ[i]? = some (.exc a C d D) → σ[i]? = some (some (.ref a)) ∧ ∃ v, Xd K C G d v ∧ Dw K G v D
  ask : ∀ {i : Nat} {O : Fk}, ρ[i]? = some (.ask O) → ∃ f, σ[i]? = some (some (.ref f)) ∧ FkOk K G f O
  uniq : ∀ {i j : Nat} {a : Addr} {c c' : Oc}, ρ[i]? = some (.ob a c) → ρ[j]? = some (.ob a c') → i = j
  ex : ∀ {a : Addr} {o : HO}, (a, o) ∈ F → H a = some o ∧ G a = none ∧ ¬ Owns ρ a ∧ Lcl o
  sub : Sub G H
  nt : NT G
/-- what a slot says of what stands for good -/
def LcOk (K : Zw) (G : Hp) (x : Option V) : Lc → Prop
  | .un => True
  | .sh D => ∃ v, x = some v ∧ Dw K G v D
  | .ob _ _ => False
  | .exc a C d D => x = some (.ref a) ∧ ∃ v, Xd K C G d v ∧ Dw K G v D
  | .ask O => ∃ f, x = some (.ref f) ∧ FkOk K G f O
theorem LcOk.mono {K : Zw} {G G' : Hp} {x : Option V} (s : Ex K.T G G') : ∀ {lc : Lc}, LcOk K G x lc → LcOk K G' x lc
  | .un, _ => trivial
  | .sh _, ⟨v, e, d⟩ => ⟨v, e, d.mono s⟩
  | .exc _ _ _ _, ⟨e, v, d, q⟩ => ⟨e, v, s.1 _ _ d (fun _ z => nomatch z), q.mono s⟩
  | .ask _, ⟨f, e, q⟩ => ⟨f, e, q.mono s⟩
/-- the objects of one's own stay where they are, in the first n slots -/
def Alike (n : Nat) (ρ ρ' : Sto) : Prop := ∀ (i : Nat) (a : Addr) (c : Oc), i < n → ρ[i]? = some (.ob a c) → ∃ c', ρ'[i]? = some (.ob a c')
theorem Alike.refl {n : Nat} {ρ : Sto} : Alike n ρ ρ := fun _ _ c _ h => ⟨c, h⟩
theorem Alike.trans {n : Nat} {ρ ρ1 ρ2 : Sto} (a : Alike n ρ ρ1) (b : Alike n ρ1 ρ2) : Alike n ρ ρ2 := fun i x c hi h => by
  obtain ⟨c', h'⟩ := a i x c hi h
  exact b i x c' hi h'
theorem set_get {α : Type} {l : List α} {i j : Nat} {x y : α} (e : (l.set i x)[j]? = some y) : (j = i ∧ y = x ∧ i < l.length) ∨ (j ≠ i ∧ l[j]? = some y) := by
  by_cases q : j = i
  · subst q
    rw [List.getElem?_set] at e
    simp only [if_pos] at e
    split at e
    · rename_i h
      cases e
      exact .inl ⟨rfl, rfl, h⟩
    · cases e
  · rw [List.getElem?_set_ne (Ne.symm q)] at e
    exact .inr ⟨q, e⟩
section
variable {K : Zw} {G G' H H' : Hp} {ρ : Sto} {σ : L2.St} {v : V} {D : PyData} {i : Nat} {a p : Addr} {F : List (Addr × HO)} {lc : Lc}
theorem Rep.tab (R : Rep K F G ρ σ H) (t : Tg G K.T) : Tg H K.T := t.ext R.sub
theorem Rep.sm (R : Rep K F G ρ σ H) (t : Tg G K.T) : Ex K.T G H := Ex.of t R.sub
theorem Rep.dp (R : Rep K F G ρ σ H) (d : Dw K G v D) : Dw K H v D := Da.Dw.xt R.sub d
theorem Rep.xt (R : Rep K F G ρ σ H) : LamX.ExtN G H := LamX.ExtN.of R.sub
theorem Rep.lt (R : Rep K F G ρ σ H) (h : ρ[i]? = some lc) : i < σ.length := by
  rw [R.len]
  exact (List.getElem?_eq_some_iff.mp h).1
theorem Rep.gnone (R : Rep K F G ρ σ H) (h : H p = none) : G p = none := by
  cases e : G p with
  | none => rfl
  | some u => rw [R.sub p u e] at h; cases h
/-- the ground grows -/
theorem Rep.grow0 (R : Rep K F G ρ σ H) (s : Ex K.T G G') (free : ∀ {i : Nat} {a : Addr} {c : Oc}, ρ[i]? = some (Lc.ob a c) → G' a = none) (exf : ∀ {a : Addr} {o : HO}, (a, o) ∈ F → G' a = none) (sub : ∀ b o, G' b = some o → H b = some o) (nt : NT G') : Rep K F G' ρ σ H := by
  refine ⟨R.len, fun e => ?_, fun e => ?_, fun e => ?_, fun e => ?_, R.uniq, fun m => ⟨(R.ex m).1, exf m, (R.ex m).2.2⟩, sub, nt⟩
  · obtain ⟨v, h1, h2⟩ := R.sh e
    exact ⟨v, h1, h2.mono s⟩
  · obtain ⟨h1, h2, u, h3, h4⟩ := R.ob e
    exact ⟨h1, free e, u, h3, h4.mono s⟩
  · obtain ⟨h1, v, h2, h3⟩ := R.exc e
    exact ⟨h1, v, s.1 _ _ h2 (fun _ z => nomatch z), h3.mono s⟩
  · obtain ⟨f, h1, h2⟩ := R.ask e
    exact ⟨f, h1, h2.mono s⟩
/-- a new object, known for good -/
theorem Rep.new {o : HO} (t : Tg G K.T) (R : Rep K F G ρ σ H) (h : H p = none) (nt : NTo o) : G p = none ∧ Rep K F (upd G p o) ρ σ (upd H p o) := by
  have gp := R.gnone h
  have np : ∀ {b o'}, H b = some o' → b ≠ p := fun e => ne_of_none e h
  have s : Ex K.T G (upd G p o) := Ex.new t gp
  refine ⟨gp, R.len, fun e => ?_, fun e => ?_, fun e => ?_, fun e => ?_, R.uniq, fun {b u} m => ?_, fun b u e => ?_, R.nt.upd nt⟩
  · obtain ⟨v, h1, h2⟩ := R.sh e
    exact ⟨v, h1, h2.mono s⟩
  · obtain ⟨h1, h2, u, h3, h4⟩ := R.ob e
    exact ⟨h1, by rw [upd_ne (np h3)]; exact h2, u, by rw [upd_ne (np h3)]; exact h3, h4.mono s⟩
  · obtain ⟨h1, v, h2, h3⟩ := R.exc e
    exact ⟨h1, v, s.1 _ _ h2 (fun _ z => nomatch z), h3.mono s⟩
  · obtain ⟨f, h1, h2⟩ := R.ask e
    exact ⟨f, h1, h2.mono s⟩
  · obtain ⟨h1, h2, h3⟩ := R.ex m
    exact ⟨by rw [upd_ne (np h1)]; exact h1, by rw [upd_ne (np h1)]; exact h2, h3⟩
  · by_cases q : b = p
    · rw [q, upd_same] at e ⊢
      exact e
    · rw [upd_ne q] at e ⊢
      exact R.sub b u e
/-- a slot set, no object of one's own in it -/
theorem Rep.setLc {x : Option V} (R : Rep K F G ρ σ H) (n : ∀ a c, ρ[i]? ≠ some (.ob a c)) (k : LcOk K G x lc) : Rep K F G (ρ.set i lc) (σ.set i x) H := by
  have no : ∀ a c, lc ≠ .ob a c := fun a c z => by
    rw [z] at k
    exact k
  have ob' : ∀ {j a c}, (ρ.set i lc)[j]? = some (.ob a c) → j ≠ i ∧ ρ[j]? = some (.ob a c) := fun {j a c} e => by
    rcases set_get e with ⟨_, z, _⟩ | h
    · exact absurd z.symm (no a c)
    · exact h
  refine ⟨by rw [List.length_set, List.length_set]; exact R.len, fun {j D'} e => ?_, fun {j a c} e => ?_, fun {j a C d D} e => ?_, fun {j O} e => ?_, fun e e' => R.uniq (ob' e).2 (ob' e').2, fun {b u} m => ⟨(R.ex m).1, (R.ex m).2.1, fun ⟨j, c, e⟩ => (R.ex m).2.2.1 ⟨j, c, (ob' e).2⟩, (R.ex m).2.2.2⟩, R.sub, R.nt⟩
  · rcases set_get e with ⟨rfl, z, l⟩ | ⟨q, e⟩
    · subst z
      obtain ⟨v, rfl, d⟩ := k
      exact ⟨v, by rw [List.getElem?_set_self (by rw [R.len]; exact l)], d⟩
    · rw [List.getElem?_set_ne (Ne.symm q)]
      exact R.sh e
  · obtain ⟨q, e⟩ := ob' e
    rw [List.getElem?_set_ne (Ne.symm q)]
    exact R.ob e
  · rcases set_get e with ⟨rfl, z, l⟩ | ⟨q, e⟩
    · subst z
      obtain ⟨rfl, d⟩ := k
      exact ⟨by rw [List.getElem?_set_self (by rw [R.len]; exact l)], d⟩
    · rw [List.getElem?_set_ne (Ne.symm q)]
      exact R.exc e
  · rcases set_get e with ⟨rfl, z, l⟩ | ⟨q, e⟩
    · subst z
      obtain ⟨f, rfl, d⟩ := k
      exact ⟨f, by rw [List.getElem?_set_self (by rw [R.len]; exact l)], d⟩
    · rw [List.getElem?_set_ne (Ne.symm q)]
      exact R.ask e
theorem Rep.set (R : Rep K F G ρ σ H) (n : ∀ a c, ρ[i]? ≠ some (.ob a c)) (d : Dw K G v D) : Rep K F G (ρ.set i (.sh D)) (σ.set i (some v)) H := R.setLc n ⟨v, rfl, d⟩
/-- nothing need be known of a slot that holds no object of one's own -/
theorem Rep.forget (R : Rep K F G ρ σ H) (n : ∀ a c, ρ[i]? ≠ some (.ob a c)) (x : Option V) : Rep K F G (ρ.set i .un) (σ.set i x) H := R.setLc n trivial
/-- a slot set to a new object of one's own -/
theorem Rep.own {o : HO} {c : Oc} (R : Rep K F G ρ σ H) (hi : i < ρ.length) (n : ∀ a c, ρ[i]? ≠ some (.ob a c)) (h : H p = none) (k : OcOk K G p c o) : Rep K F G (ρ.set i (.ob p c)) (σ.set i (some (.ref p))) (upd H p o) := by
  have np : ∀ {b o'}, H b = some o' → b ≠ p := fun e => ne_of_none e h
  have no : ∀ {j : Nat} {c' : Oc}, ρ[j]? ≠ some (Lc.ob p c') := fun {j c'} e => by
    obtain ⟨_, _, u, h3, _⟩ := R.ob e
    rw [h3] at h
    cases h
  have gp := R.gnone h
  have ob' : ∀ {j a c'}, (ρ.set i (.ob p c))[j]? = some (.ob a c') → (j = i ∧ a = p ∧ c' = c) ∨ (j ≠ i ∧ a ≠ p ∧ ρ[j]? = some (.ob a c')) := fun {j a c'} e => by
    rcases set_get e with ⟨z, z2, _⟩ | ⟨q, e⟩
    · cases z2
      exact .inl ⟨z, rfl, rfl⟩
    · exact .inr ⟨q, fun z => no (z ▸ e), e⟩
  have oth : ∀ {j : Nat} {lc' : Lc}, (ρ.set i (.ob p c))[j]? = some lc' → (∀ a c, lc' ≠ .ob a c) → j ≠ i ∧ ρ[j]? = some lc' := fun {j lc'} e m => by
    rcases set_get e with ⟨_, z, _⟩ | h
    · exact absurd z (m p c)
    · exact h
  refine ⟨by rw [List.length_set, List.length_set]; exact R.len, fun {j D'} e => ?_, fun {j a c'} e => ?_, fun {j a C d D} e => ?_, fun {j O} e => ?_, fun {j j' a c1 c2} e e' => ?_, fun {b u} m => ?_, fun b u e => ?_, R.nt⟩
  · obtain ⟨q, e⟩ := oth e (fun _ _ z => nomatch z)
    rw [List.getElem?_set_ne (Ne.symm q)]
    exact R.sh e
  · rcases ob' e with ⟨rfl, rfl, rfl⟩ | ⟨q, qa, e⟩
    · exact ⟨by rw [List.getElem?_set_self (by rw [R.len]; exact hi)], gp, o, upd_same, k⟩
    · rw [List.getElem?_set_ne (Ne.symm q), upd_ne qa]
      exact R.ob e
  · obtain ⟨q, e⟩ := oth e (fun _ _ z => nomatch z)
    rw [List.getElem?_set_ne (Ne.symm q)]
    exact R.exc e
  · obtain ⟨q, e⟩ := oth e (fun _ _ z => nomatch z)
    rw [List.getElem?_set_ne (Ne.symm q)]
    exact R.ask e
  · rcases ob' e with ⟨rfl, rfl, rfl⟩ | ⟨q, qa, e⟩
    · rcases ob' e' with ⟨rfl, _, _⟩ | ⟨_, qa, _⟩
      · rfl
      · exact absurd rfl qa
    · rcases ob' e' with ⟨_, z, _⟩ | ⟨_, _, e'⟩
      · exact absurd z qa
      · exact R.uniq e e'
  · obtain ⟨h1, h2, h3, h4⟩ := R.ex m
    refine ⟨by rw [upd_ne (np h1)]; exact h1, h2, fun ⟨j, c', e⟩ => ?_, h4⟩
    rcases ob' e with ⟨_, z, _⟩ | ⟨_, _, e⟩
    · exact np h1 z
    · exact h3 ⟨j, c', e⟩
  · rw [upd_ne (np (R.sub b u e))]
    exact R.sub b u e
/-- an object of one's own changes -/
theorem Rep.put {o : HO} {c c' : Oc} (R : Rep K F G ρ σ H) (h : ρ[i]? = some (.ob a c)) (k : OcOk K G a c' o) : Rep K F G (ρ.set i (.ob a c')) σ (upd H a o) := by
  have hi := (List.getElem?_eq_some_iff.mp h).1
  have ob' : ∀ {j b c2}, (ρ.set i (.ob a c'))[j]? = some (.ob b c2) → (j = i ∧ b = a ∧ c2 = c') ∨ (j ≠ i ∧ ρ[j]? = some (.ob b c2)) := fun {j b c2} e => by
    rcases set_get e with ⟨z, z2, _⟩ | h
    · cases z2
      exact .inl ⟨z, rfl, rfl⟩
    · exact .inr h
  have oth : ∀ {j : Nat} {lc' : Lc}, (ρ.set i (.ob a c'))[j]? = some lc' → (∀ a c, lc' ≠ .ob a c) → ρ[j]? = some lc' := fun {j lc'} e m => by
    rcases set_get e with ⟨_, z, _⟩ | h
    · exact absurd z (m a c')
    · exact h.2
  refine ⟨by rw [List.length_set]; exact R.len, fun {j D'} e => R.sh (oth e (fun _ _ z => nomatch z)), fun {j b c2} e => ?_, fun {j a C d D} e => R.exc (oth e (fun _ _ z => nomatch z)), fun {j O} e => R.ask (oth e (fun _ _ z => nomatch z)), fun {j j' b c1 c2} e e' => ?_, fun {b u} m => ?_, fun b u e => ?_, R.nt⟩
  · rcases ob' e with ⟨rfl, rfl, rfl⟩ | ⟨q, e⟩
    · exact ⟨(R.ob h).1, (R.ob h).2.1, o, upd_same, k⟩
    · have qa : b ≠ a := fun z => q (R.uniq e (z ▸ h))
      rw [upd_ne qa]
      exact R.ob e
  · rcases ob' e with ⟨z1, z2, _⟩ | ⟨_, f⟩
    · rcases ob' e' with ⟨z3, _, _⟩ | ⟨_, f'⟩
      · rw [z1, z3]
      · rw [z1]
        exact R.uniq (z2 ▸ h) f'
    · rcases ob' e' with ⟨z1, z2, _⟩ | ⟨_, f'⟩
      · rw [z1]
        exact R.uniq f (z2 ▸ h)
      · exact R.uniq f f'
  · obtain ⟨h1, h2, h3, h4⟩ := R.ex m
    have qa : b ≠ a := fun z => h3 ⟨i, c, z ▸ h⟩
    refine ⟨by rw [upd_ne qa]; exact h1, h2, fun ⟨j, c2, e⟩ => ?_, h4⟩
    rcases ob' e with ⟨_, z, _⟩ | ⟨_, e⟩
    · exact qa z
    · exact h3 ⟨j, c2, e⟩
  · rw [upd_ne (fun z => by rw [z, (R.ob h).2.1] at e; cases e)]
    exact R.sub b u e
/-- what an owned object is when it stands for good -/
def ocD : Oc → Option PyData
  | .lst ds => some (.list ds)
  | .dic kvs => some (.dict kvs)
  | _ => none
/-- an object of one's own stands for good from here on -/
theorem Rep.freeze {c : Oc} {D : PyData} (t : Tg G K.T) (R : Rep K F G ρ σ H) (h : ρ[i]? = some (.ob a c)) (hc : ocD c = some D) : ∃ G', Ex K.T G G' ∧ Rep K F G' (ρ.set i (.sh D)) σ H := by
  have hi := (List.getElem?_eq_some_iff.mp h).1
  obtain ⟨h1, h2, o, h3, h4⟩ := R.ob h
  have s : Ex K.T G (upd G a o) := Ex.new t h2
  have hd : Dw K (upd G a o) (.ref a) D ∧ NTo o := by
    cases c with
    | lst ds =>
      cases hc
      obtain ⟨vs, rfl, d⟩ := h4
      exact ⟨.lst (.inl (.inl upd_same)) (d.mono s), trivial⟩
    | dic kvs =>
      cases hc
      obtain ⟨es, rfl, d, _⟩ := h4
      exact ⟨.dic upd_same (d.ext s.1), trivial⟩
    | box => cases hc
    | lams _ _ => cases hc
  refine ⟨upd G a o, s, ?_⟩
  have ob' : ∀ {j b c2}, (ρ.set i (.sh D))[j]? = some (.ob b c2) → j ≠ i ∧ ρ[j]? = some (.ob b c2) := fun {j b c2} e => by
    rcases set_get e with ⟨_, z, _⟩ | h
    · cases z
    · exact h
  refine ⟨by rw [List.length_set]; exact R.len, fun {j D'} e => ?_, fun {j b c2} e => ?_, fun {j b C d D'} e => ?_, fun {j O} e => ?_, fun e e' => R.uniq (ob' e).2 (ob' e').2, fun {b u} m => ?_, fun b u e => ?_, R.nt.upd hd.2⟩
  · rcases set_get e with ⟨rfl, z, _⟩ | ⟨q, e⟩
    · cases z
      exact ⟨_, h1, hd.1⟩
    · obtain ⟨v, q1, q2⟩ := R.sh e
      exact ⟨v, q1, q2.mono s⟩
  · obtain ⟨q, e⟩ := ob' e
    obtain ⟨q1, q2, u, q3, q4⟩ := R.ob e
    have qa : b ≠ a := fun z => q (R.uniq e (z ▸ h))
    exact ⟨q1, by rw [upd_ne qa]; exact q2, u, q3, q4.mono s⟩
  · rcases set_get e with ⟨_, z, _⟩ | ⟨q, e⟩
    · cases z
    · obtain ⟨q1, v, q2, q3⟩ := R.exc e
      exact ⟨q1, v, s.1 _ _ q2 (fun _ z => nomatch z), q3.mono s⟩
  · rcases set_get e with ⟨_, z, _⟩ | ⟨q, e⟩
    · cases z
    · obtain ⟨f, q1, q2⟩ := R.ask e
      exact ⟨f, q1, q2.mono s⟩
  · obtain ⟨k1, k2, k3, k4⟩ := R.ex m
    have qa : b ≠ a := fun z => k3 ⟨i, _, z ▸ h⟩
    exact ⟨k1, by rw [upd_ne qa]; exact k2, fun ⟨j, c2, e⟩ => k3 ⟨j, c2, (ob' e).2⟩, k4⟩
  · by_cases q : b = a
    · rw [q, upd_same] at e
      cases e
      rw [q]
      exact h3
    · rw [upd_ne q] at e
      exact R.sub b u e
end
end Dl
set_option Elab.async false
set_option linter.all false
set_option maxRecDepth 100000
set_option maxHeartbeats 4000000
namespace Dl
open PySem PySem.Spec PyProof.Rows L2 So Da
abbrev DTE := Sto → (PyData → Sto → Prop) → Prop
abbrev DTT := Sto → (Bool → Sto → Prop) → Prop
abbrev DTA := Sto → (List PyData → Sto → Prop) → Prop
/-- a value that is looked at: data, or what stands in a slot -/
inductive Rv where
  | val (D : PyData)
  | slot (i : Nat)
abbrev DTR := Sto → (Rv → Sto → Prop) → Prop
def deref (ρ : Sto) : Rv → Option PyData
  | .val D => some D
  | .slot i => match ρ[i]? with
    | some (.sh D) => some D
    | some (.ob _ (.lst ds)) => some (.list ds)
    | some (.ob _ (.dic kvs)) => some (.dict kvs)
    | _ => none
def derefW (ρ : Sto) (r : Rv) (k : PyData → Prop) : Prop := match deref ρ r with
  | some D => k D
  | none => False
def RvOk (K : Zw) (G : Hp) (σ : L2.St) (v : V) : Rv → Prop
  | .val D => Dw K G v D
  | .slot i => σ[i]? = some (some v)
theorem RvOk.mono {K : Zw} {G G' : Hp} {σ : L2.St} {v : V} (s : Ex K.T G G') : ∀ {r : Rv}, RvOk K G σ v r → RvOk K G' σ v r
  | .val _, h => Dw.mono s h
  | .slot _, h => h
/-- data that lies in the ground, or an object of one's own -/
def Dq (K : Zw) (G H : Hp) (v : V) (D : PyData) : Prop := Dw K G v D ∨ ∃ a c o, v = .ref a ∧ ocD c = some D ∧ H a = some o ∧ OcOk K G a c o
section
variable {K : Zw} {G G' H H' : Hp} {ρ ρ' : Sto} {σ : L2.St} {v : V} {D : PyData} {F : List (Addr × HO)}
theorem dq_of {r : Rv} (R : Rep K F G ρ σ H) (h : RvOk K G σ v r) (e : deref ρ r = some D) : Dq K G H v D := by
  cases r with
  | val D' =>
    cases e
    exact .inl h
  | slot i =>
    have h : σ[i]? = some (some v) := h
    unfold deref at e
    dsimp only at e
    split at e
    · rename_i D' q
      cases e
      obtain ⟨v', h1, h2⟩ := R.sh q
      rw [h] at h1
      cases h1
      exact .inl h2
    · rename_i a ds q
      cases e
      obtain ⟨h1, h2, o, h3, h4⟩ := R.ob q
      rw [h] at h1
      cases h1
      exact .inr ⟨a, _, _, rfl, rfl, h3, h4⟩
    · rename_i a kvs q
      cases e
      obtain ⟨h1, h2, o, h3, h4⟩ := R.ob q
      rw [h] at h1
      cases h1
      exact .inr ⟨a, _, _, rfl, rfl, h3, h4⟩
    · cases e
theorem Dq.dp (R : Rep K F G ρ σ H) (h : Dq K G H v D) : Dw K H v D := by
  rcases h with h | ⟨a, c, o, rfl, e, h1, h2⟩
  · exact R.dp h
  · cases c with
    | lst ds =>
      cases e
      obtain ⟨vs, rfl, d⟩ := h2
      exact .lst (.inl (.inl h1)) (d.ext R.xt)
    | dic kvs =>
      cases e
      obtain ⟨es, rfl, d, _⟩ := h2
      exact .dic h1 (d.ext R.xt)
    | box => cases e
    | lams _ _ => cases e
theorem Dq.seq (R : Rep K F G ρ σ H) (h : Dq K G H v D) (e : isSq D = true) : ∃ a xs, v = .ref a ∧ Sq K.K H a xs ∧ DwAll K G xs (itD D) := by
  rcases h with h | ⟨a, c, o, rfl, e1, h1, h2⟩
  · obtain ⟨a, xs, rfl, h1, h2⟩ := dp_seq h e
    exact ⟨a, xs, rfl, h1.ext R.xt, h2⟩
  · cases c with
    | lst ds =>
      cases e1
      obtain ⟨vs, rfl, d⟩ := h2
      exact ⟨a, vs, rfl, .inr (.inl (.inl h1)), d⟩
    | dic kvs =>
      cases e1
      exact nomatch e
    | box => cases e1
    | lams _ _ => cases e1
theorem Dq.list {ds : List PyData} (R : Rep K F G ρ σ H) (h : Dq K G H v (.list ds)) : ∃ a xs, v = .ref a ∧ SqL K.K H a xs ∧ DwAll K G xs ds := by
  rcases h with h | ⟨a, c, o, rfl, e1, h1, h2⟩
  · cases h with
    | lst a b => exact ⟨_, _, rfl, sql_ext R.xt a, b⟩
  · cases c with
    | lst ds' =>
      cases e1
      obtain ⟨vs, rfl, d⟩ := h2
      exact ⟨a, vs, rfl, .inl (.inl h1), d⟩
    | dic kvs => cases e1
    | box => cases e1
    | lams _ _ => cases e1
theorem Dq.tup {ds : List PyData} (R : Rep K F G ρ σ H) (h : Dq K G H v (.tuple ds)) : ∃ a xs, v = .ref a ∧ SqT K.K H a xs ∧ DwAll K G xs ds ∧ Dw K G v (.tuple ds) := by
  rcases h with h | ⟨a, c, o, rfl, e, h1, h2⟩
  · have h' := h
    cases h with
    | tup a b => exact ⟨_, _, rfl, sqt_ext R.xt a, b, h'⟩
  · cases c <;> cases e
theorem Dq.flat (h : Dq K G H v D) (n : ∀ ds, D ≠ .list ds) (m : ∀ ds, D ≠ .dict ds) : Dw K G v D := by
  rcases h with h | ⟨a, c, o, rfl, e, h1, h2⟩
  · exact h
  · cases c with
    | lst ds =>
      cases e
      exact absurd rfl (n _)
    | dic kvs =>
      cases e
      exact absurd rfl (m _)
    | box => cases e
    | lams _ _ => cases e
theorem Dq.int {i : Int} (h : Dq K G H v (.int i)) : v = .int i := by
  cases h.flat (fun _ z => nomatch z) (fun _ z => nomatch z)
  rfl
theorem Dq.str {i : Str} (h : Dq K G H v (.str i)) : v = .str i := by
  cases h.flat (fun _ z => nomatch z) (fun _ z => nomatch z)
  rfl
theorem Dq.bl {i : Bool} (h : Dq K G H v (.bool i)) : v = .bl i := by
  cases h.flat (fun _ z => nomatch z) (fun _ z => nomatch z)
  rfl
end
/-- what an expression's end asks -/
def Kn (K : Zw) (F : List (Addr × HO)) (n : Nat) (Q0 : PyData → Sto → Prop) (ρ : Sto) (G : Hp) (σ : L2.St) (Q : VK) : Prop :=
  ∀ D ρ' v G' H', Q0 D ρ' → Ex K.T G G' → Alike n ρ ρ' → Rep K F G' ρ' σ H' → Dw K G' v D → Q v H'
def KnT (K : Zw) (F : List (Addr × HO)) (n : Nat) (Q0 : Bool → Sto → Prop) (ρ : Sto) (G : Hp) (σ : L2.St) (Q : Bool → Hp → Prop) : Prop :=
  ∀ b ρ' G' H', Q0 b ρ' → Ex K.T G G' → Alike n ρ ρ' → Rep K F G' ρ' σ H' → Q b H'
def KnR (K : Zw) (F : List (Addr × HO)) (n : Nat) (Q0 : Rv → Sto → Prop) (ρ : Sto) (G : Hp) (σ : L2.St) (Q : VK) : Prop :=
  ∀ r ρ' v G' H', Q0 r ρ' → Ex K.T G G' → Alike n ρ ρ' → Rep K F G' ρ' σ H' → RvOk K G' σ v r → Q v H'
def KnA (K : Zw) (F : List (Addr × HO)) (n : Nat) (Q0 : List PyData → Sto → Prop) (ρ : Sto) (G : Hp) (σ : L2.St) (Q : List V → Hp → Prop) : Prop :=
  ∀ Ds ρ' vs G' H', Q0 Ds ρ' → Ex K.T G G' → Alike n ρ ρ' → Rep K F G' ρ' σ H' → DwAll K G' vs Ds → Q vs H'
def rdE (K : Zw) (G0 : Hp) (n : Nat) (t : DTE) : TE := fun σ H Q => ∃ F ρ G Q0, Ex K.T G0 G ∧ Rep K F G ρ σ H ∧ t ρ Q0 ∧ Kn K F n Q0 ρ G σ Q
def rdT (K : Zw) (G0 : Hp) (n : Nat) (t : DTT) : TT := fun σ H Q => ∃ F ρ G Q0, Ex K.T G0 G ∧ Rep K F G ρ σ H ∧ t ρ Q0 ∧ KnT K F n Q0 ρ G σ Q
def rdR (K : Zw) (G0 : Hp) (n : Nat) (t : DTR) : TE := fun σ H Q => ∃ F ρ G Q0, Ex K.T G0 G ∧ Rep K F G ρ σ H ∧ t ρ Q0 ∧ KnR K F n Q0 ρ G σ Q
def rdA (K : Zw) (G0 : Hp) (n : Nat) (t : DTA) : TA := fun σ H Q => ∃ F ρ G Q0, Ex K.T G0 G ∧ Rep K F G ρ σ H ∧ t ρ Q0 ∧ KnA K F n Q0 ρ G σ Q
def DE (P : Tb) (G0 : Hp) (n : Nat) (X : Cx) (e : Expr) (t : DTE) : Prop := PE X e (rdE (zOf X P) G0 n t)
def DT (P : Tb) (G0 : Hp) (n : Nat) (X : Cx) (e : Expr) (t : DTT) : Prop := PT X e (rdT (zOf X P) G0 n t)
def DW (P : Tb) (G0 : Hp) (n : Nat) (X : Cx) (e : Expr) (t : DTT) : Prop := PW X e (rdT (zOf X P) G0 n t)
def DR (P : Tb) (G0 : Hp) (n : Nat) (X : Cx) (e : Expr) (t : DTR) : Prop := PE X e (rdR (zOf X P) G0 n t)
def DA (P : Tb) (G0 : Hp) (n : Nat) (X : Cx) (es : List Expr) (t : DTA) : Prop := PA X es (rdA (zOf X P) G0 n t)
section
variable {K : Zw} {n : Nat} {G G' H H' : Hp} {ρ ρ' : Sto} {σ : L2.St} {v : V} {D : PyData} {Q : VK} {p : Addr} {F : List (Addr × HO)}
theorem Kn.here {Q0 : PyData → Sto → Prop} (k : Kn K F n Q0 ρ G σ Q) (t : Tg G K.T) (R : Rep K F G ρ σ H) (d : Dw K G v D) (q : Q0 D ρ) : Q v H := k D ρ v G H q (Ex.refl t) Alike.refl R d
theorem Kn.new {Q0 : PyData → Sto → Prop} (k : Kn K F n Q0 ρ G σ Q) (t : Tg G K.T) (R : Rep K F G ρ σ H) (hp : H p = none) {o : HO} (d : ∀ s : Ex K.T G (upd G p o), Dw K (upd G p o) v D) (q : Q0 D ρ) (nt : NTo o := by exact trivial) : Q v (upd H p o) := by
  obtain ⟨gp, R'⟩ := R.new (o := o) t hp nt
  exact k D ρ v _ _ q (Ex.new t gp) Alike.refl R' (d (Ex.new t gp))
theorem Kn.after {Q0 : PyData → Sto → Prop} (k : Kn K F n Q0 ρ G σ Q) (s : Ex K.T G G') (a : Alike n ρ ρ') : Kn K F n Q0 ρ' G' σ Q := fun D r v G2 H2 q s2 a2 R d => k D r v G2 H2 q (s.trans s2) (a.trans a2) R d
theorem KnT.here {Q0 : Bool → Sto → Prop} {Q : Bool → Hp → Prop} {b : Bool} (k : KnT K F n Q0 ρ G σ Q) (t : Tg G K.T) (R : Rep K F G ρ σ H) (q : Q0 b ρ) : Q b H := k b ρ G H q (Ex.refl t) Alike.refl R
theorem KnT.after {Q0 : Bool → Sto → Prop} {Q : Bool → Hp → Prop} (k : KnT K F n Q0 ρ G σ Q) (s : Ex K.T G G') (a : Alike n ρ ρ') : KnT K F n Q0 ρ' G' σ Q := fun b r G2 H2 q s2 a2 R => k b r G2 H2 q (s.trans s2) (a.trans a2) R
theorem KnR.after {Q0 : Rv → Sto → Prop} (k : KnR K F n Q0 ρ G σ Q) (s : Ex K.T G G') (a : Alike n ρ ρ') : KnR K F n Q0 ρ' G' σ Q := fun b r v G2 H2 q s2 a2 R => k b r v G2 H2 q (s.trans s2) (a.trans a2) R
theorem KnA.after {Q0 : List PyData → Sto → Prop} {Q : List V → Hp → Prop} (k : KnA K F n Q0 ρ G σ Q) (s : Ex K.T G G') (a : Alike n ρ ρ') : KnA K F n Q0 ρ' G' σ Q := fun b r v G2 H2 q s2 a2 R => k b r v G2 H2 q (s.trans s2) (a.trans a2) R
end
section
variable {P : Tb} {G0 : Hp} {n : Nat} {X : Cx} {a b c e : Expr} {es : List Expr} {pos : Pos}
def dVar (i : Nat) : DTE := fun ρ Q => match ρ[i]? with
  | some (.sh D) => Q D ρ
  | _ => False
theorem de_var (i : Nat) {x : Str} {pos : Pos} (hN : X.N[i]? = some x := by rfl) (hv : Vis X.env.scope x := by first | exact Or.inl rfl | exact Or.inr (Or.inl rfl) | exact Or.inr (Or.inr rfl)) (hd : (x == ("__debug__" : Str)) = false := by decide)
    (hcd : (x == ("__classdict__" : Str)) = false := by decide) : DE P G0 n X (.Name x pos) (dVar i) := pe_weak (pe_var hN hv hd hcd) fun σ H Q ⟨F, ρ, G, Q0, s, R, h, k⟩ => by
  unfold dVar at h
  split at h
  · rename_i D q
    obtain ⟨v, h1, h2⟩ := R.sh q
    exact ⟨v, h1, k.here s.2 R h2 h⟩
  · exact h.elim
def known (ρ : Sto) (i : Nat) : Prop := match ρ[i]? with
  | some (.sh _) => True
  | some (.ob _ _) => True
  | some (.ask _) => True
  | _ => False
theorem dr_var (i : Nat) {x : Str} {pos : Pos} (hN : X.N[i]? = some x := by rfl) (hv : Vis X.env.scope x := by first | exact Or.inl rfl | exact Or.inr (Or.inl rfl) | exact Or.inr (Or.inr rfl)) (hd : (x == ("__debug__" : Str)) = false := by decide)
    (hcd : (x == ("__classdict__" : Str)) = false := by decide) : DR P G0 n X (.Name x pos) (fun ρ Q => known ρ i ∧ Q (.slot i) ρ) := pe_weak (pe_var hN hv hd hcd) fun σ H Q ⟨F, ρ, G, Q0, s, R, ⟨h1, h2⟩, k⟩ => by
  have : ∃ v, σ[i]? = some (some v) := by
    unfold known at h1
    split at h1
    · rename_i D q
      obtain ⟨v, h3, _⟩ := R.sh q
      exact ⟨v, h3⟩
    · rename_i a c q
      exact ⟨_, (R.ob q).1⟩
    · rename_i O q
      obtain ⟨f, h3, _⟩ := R.ask q
      exact ⟨_, h3⟩
    · exact h1.elim
  obtain ⟨v, hv⟩ := this
  exact ⟨v, hv, k _ ρ v G H h2 (Ex.refl s.2) Alike.refl R hv⟩
theorem dr_of {t : DTE} (h : DE P G0 n X e t) : DR P G0 n X e (fun ρ Q => t ρ fun D ρ' => Q (.val D) ρ') := pe_weak h fun σ H Q ⟨F, ρ, G, Q0, s, R, h, k⟩ => ⟨F, ρ, G, _, s, R, h, fun D ρ' v G' H' q s' a R' d => k (.val D) ρ' v G' H' q s' a R' d⟩
def dC (D : PyData) : DTE := fun ρ Q => Q D ρ
theorem de_con {v : V} {D : PyData} (h : PE X e (tC v)) (d : ∀ K H, Dw K H v D) : DE P G0 n X e (dC D) := pe_weak h fun σ H Q ⟨F, ρ, G, Q0, s, R, h, k⟩ => k.here s.2 R (d _ _) h
theorem de_int {i : Int} {j : Nat} : DE P G0 n X (.Constant (.int i) j pos) (dC (.int i)) := de_con pe_int fun _ _ => .int _
theorem de_str {i : Str} {j : Nat} : DE P G0 n X (.Constant (.str i) j pos) (dC (.str i)) := de_con pe_str fun _ _ => .str _
theorem de_bl {i : Bool} {j : Nat} : DE P G0 n X (.Constant (.bool i) j pos) (dC (.bool i)) := de_con pe_bl fun _ _ => .bl _
theorem de_non {j : Nat} : DE P G0 n X (.Constant .none j pos) (dC .none) := de_con pe_non fun _ _ => .non
theorem de_gInt {x : Str} {i : Int} (hg : Gl X x) (hm : ∃ t, X.mg x = some (.int i t)) (hd : (x == ("__debug__" : Str)) = false := by decide) : DE P G0 n X (.Name x pos) (dC (.int i)) := by
  obtain ⟨t, h⟩ := hm
  exact de_con (pe_glob (v := .int i) hg h ⟨_, rfl⟩ hd) fun _ _ => .int _
abbrev OpT := PyData → PyData → (PyData → Prop) → Prop
def dOp (f : OpT) (ta tb : DTR) : DTE := fun ρ Q => ta ρ fun r ρ1 => tb ρ1 fun q ρ2 => derefW ρ2 r fun x => derefW ρ2 q fun y => f x y fun z => Q z ρ2
/-- an operator's rule by data -/
def OpD (P : Tb) (n : Nat) (X : Cx) (r : R2) (f : OpT) : Prop := ∀ x y dx dy F G ρ σ H Q0 Q, Tg G P → Rep (zOf X P) F G ρ σ H → Dq (zOf X P) G H x dx → Dq (zOf X P) G H y dy → f dx dy (fun z => Q0 z ρ) → Kn (zOf X P) F n Q0 ρ G σ Q → r x y H Q
theorem op_read {r : R2} {f : OpT} {ta tb : DTR} (o : OpD P n X r f) {σ : L2.St} {H : Hp} {Q : VK} (h : rdE (zOf X P) G0 n (dOp f ta tb) σ H Q) : tOp r (rdR (zOf X P) G0 n ta) (rdR (zOf X P) G0 n tb) σ H Q := by
  obtain ⟨F, ρ, G, Q0, s, R, h, k⟩ := h
  refine ⟨F, ρ, G, _, s, R, h, fun r1 ρ1 v1 G1 H1 h1 s1 a1 R1 d1 => ⟨F, ρ1, G1, _, s.trans s1, R1, h1, fun r2 ρ2 v2 G2 H2 h2 s2 a2 R2 d2 => ?_⟩⟩
  unfold derefW at h2
  split at h2
  · rename_i D1 e1
    split at h2
    · rename_i D2 e2
      exact o v1 v2 D1 D2 F G2 ρ2 σ H2 Q0 Q s2.2 R2 (dq_of R2 (d1.mono s2) e1) (dq_of R2 d2 e2) h2 (k.after (s1.trans s2) (a1.trans a2))
    · exact h2.elim
  · exact h2.elim
theorem de_op {op : Operator} {r : R2} {f : OpT} {ta tb : DTR} (ho : OpR X (binaryOp op) r) (o : OpD P n X r f) (ha : DR P G0 n X a ta) (hb : DR P G0 n X b tb) : DE P G0 n X (.BinOp a op b pos) (dOp f ta tb) := pe_weak (pe_op ho ha hb) fun _ _ _ h => op_read o h
theorem de_cmp {op : CmpOp} {r : R2} {f : OpT} {ta tb : DTR} (ho : OpR X (compareOp op) r) (o : OpD P n X r f) (ha : DR P G0 n X a ta) (hb : DR P G0 n X b tb) (hm : behindInMarks op b = false) : DE P G0 n X (.Compare a [op] [b] pos) (dOp f ta tb) := pe_weak (pe_cmpR ho ha hb hm) fun _ _ _ h => op_read o h
def toB (t : DTE) : DTT := fun ρ Q => t ρ fun D ρ' => match D with
  | .bool b => Q b ρ'
  | _ => False
theorem b_read {t : DTE} {σ : L2.St} {H : Hp} {Q : Bool → Hp → Prop} (h : rdT (zOf X P) G0 n (toB t) σ H Q) : rdE (zOf X P) G0 n t σ H fun x H1 => ∃ c, x = .bl c ∧ Q c H1 := by
  obtain ⟨F, ρ, G, Q0, s, R, h, k⟩ := h
  refine ⟨F, ρ, G, _, s, R, h, fun D ρ' v G' H' q s' al R' d => ?_⟩
  split at q
  · cases d
    exact ⟨_, rfl, k _ ρ' G' H' q s' al R'⟩
  · exact q.elim
theorem dt_cmp {op : CmpOp} {r : R2} {f : OpT} {ta tb : DTR} (ho : OpR X (compareOp op) r) (o : OpD P n X r f) (ha : DR P G0 n X a ta) (hb : DR P G0 n X b tb) (hm : behindInMarks op b = false) : DT P G0 n X (.Compare a [op] [b] pos) (toB (dOp f ta tb)) :=
  pt_weak (pt_cmpR ho ha hb hm) fun _ _ _ h => op_read o (b_read h)
theorem dt_val {t : DTE} (h : DE P G0 n X e t) (he : ∀ whole, isTrue e X.env whole = (do let v ← whole; standAt e.pos; holding [v] (truthy v)) := by intro _; rfl) : DT P G0 n X e (toB t) := pt_weak (pt_val h he) fun _ _ _ h => b_read h
def dAnd (t u : DTT) : DTT := fun ρ Q => t ρ fun b ρ1 => if b = true then u ρ1 Q else Q false ρ1
def dOr (t u : DTT) : DTT := fun ρ Q => t ρ fun b ρ1 => if b = true then Q true ρ1 else u ρ1 Q
def dNot (t : DTT) : DTT := fun ρ Q => t ρ fun b ρ1 => Q (!b) ρ1
theorem dw_and1 {t : DTT} (ha : DT P G0 n X a t) : DW P G0 n X (.BoolOp .And [a] pos) t := pw_and1 ha
theorem dw_or1 {t : DTT} (ha : DT P G0 n X a t) : DW P G0 n X (.BoolOp .Or [a] pos) t := pw_or1 ha
theorem dw_and {t u : DTT} (ha : DT P G0 n X a t) (hb : DW P G0 n X (.BoolOp .And (b :: es) pos) u) : DW P G0 n X (.BoolOp .And (a :: b :: es) pos) (dAnd t u) := pw_weak (pw_and ha hb) fun σ H Q ⟨F, ρ, G, Q0, s, R, h, k⟩ =>
  ⟨F, ρ, G, _, s, R, h, fun c ρ' G' H' q s' al R' => by
    cases c with
    | true => exact ⟨F, ρ', G', _, s.trans s', R', q, k.after s' al⟩
    | false => exact k _ ρ' G' H' q s' al R'⟩
theorem dw_or {t u : DTT} (ha : DT P G0 n X a t) (hb : DW P G0 n X (.BoolOp .Or (b :: es) pos) u) : DW P G0 n X (.BoolOp .Or (a :: b :: es) pos) (dOr t u) := pw_weak (pw_or ha hb) fun σ H Q ⟨F, ρ, G, Q0, s, R, h, k⟩ =>
  ⟨F, ρ, G, _, s, R, h, fun c ρ' G' H' q s' al R' => by
    cases c with
    | false => exact ⟨F, ρ', G', _, s.trans s', R', q, k.after s' al⟩
    | true => exact k _ ρ' G' H' q s' al R'⟩
theorem DW.dt {t : DTT} (h : DW P G0 n X e t) : DT P G0 n X e t := PW.pt h
theorem dt_not {t : DTT} (ha : DT P G0 n X a t) : DT P G0 n X (.UnaryOp .Not a pos) (dNot t) := pt_weak (pt_not ha) fun σ H Q ⟨F, ρ, G, Q0, s, R, h, k⟩ => ⟨F, ρ, G, _, s, R, h, fun c ρ' G' H' q s' al R' => k _ ρ' G' H' q s' al R'⟩
def ofB (t : DTT) : DTE := fun ρ Q => t ρ fun b ρ1 => Q (.bool b) ρ1
def dAndV (t u : DTE) : DTE := fun ρ Q => t ρ fun D ρ1 => match D with
  | .bool b => if b = true then u ρ1 Q else Q (.bool false) ρ1
  | _ => False
def dOrV (t u : DTE) : DTE := fun ρ Q => t ρ fun D ρ1 => match D with
  | .bool b => if b = true then Q (.bool true) ρ1 else u ρ1 Q
  | _ => False
theorem de_one {op : BoolOp} {t : DTE} (ha : DE P G0 n X a t) : DE P G0 n X (.BoolOp op [a] pos) t := pe_one ha
theorem de_and {t u : DTE} (ha : DE P G0 n X a t) (hb : DE P G0 n X (.BoolOp .And (b :: es) pos) u) : DE P G0 n X (.BoolOp .And (a :: b :: es) pos) (dAndV t u) := pe_weak (pe_and ha hb) fun σ H Q ⟨F, ρ, G, Q0, s, R, h, k⟩ =>
  ⟨F, ρ, G, _, s, R, h, fun D ρ' v G' H' q s' al R' d => by
    split at q
    · rename_i c
      cases d
      cases c with
      | true => exact ⟨_, rfl, F, ρ', G', _, s.trans s', R', q, k.after s' al⟩
      | false => exact ⟨_, rfl, k _ ρ' _ G' H' q s' al R' (.bl _)⟩
    · exact q.elim⟩
theorem de_or {t u : DTE} (ha : DE P G0 n X a t) (hb : DE P G0 n X (.BoolOp .Or (b :: es) pos) u) : DE P G0 n X (.BoolOp .Or (a :: b :: es) pos) (dOrV t u) := pe_weak (pe_or ha hb) fun σ H Q ⟨F, ρ, G, Q0, s, R, h, k⟩ =>
  ⟨F, ρ, G, _, s, R, h, fun D ρ' v G' H' q s' al R' d => by
    split at q
    · rename_i c
      cases d
      cases c with
      | false => exact ⟨_, rfl, F, ρ', G', _, s.trans s', R', q, k.after s' al⟩
      | true => exact ⟨_, rfl, k _ ρ' _ G' H' q s' al R' (.bl _)⟩
    · exact q.elim⟩
theorem de_not {t : DTE} (ha : DE P G0 n X a t) : DE P G0 n X (.UnaryOp .Not a pos) (fun ρ Q => t ρ fun D ρ1 => match D with
  | .bool b => Q (.bool (!b)) ρ1
  | _ => False) := pe_weak (pe_not ha) fun σ H Q ⟨F, ρ, G, Q0, s, R, h, k⟩ =>
  ⟨F, ρ, G, _, s, R, h, fun D ρ' v G' H' q s' al R' d => by
    split at q
    · cases d
      exact ⟨_, rfl, k _ ρ' _ G' H' q s' al R' (.bl _)⟩
    · exact q.elim⟩
def dIf (c : DTT) (t u : DTE) : DTE := fun ρ Q => c ρ fun b ρ1 => if b = true then t ρ1 Q else u ρ1 Q
theorem de_if {tc : DTT} {t u : DTE} (hc : DT P G0 n X c tc) (ha : DE P G0 n X a t) (hb : DE P G0 n X b u) : DE P G0 n X (.IfExp c a b pos) (dIf tc t u) := pe_weak (pe_ifExp hc ha hb) fun σ H Q ⟨F, ρ, G, Q0, s, R, h, k⟩ =>
  ⟨F, ρ, G, _, s, R, h, fun c ρ' G' H' q s' al R' => by
    cases c with
    | true => exact ⟨F, ρ', G', _, s.trans s', R', q, k.after s' al⟩
    | false => exact ⟨F, ρ', G', _, s.trans s', R', q, k.after s' al⟩⟩
def dChain (f g : OpT) (ta tb tc : DTR) : DTE := fun ρ Q => ta ρ fun r ρ1 => tb ρ1 fun q ρ2 => derefW ρ2 r fun x => derefW ρ2 q fun y => f x y fun z => match z with
  | .bool b => if b = true then tc ρ2 fun w ρ3 => derefW ρ3 q fun y => derefW ρ3 w fun u => g y u fun z => Q z ρ3 else Q (.bool false) ρ2
  | _ => False
def tTupF (t : TA) : TE := fun σ H Q => t σ H fun xs H1 => xs.length ≤ sizeLine ∧ ∀ p ob, H1 p = none → ob.dict = none → Q (.ref p) (upd H1 p (.frz ob (.tup xs)))
theorem pe_tupF {t : TA} {k : Nat} (h : PA X es t) : PE X (.Tuple es k pos) (tTupF t) := by
  refine ⟨fun pins s σ H Q I hq => wpAny_Tuple_spliced (thn (h.run pos pins s σ H _ I hq) fun us s1 ⟨xs, H1, I1, r, z, q⟩ => ⟨by rw [← r.length]; exact z, ?_⟩)⟩
  have hf : H1 s1.heap.objs.size = none := I1.hok.fresh (Nat.le_refl _)
  have e := Heap.get?_push_size s1.heap (o := { cls := .type "tuple", data := .seq us.toArray }) rfl
  exact ⟨.ref s1.heap.objs.size, _, I1.laid (t' := s1.toks) (o := .frz { cls := .type "tuple", data := .seq us.toArray } (.tup xs)) (fun b u e => Heap.get?_push_of_some _ e) (Nat.le_refl _) ⟨e, z, us, r, _, e, rfl, _, rfl⟩, rfl, q _ _ hf rfl⟩
theorem da_nil : DA P G0 n X [] (fun ρ Q => Q [] ρ) := pa_weak pa_nil fun σ H Q ⟨F, ρ, G, Q0, s, R, h, k⟩ => k _ ρ _ G H h (Ex.refl s.2) Alike.refl R .nil
theorem da_cons {t : DTE} {u : DTA} (h : DE P G0 n X e t) (r : DA P G0 n X es u) (hs : starEach (e :: es) X.env = (false, eval e X.env) :: starEach es X.env := by rfl) : DA P G0 n X (e :: es) (fun ρ Q => t ρ fun D ρ1 => u ρ1 fun Ds ρ2 => Q (D :: Ds) ρ2) :=
  pa_weak (pa_cons h r hs) fun σ H Q ⟨F, ρ, G, Q0, s, R, h, k⟩ => ⟨F, ρ, G, _, s, R, h, fun D ρ' v G' H' q s' al R' d => ⟨F, ρ', G', _, s.trans s', R', q, fun Ds ρ2 vs G2 H2 q2 s2 al2 R2 d2 => k _ ρ2 _ G2 H2 q2 (s'.trans s2) (al.trans al2) R2 (.cons (Dw.mono s2 d) d2)⟩⟩
theorem de_tup {k : Nat} {t : DTA} (h : DA P G0 n X es t) : DE P G0 n X (.Tuple es k pos) (fun ρ Q => t ρ fun Ds ρ' => Ds.length ≤ sizeLine ∧ Q (.tuple Ds) ρ') := pe_weak (pe_tupF h) fun σ H Q ⟨F, ρ, G, Q0, s, R, h, k⟩ =>
  ⟨F, ρ, G, _, s, R, h, fun Ds ρ' vs G' H' ⟨l, q⟩ s' al R' d => ⟨by rw [dpa_len d]; exact l, fun p ob hp hd => (k.after s' al).new s'.2 R' hp (fun s2 => .tup (.inl (.inr ⟨ob, upd_same⟩)) (DwAll.mono s2 d)) q hd⟩⟩
/-- a built-in's call of one thing -/
def CaD (P : Tb) (n : Nat) (X : Cx) (r : List V → Hp → VK → Prop) (f : PyData → (PyData → Prop) → Prop) : Prop := ∀ x dx F G ρ σ H Q0 Q, Tg G P → Rep (zOf X P) F G ρ σ H → Dq (zOf X P) G H x dx → f dx (fun z => Q0 z ρ) → Kn (zOf X P) F n Q0 ρ G σ Q → r [x] H Q
def dUn (f : PyData → (PyData → Prop) → Prop) (t : DTR) : DTE := fun ρ Q => t ρ fun r ρ1 => derefW ρ1 r fun x => f x fun z => Q z ρ1
theorem ca_read {r : List V → Hp → VK → Prop} {f : PyData → (PyData → Prop) → Prop} {t : DTR} (o : CaD P n X r f) {σ : L2.St} {H : Hp} {Q : VK} (h : rdE (zOf X P) G0 n (dUn f t) σ H Q) : tCB r (tCons (rdR (zOf X P) G0 n t) tNil) σ H Q := by
  obtain ⟨F, ρ, G, Q0, s, R, h, k⟩ := h
  refine ⟨F, ρ, G, _, s, R, h, fun r1 ρ1 v1 G1 H1 h1 s1 a1 R1 d1 => ?_⟩
  unfold derefW at h1
  split at h1
  · rename_i D1 e1
    exact o v1 D1 F G1 ρ1 σ H1 Q0 Q s1.2 R1 (dq_of R1 d1 e1) h1 (k.after s1 a1)
  · exact h1.elim
theorem de_callB {id : String} {x : Str} {r : List V → Hp → VK → Prop} {f : PyData → (PyData → Prop) → Prop} {t : DTR} {p : Pos} (hc : CallR X (.builtin id) r) (o : CaD P n X r f) (hg : Gl X x) (hm : X.mg x = none) (hv : bootBuiltins x = some (.builtin id)) (ha : DR P G0 n X e t) (hn : x ≠ "__name__" := by decide) (hdb : (x == ("__debug__" : Str)) = false := by decide)
    (hs : starEach [e] X.env = (false, eval e X.env) :: starEach [] X.env := by rfl) (hpl : (backTo pos (starEach [] X.env)).any (·.1) = false := by rfl) : DE P G0 n X (.Call (.Name x p) [e] [] pos) (dUn f t) :=
  pe_weak (pe_callB hc hg hm hv (pa_cons ha pa_nil hs) hn hdb hs hpl) fun _ _ _ h => ca_read o h
theorem de_callTy {T : String} {x : Str} {r : List V → Hp → VK → Prop} {f : PyData → (PyData → Prop) → Prop} {t : DTR} {p : Pos} (hc : CallR X (.type T) r) (o : CaD P n X r f) (hg : Gl X x) (hm : X.mg x = none) (hv : bootBuiltins x = some (.type T)) (ha : DR P G0 n X e t) (hn : x ≠ "__name__" := by decide) (hdb : (x == ("__debug__" : Str)) = false := by decide)
    (hs : starEach [e] X.env = (false, eval e X.env) :: starEach [] X.env := by rfl) (hpl : (backTo pos (starEach [] X.env)).any (·.1) = false := by rfl) : DE P G0 n X (.Call (.Name x p) [e] [] pos) (dUn f t) :=
  pe_weak (pe_callTy hc hg hm hv (pa_cons ha pa_nil hs) hn hdb hs hpl) fun _ _ _ h => ca_read o h
end
end Dl
set_option Elab.async false
set_option linter.all false
set_option maxRecDepth 100000
set_option maxHeartbeats 4000000
namespace Dl
open PySem PySem.Spec PyProof.Rows L2 So Da
section
variable {X : Cx}
def rTupF (K : PySem.W.Frag) : List V → Hp → VK → Prop := fun xs H Q => ∃ p ys, xs = [.ref p] ∧ ((SqL K H p ys ∧ ∀ l ob, H l = none → ob.dict = none → Q (.ref l) (upd H l (.frz ob (.tup ys)))) ∨ (SqT K H p ys ∧ Q (.ref p) H))
theorem call_tupleF : CallR X (.type "tuple") (rTupF X.K) := by
  intro pins s σ H xs us Q I r h
  obtain ⟨p, ys, rfl, ⟨hq, q⟩ | h⟩ := h
  · obtain ⟨u, rfl, rx⟩ := vals1 r
    cases rx
    obtain ⟨its, rv, pl, hz⟩ := I.list hq
    have hl := rv.length
    refine call_tuple_list pl.isList (fun h' kp => ?_) (by rw [List.size_toArray]; omega)
    have I1 : Inv X pins σ H { s with heap := h' } := I.kept (t' := s.toks) kp
    have e := Heap.get?_push_size h' (o := { cls := .type "tuple", data := .seq its.toArray }) rfl
    exact ⟨.ref h'.objs.size, _, I1.laid (t' := s.toks) (o := .frz { cls := .type "tuple", data := .seq its.toArray } (.tup ys)) (fun b o e => Heap.get?_push_of_some _ e) (Nat.le_refl _) ⟨e, hz, its, rv, _, e, rfl, _, rfl⟩, rfl, q _ _ (I1.hok.fresh (Nat.le_refl _)) rfl⟩
  · exact call_tuple_of pins s σ H _ us Q I r ⟨p, ys, rfl, .inr h⟩
def rCatF (K : PySem.W.Frag) : R2 := fun x y H Q => ∃ a b xs ys, x = .ref a ∧ y = .ref b ∧ SqT K H a xs ∧ SqT K H b ys ∧ xs.length + ys.length ≤ sizeLine ∧
  (xs = [] → Q (.ref b) H) ∧ (xs ≠ [] → ys = [] → Q (.ref a) H) ∧ (xs ≠ [] → ys ≠ [] → ∀ p ob, H p = none → ob.dict = none → Q (.ref p) (upd H p (.frz ob (.tup (xs ++ ys)))))
theorem op_catF : OpR X (binaryOp .Add) (rCatF X.K) := by
  intro pins s σ H x y v u Q I rx ry h
  obtain ⟨a, b, xs, ys, rfl, rfl, ha, hb, hz, q0, q1, q2⟩ := h
  by_cases hx : xs = []
  · exact op_catA pins s σ H _ _ v u Q I rx ry ⟨a, b, xs, ys, rfl, rfl, ha, hb, hz, q0, q1, fun z => absurd hx z⟩
  by_cases hy : ys = []
  · exact op_catA pins s σ H _ _ v u Q I rx ry ⟨a, b, xs, ys, rfl, rfl, ha, hb, hz, q0, q1, fun _ z => absurd hy z⟩
  cases rx
  cases ry
  obtain ⟨its, r1, p1, _⟩ := I.tuple ha
  obtain ⟨its2, r2, p2, _⟩ := I.tuple hb
  refine HT.cat_tup p1 p2 (fun z => hx (r1.nil_iff.mp z)) (fun z => absurd (r2.nil_iff.mp z) hy) (fun _ => ?_) (by rw [← r1.length, ← r2.length]; exact hz)
  have e := Heap.get?_push_size s.heap (o := { cls := .type "tuple", data := .seq (its ++ its2).toArray }) rfl
  exact ⟨.ref s.heap.objs.size, _, I.laid (t' := s.toks) (o := .frz { cls := .type "tuple", data := .seq (its ++ its2).toArray } (.tup (xs ++ ys))) (fun b o e => Heap.get?_push_of_some _ e) (Nat.le_refl _) ⟨e, by rw [List.length_append]; exact hz, _, r1.append r2, _, e, rfl, _, rfl⟩, rfl, q2 hx hy _ _ (I.hok.fresh (Nat.le_refl _)) rfl⟩
def rSlF (K : PySem.W.Frag) : V → Option Int → Option Int → Hp → VK → Prop := fun x lo hi H Q => ∃ a xs, x = .ref a ∧ SqT K H a xs ∧
  (HT.sIx xs.length 0 lo = 0 ∧ HT.sIx xs.length xs.length hi = xs.length → Q (.ref a) H) ∧ (¬ (HT.sIx xs.length 0 lo = 0 ∧ HT.sIx xs.length xs.length hi = xs.length) → ∀ p ob, H p = none → ob.dict = none → Q (.ref p) (upd H p (.frz ob (.tup (cutV xs lo hi)))))
theorem sl_tupF : SlR X (rSlF X.K) := by
  intro pins s σ H x v vl vu lo hi sl Q I rx hs pl pu h
  obtain ⟨a, xs, rfl, hx, q1, q2⟩ := h
  by_cases hw : HT.sIx xs.length 0 lo = 0 ∧ HT.sIx xs.length xs.length hi = xs.length
  · exact sl_tupA pins s σ H _ v vl vu lo hi sl Q I rx hs pl pu ⟨a, xs, rfl, hx, q1, fun z => absurd hw z⟩
  · cases rx
    obtain ⟨its, r, ht, hz⟩ := I.tuple hx
    have hl : its.toArray.size = xs.length := by rw [List.size_toArray]; exact r.length.symm
    refine ⟨"tuple", _, PyProof.Rows.slot_tuple_getitem.lookup, ht.typeIs, HT.getItem_tuple_cut ht hs pl pu (by rw [hl]; exact hw) ?_ (by rw [hl]; exact hz)⟩
    rw [hl]
    have rr := (r.drop (HT.sIx xs.length 0 lo)).take (HT.sIx xs.length xs.length hi - HT.sIx xs.length 0 lo)
    refine ⟨.ref s.heap.objs.size, _, I.laid (t' := s.toks) (o := .frz _ (.tup (cutV xs lo hi))) (fun b o q => Heap.get?_push_of_some _ q) (Nat.le_refl _) ⟨Heap.get?_push_size _ rfl, Nat.le_trans (cutV_length xs lo hi) hz, _, rr, _, Heap.get?_push_size _ rfl, rfl, _, rfl⟩, rfl, q2 hw _ _ (I.hok.fresh (Nat.le_refl _)) rfl⟩
end
section
variable {K : Zw} {H : Hp}
theorem dpa_take : ∀ {xs : List V} {ds : List PyData} (n : Nat), DwAll K H xs ds → DwAll K H (xs.take n) (ds.take n)
  | _, _, 0, _ => by simpa using .nil
  | _, _, _ + 1, .nil => by simpa using .nil
  | _, _, n + 1, .cons a b => by simpa using .cons a (dpa_take n b)
theorem dpa_drop : ∀ {xs : List V} {ds : List PyData} (n : Nat), DwAll K H xs ds → DwAll K H (xs.drop n) (ds.drop n)
  | _, _, 0, h => h
  | _, _, _ + 1, .nil => .nil
  | _, _, n + 1, .cons _ b => by simpa using dpa_drop n b
theorem dpa_ati {xs : List V} {ds : List PyData} {i : Int} {d : PyData} (h : DwAll K H xs ds) (e : atI ds i = some d) : ∃ x, atI xs i = some x ∧ Dw K H x d := by
  unfold atI at e ⊢
  rw [dpa_len h]
  cases q : ixN ds.length i with
  | none => rw [q] at e; cases e
  | some j =>
    rw [q] at e
    exact dpa_at' h e
theorem dpa_ints : ∀ {xs : List V} {ns : List Int}, DwAll K H xs (ns.map .int) → xs = ns.map V.int
  | _, [], h => by cases h; rfl
  | _, n :: ns, h => by
    cases h with
    | cons a b =>
      cases a
      rw [dpa_ints b]
      rfl
theorem dpa_of_ints : ∀ {ns : List Int}, DwAll K H (ns.map V.int) (ns.map .int)
  | [] => .nil
  | _ :: _ => .cons (.int _) dpa_of_ints
theorem dpa_bls : ∀ {xs : List V} {ns : List Bool}, DwAll K H xs (ns.map .bool) → xs = ns.map V.bl
  | _, [], h => by cases h; rfl
  | _, n :: ns, h => by
    cases h with
    | cons a b =>
      cases a
      rw [dpa_bls b]
      rfl
theorem dpa_rep {v : V} {d : PyData} (h : Dw K H v d) : ∀ n : Nat, DwAll K H (List.replicate n v) (List.replicate n d)
  | 0 => .nil
  | n + 1 => .cons h (dpa_rep h n)
/-- None, a bool, an int, a text -/
def flatD : PyData → Bool
  | .none => true
  | .bool _ => true
  | .int _ => true
  | .str _ => true
  | _ => false
end
def cutD (xs : List PyData) (lo hi : Option Int) : List PyData := (xs.drop (HT.sIx xs.length 0 lo)).take (HT.sIx xs.length xs.length hi - HT.sIx xs.length 0 lo)
theorem dpa_cut {K : Zw} {H : Hp} {xs : List V} {ds : List PyData} (h : DwAll K H xs ds) (lo hi : Option Int) : DwAll K H (cutV xs lo hi) (cutD ds lo hi) := by
  unfold cutV cutD
  rw [dpa_len h]
  exact dpa_take _ (dpa_drop _ h)
def addD : OpT := fun x y Q => match x, y with
  | .int i, .int j => Q (.int (i + j))
  | .str i, .str j => i.length + j.length ≤ sizeLine ∧ Q (.str (i ++ j))
  | .tuple i, .tuple j => i.length + j.length ≤ sizeLine ∧ Q (.tuple (i ++ j))
  | .list i, .list j => i.length + j.length ≤ sizeLine ∧ Q (.list (i ++ j))
  | _, _ => False
def subD : OpT := fun x y Q => match x, y with
  | .int i, .int j => Q (.int (i - j))
  | _, _ => False
def mulD : OpT := fun x y Q => match x, y with
  | .int i, .int j => CMul i j ∧ Q (.int (i * j))
  | _, _ => False
def ltD : OpT := fun x y Q => match x, y with
  | .int i, .int j => Q (.bool (decide (i < j)))
  | .str i, .str j => Q (.bool (decide (i.cps.toList < j.cps.toList)))
  | _, _ => False
def leD : OpT := fun x y Q => match x, y with
  | .int i, .int j => Q (.bool (decide (i ≤ j)))
  | _, _ => False
def gtD : OpT := fun x y Q => match x, y with
  | .int i, .int j => Q (.bool (decide (j < i)))
  | _, _ => False
def geD : OpT := fun x y Q => match x, y with
  | .int i, .int j => Q (.bool (decide (j ≤ i)))
  | _, _ => False
theorem psh {D : PyData} (h : SeqAt.shaped D = true) : plain D = true := plain_of_lay (SeqAt.canLay_of_shaped h)
def eqD : OpT := fun x y Q => match x, y with
  | .int i, .int j => Q (.bool (decide (i = j)))
  | .str i, .str j => Q (.bool (decide (i = j)))
  | .bool i, .bool j => Q (.bool (decide (i = j)))
  | x, y => SeqAt.shaped x = true ∧ SeqAt.shaped y = true ∧ Q (.bool (PyData.eqv x y))
def neD : OpT := fun x y Q => match x, y with
  | .int i, .int j => Q (.bool (!decide (i = j)))
  | .str i, .str j => Q (.bool (!decide (i = j)))
  | .bool i, .bool j => Q (.bool (!decide (i = j)))
  | x, y => SeqAt.shaped x = true ∧ SeqAt.shaped y = true ∧ Q (.bool (!PyData.eqv x y))
def isND : PyData → Bool
  | .none => true
  | _ => false
def isD : OpT := fun x y Q => match y with
  | .none => Q (.bool (isND x))
  | _ => False
def notD : OpT := fun x y Q => match y with
  | .none => Q (.bool (!isND x))
  | _ => False
section
variable {P : Tb} {n : Nat} {X : Cx}
/-- list + list, whatever lists they are -/
def rCatL (K : PySem.W.Frag) : R2 := fun x y H Q => ∃ a b xs ys, x = .ref a ∧ y = .ref b ∧ SqL K H a xs ∧ SqL K H b ys ∧ xs.length + ys.length ≤ sizeLine ∧ ∀ p, H p = none → Q (.ref p) (upd H p (.lst (xs ++ ys)))
theorem op_catL : OpR X (binaryOp .Add) (rCatL X.K) := by
  intro pins s σ H x y v u Q I rx ry h
  obtain ⟨a, b, xs, ys, rfl, rfl, ha, hb, hz, q⟩ := h
  cases rx
  cases ry
  obtain ⟨vs, r1, ⟨⟨cls, dd, data, sl⟩, m, ho, hc, _, hd⟩, _⟩ := I.list ha
  obtain ⟨ws, r2, ⟨⟨cls2, dd2, data2, sl2⟩, m2, ho2, hc2, _, hd2⟩, _⟩ := I.list hb
  simp only at hc hd hc2 hd2
  subst hc hd hc2 hd2
  have e : vs.toArray ++ ws.toArray = (vs ++ ws).toArray := by simp
  have l1 := r1.length
  have l2 := r2.length
  refine concat_meets ⟨_, ho, rfl⟩ ⟨_, ho2, rfl⟩ noFill_list_add seq_list_add PySem.F.slot_list_add PySem.F.entry_list_add (PySem.F.args_list_add_2 _ _) (list_addW a b vs.toArray ws.toArray m m2 dd dd2 sl sl2 (by simpa [← l1, ← l2] using hz)) ⟨ho, ho2, ?_⟩
  rw [e]
  exact ⟨.ref _, _, I.lnew (t' := s.toks) (r1.append r2) (by rw [List.length_append]; exact hz), rfl, q _ I.fresh⟩
abbrev rAdd (K : PySem.W.Frag) : R2 := fun x y H Q => (∃ i j, x = .int i ∧ y = .int j ∧ Q (.int (i + j)) H) ∨ (∃ i j, x = .str i ∧ y = .str j ∧ i.length + j.length ≤ sizeLine ∧ Q (.str (i ++ j)) H) ∨ rCatF K x y H Q ∨ rCatL K x y H Q
theorem op_addA : OpR X (binaryOp .Add) (rAdd X.K) := OpR.or op_add (OpR.or op_add_str (OpR.or op_catF op_catL))
theorem od_add : OpD P n X (rAdd X.K) addD := fun x y dx dy F G ρ σ H Q0 Q t R h1 h2 f k => by
  unfold addD at f
  split at f
  · cases h1.int
    cases h2.int
    exact .inl ⟨_, _, rfl, rfl, k.here t R (.int _) f⟩
  · cases h1.str
    cases h2.str
    exact .inr (.inl ⟨_, _, rfl, rfl, f.1, k.here t R (.str _) f.2⟩)
  · obtain ⟨a, xs, rfl, ha, da, da'⟩ := h1.tup R
    obtain ⟨b, ys, rfl, hb, db, db'⟩ := h2.tup R
    refine .inr (.inr (.inl ⟨a, b, xs, ys, rfl, rfl, ha, hb, by rw [dpa_len da, dpa_len db]; exact f.1, fun z => ?_, fun _ z => ?_, fun _ _ p ob hp hd => ?_⟩))
    · subst z
      cases da
      exact k.here t R db' f.2
    · subst z
      cases db
      exact k.here t R da' (by rw [List.append_nil] at f; exact f.2)
    · exact k.new t R hp (fun s => .tup (.inl (.inr ⟨ob, upd_same⟩)) (dpa_app (DwAll.mono s da) (DwAll.mono s db))) f.2 hd
  · obtain ⟨a, xs, rfl, ha, da⟩ := h1.list R
    obtain ⟨b, ys, rfl, hb, db⟩ := h2.list R
    exact .inr (.inr (.inr ⟨a, b, xs, ys, rfl, rfl, ha, hb, by rw [dpa_len da, dpa_len db]; exact f.1, fun p hp => k.new t R hp (fun s => .lst (.inl (.inl upd_same)) (dpa_app (DwAll.mono s da) (DwAll.mono s db))) f.2⟩))
  · exact f.elim
theorem od_sub : OpD P n X (rI0 fun i j => .int (i - j)) subD := fun x y dx dy F G ρ σ H Q0 Q t R h1 h2 f k => by
  unfold subD at f
  split at f
  · cases h1.int
    cases h2.int
    exact ⟨_, _, rfl, rfl, k.here t R (.int _) f⟩
  · exact f.elim
abbrev rLtA : R2 := fun x y H Q => (∃ i j, x = .int i ∧ y = .int j ∧ Q (.bl (decide (i < j))) H) ∨ (∃ i j, x = .str i ∧ y = .str j ∧ Q (.bl (decide (i.cps.toList < j.cps.toList))) H)
theorem op_ltA : OpR X (compareOp .Lt) rLtA := OpR.or op_lt op_lt_str
theorem od_lt : OpD P n X rLtA ltD := fun x y dx dy F G ρ σ H Q0 Q t R h1 h2 f k => by
  unfold ltD at f
  split at f
  · cases h1.int
    cases h2.int
    exact .inl ⟨_, _, rfl, rfl, k.here t R (.bl _) f⟩
  · cases h1.str
    cases h2.str
    exact .inr ⟨_, _, rfl, rfl, k.here t R (.bl _) f⟩
  · exact f.elim
theorem od_le : OpD P n X (rI0 fun i j => .bl (decide (i ≤ j))) leD := fun x y dx dy F G ρ σ H Q0 Q t R h1 h2 f k => by
  unfold leD at f
  split at f
  · cases h1.int
    cases h2.int
    exact ⟨_, _, rfl, rfl, k.here t R (.bl _) f⟩
  · exact f.elim
theorem od_gt : OpD P n X (rI0 fun i j => .bl (decide (j < i))) gtD := fun x y dx dy F G ρ σ H Q0 Q t R h1 h2 f k => by
  unfold gtD at f
  split at f
  · cases h1.int
    cases h2.int
    exact ⟨_, _, rfl, rfl, k.here t R (.bl _) f⟩
  · exact f.elim
theorem od_ge : OpD P n X (rI0 fun i j => .bl (decide (j ≤ i))) geD := fun x y dx dy F G ρ σ H Q0 Q t R h1 h2 f k => by
  unfold geD at f
  split at f
  · cases h1.int
    cases h2.int
    exact ⟨_, _, rfl, rfl, k.here t R (.bl _) f⟩
  · exact f.elim
abbrev rEqA (K : PySem.W.Frag) : R2 := fun x y H Q => rEq x y H Q ∨ rEqD K x y H Q
abbrev rNeA (K : PySem.W.Frag) : R2 := fun x y H Q => rNe x y H Q ∨ rNeD K x y H Q
theorem op_eqA (hu : X.A.units + 64 < cLine) : OpR X (compareOp .Eq) (rEqA X.K) := OpR.or op_eq (op_eqD hu)
theorem op_neA (hu : X.A.units + 64 < cLine) : OpR X (compareOp .NotEq) (rNeA X.K) := OpR.or op_ne (op_neD hu)
theorem dI {i j : Int} : decide (V.int i = V.int j) = decide (i = j) := by
  by_cases e : i = j
  · rw [decide_eq_true e, decide_eq_true (congrArg V.int e)]
  · rw [decide_eq_false e, decide_eq_false (fun q => e (V.int.inj q))]
theorem dS {i j : Str} : decide (V.str i = V.str j) = decide (i = j) := by
  by_cases e : i = j
  · rw [decide_eq_true e, decide_eq_true (congrArg V.str e)]
  · rw [decide_eq_false e, decide_eq_false (fun q => e (V.str.inj q))]
theorem dB {i j : Bool} : decide (V.bl i = V.bl j) = decide (i = j) := by cases i <;> cases j <;> rfl
theorem od_eq : OpD P n X (rEqA X.K) eqD := fun x y dx dy F G ρ σ H Q0 Q t R h1 h2 f k => by
  unfold eqD at f
  split at f
  · cases h1.int
    cases h2.int
    exact .inl ⟨rfl, by rw [dI]; exact k.here t R (.bl _) f⟩
  · cases h1.str
    cases h2.str
    exact .inl ⟨rfl, by rw [dS]; exact k.here t R (.bl _) f⟩
  · cases h1.bl
    cases h2.bl
    exact .inl ⟨rfl, by rw [dB]; exact k.here t R (.bl _) f⟩
  · exact .inr ⟨_, _, Dw.dp (psh f.1) (h1.dp R), Dw.dp (psh f.2.1) (h2.dp R), f.1, f.2.1, k.here t R (.bl _) f.2.2⟩
theorem od_ne : OpD P n X (rNeA X.K) neD := fun x y dx dy F G ρ σ H Q0 Q t R h1 h2 f k => by
  unfold neD at f
  split at f
  · cases h1.int
    cases h2.int
    exact .inl ⟨rfl, by rw [dI]; exact k.here t R (.bl _) f⟩
  · cases h1.str
    cases h2.str
    exact .inl ⟨rfl, by rw [dS]; exact k.here t R (.bl _) f⟩
  · cases h1.bl
    cases h2.bl
    exact .inl ⟨rfl, by rw [dB]; exact k.here t R (.bl _) f⟩
  · exact .inr ⟨_, _, Dw.dp (psh f.1) (h1.dp R), Dw.dp (psh f.2.1) (h2.dp R), f.1, f.2.1, k.here t R (.bl _) f.2.2⟩
theorem non_v {K : Zw} {H : Hp} {v : V} {D : PyData} (h : Dw K H v D) : decide (v = .non) = isND D := by cases h <;> rfl
theorem od_is : OpD P n X (fun x y H Q => y = .non ∧ Q (.bl (decide (x = .non))) H) isD := fun x y dx dy F G ρ σ H Q0 Q t R h1 h2 f k => by
  unfold isD at f
  split at f
  · refine ⟨?_, ?_⟩
    · cases h2.dp R
      rfl
    · rw [non_v (h1.dp R)]
      exact k.here t R (.bl _) f
  · exact f.elim
theorem od_isnot : OpD P n X (fun x y H Q => y = .non ∧ Q (.bl (!decide (x = .non))) H) notD := fun x y dx dy F G ρ σ H Q0 Q t R h1 h2 f k => by
  unfold notD at f
  split at f
  · refine ⟨?_, ?_⟩
    · cases h2.dp R
      rfl
    · rw [non_v (h1.dp R)]
      exact k.here t R (.bl _) f
  · exact f.elim
end
def negD : PyData → (PyData → Prop) → Prop := fun x Q => match x with
  | .int i => Q (.int (-i))
  | _ => False
def ixD : OpT := fun x y Q => match x, y with
  | .list ds, .int i => match atI ds i with
    | some d => Q d
    | none => False
  | .tuple ds, .int i => match atI ds i with
    | some d => Q d
    | none => False
  | .str z, .int i => z.length ≤ sizeLine ∧ match atI z.cps.toList i with
    | some c => Q (.str ⟨#[c]⟩)
    | none => False
  | _, _ => False
def lenD : PyData → (PyData → Prop) → Prop := fun x Q => match x with
  | .list ds => Q (.int (ds.length : Nat))
  | .tuple ds => Q (.int (ds.length : Nat))
  | .str z => z.length ≤ sizeLine ∧ Q (.int (z.length : Nat))
  | _ => False
def allD : PyData → (PyData → Prop) → Prop := fun x Q => ∃ bs : List Bool, x = .list (bs.map .bool) ∧ Q (.bool (bs.all id))
def maxD : PyData → (PyData → Prop) → Prop := fun x Q => ∃ ns : List Int, x = .list (ns.map .int) ∧ 0 < ns.length ∧ ∀ m, m ∈ ns → (∀ y, y ∈ ns → y ≤ m) → Q (.int m)
def listD : PyData → (PyData → Prop) → Prop := fun x Q => match x with
  | .list ds => Q (.list ds)
  | .tuple ds => Q (.list ds)
  | _ => False
def tupleD : PyData → (PyData → Prop) → Prop := fun x Q => match x with
  | .list ds => Q (.tuple ds)
  | .tuple ds => Q (.tuple ds)
  | _ => False
section
variable {P : Tb} {G0 : Hp} {n : Nat} {X : Cx} {a b e : Expr} {pos : Pos}
abbrev rIxA (K : PySem.W.Frag) : R2 := fun x y H Q => rIxL K x y H Q ∨ rIxT K x y H Q ∨ rIxS x y H Q
theorem ix_A : IxR X (rIxA X.K) := IxR.or ix_list (IxR.or ix_tup ix_str)
theorem od_ix : OpD P n X (rIxA X.K) ixD := fun x y dx dy F G ρ σ H Q0 Q t R h1 h2 f k => by
  unfold ixD at f
  split at f
  · obtain ⟨a, xs, rfl, ha, da⟩ := h1.list R
    cases h2.int
    split at f
    · rename_i d q
      obtain ⟨x, q1, q2⟩ := dpa_ati da q
      exact .inl ⟨a, xs, _, x, rfl, rfl, ha, q1, k.here t R q2 f⟩
    · exact f.elim
  · obtain ⟨a, xs, rfl, ha, da, _⟩ := h1.tup R
    cases h2.int
    split at f
    · rename_i d q
      obtain ⟨x, q1, q2⟩ := dpa_ati da q
      exact .inr (.inl ⟨a, xs, _, x, rfl, rfl, ha, q1, k.here t R q2 f⟩)
    · exact f.elim
  · cases h1.str
    cases h2.int
    obtain ⟨l, f⟩ := f
    split at f
    · rename_i d q
      exact .inr (.inr ⟨_, _, _, rfl, rfl, l, q, k.here t R (.str _) f⟩)
    · exact f.elim
  · exact f.elim
theorem de_ix {ta tb : DTR} (ha : DR P G0 n X a ta) (hb : DR P G0 n X b tb) (hs : PlainIx b := by exact fun _ _ => rfl) : DE P G0 n X (.Subscript a b pos) (dOp ixD ta tb) := pe_weak (pe_ix ix_A ha hb hs) fun _ _ _ h => op_read od_ix h
abbrev rLenA (K : PySem.W.Frag) : List V → Hp → VK → Prop := fun xs H Q => (∃ p ys, xs = [.ref p] ∧ (SqL K H p ys ∨ SqT K H p ys) ∧ Q (.int ys.length) H) ∨ (∃ z, xs = [.str z] ∧ z.length ≤ sizeLine ∧ Q (.int z.length) H)
theorem call_lenA : CallR X (.builtin "len") (rLenA X.K) := CallR.or call_len_seq call_len_str
theorem cd_len : CaD P n X (rLenA X.K) lenD := fun x dx F G ρ σ H Q0 Q t R h f k => by
  unfold lenD at f
  split at f
  · obtain ⟨a, xs, rfl, ha, da⟩ := h.list R
    exact .inl ⟨a, xs, rfl, .inl ha, by rw [dpa_len da]; exact k.here t R (.int _) f⟩
  · obtain ⟨a, xs, rfl, ha, da, _⟩ := h.tup R
    exact .inl ⟨a, xs, rfl, .inr ha, by rw [dpa_len da]; exact k.here t R (.int _) f⟩
  · cases h.str
    exact .inr ⟨_, rfl, f.1, k.here t R (.int _) f.2⟩
  · exact f.elim
theorem cd_all : CaD P n X (rAll X.K) allD := fun x dx F G ρ σ H Q0 Q t R h ⟨bs, e, f⟩ k => by
  subst e
  obtain ⟨a, xs, rfl, ha, da⟩ := h.list R
  cases dpa_bls da
  exact ⟨a, bs, rfl, ha, k.here t R (.bl _) f⟩
theorem cd_max : CaD P n X (rMax X.K) maxD := fun x dx F G ρ σ H Q0 Q t R h ⟨bs, e, l, f⟩ k => by
  subst e
  obtain ⟨a, xs, rfl, ha, da⟩ := h.list R
  cases dpa_ints da
  exact ⟨a, bs, rfl, ha, l, fun m h1 h2 => k.here t R (.int _) (f m h1 h2)⟩
theorem cd_tuple : CaD P n X (rTupF X.K) tupleD := fun x dx F G ρ σ H Q0 Q t R h f k => by
  unfold tupleD at f
  split at f
  · obtain ⟨a, xs, rfl, ha, da⟩ := h.list R
    exact ⟨a, xs, rfl, .inl ⟨ha, fun l ob hl hd => k.new t R hl (fun s => .tup (.inl (.inr ⟨ob, upd_same⟩)) (DwAll.mono s da)) f hd⟩⟩
  · obtain ⟨a, xs, rfl, ha, da, d⟩ := h.tup R
    exact ⟨a, xs, rfl, .inr ⟨ha, k.here t R d f⟩⟩
  · exact f.elim
/-- isinstance, of any data -/
def isiD (kf : PyData → Bool) (D : PyData) (Q : PyData → Prop) : Prop := Q (.bool (kf D))
theorem de_isi {T : String} {kf : PyData → Bool} {t : DTR} {p p2 : Pos} (hk : KitF T kf) (hg : Gl X "isinstance") (hm : X.mg "isinstance" = none) {x : Str} (hg2 : Gl X x) (hm2 : X.mg x = none) (hv : bootBuiltins x = some (.type T)) (hn : x ≠ "__name__" := by decide) (hd : (x == ("__debug__" : Str)) = false := by decide)
    (ha : DR P G0 n X a t) (hs : starEach [a, .Name x p2] X.env = (false, eval a X.env) :: starEach [.Name x p2] X.env := by rfl) (hs2 : starEach [.Name x p2] X.env = (false, eval (.Name x p2) X.env) :: starEach [] X.env := by rfl) (hpl : (backTo pos (starEach [.Name x p2] X.env)).any (·.1) = false := by rfl) :
    DE P G0 n X (.Call (.Name "isinstance" p) [a, .Name x p2] [] pos) (dUn (isiD kf) t) :=
  pe_weak (pe_callB call_isY hg hm (by decide +kernel) (pa_cons ha (pa_cons (pe_bltn (v := .ty T) hg2 hm2 hv rfl hn hd) pa_nil hs2) hs) (by decide) (by decide) hs hpl) fun σ H Q ⟨F, ρ, G, Q0, s, R, h, k⟩ =>
    ⟨F, ρ, G, _, s, R, h, fun r1 ρ1 v1 G1 H1 h1 s1 a1 R1 d1 => by
      unfold derefW at h1
      split at h1
      · rename_i D1 e1
        have d := (dq_of R1 d1 e1).dp R1
        obtain ⟨t, ty, e⟩ := tyAll hk d
        exact ⟨_, _, _, _, _, rfl, .ty _, ty, e, (k.after s1 a1).here s1.2 R1 (.bl _) h1⟩
      · exact h1.elim⟩
theorem de_isiSq {t : DTR} {p p2 p3 p4 : Pos} {j : Nat} (hg : Gl X "isinstance") (hm : X.mg "isinstance" = none) (hg2 : Gl X "list") (hm2 : X.mg "list" = none) (hg3 : Gl X "tuple") (hm3 : X.mg "tuple" = none)
    (ha : DR P G0 n X a t) (hs : starEach [a, .Tuple [.Name "list" p2, .Name "tuple" p3] j p4] X.env = (false, eval a X.env) :: starEach [.Tuple [.Name "list" p2, .Name "tuple" p3] j p4] X.env := by rfl)
    (hs2 : starEach [.Tuple [.Name "list" p2, .Name "tuple" p3] j p4] X.env = (false, eval (.Tuple [.Name "list" p2, .Name "tuple" p3] j p4) X.env) :: starEach [] X.env := by rfl)
    (hs3 : starEach [.Name "list" p2, .Name "tuple" p3] X.env = (false, eval (.Name "list" p2) X.env) :: starEach [.Name "tuple" p3] X.env := by rfl) (hs4 : starEach [.Name "tuple" p3] X.env = (false, eval (.Name "tuple" p3) X.env) :: starEach [] X.env := by rfl)
    (hpl : (backTo pos (starEach [.Tuple [.Name "list" p2, .Name "tuple" p3] j p4] X.env)).any (·.1) = false := by rfl) :
    DE P G0 n X (.Call (.Name "isinstance" p) [a, .Tuple [.Name "list" p2, .Name "tuple" p3] j p4] [] pos) (dUn (isiD isSq) t) :=
  pe_weak (pe_callB call_isYT hg hm (by decide +kernel) (pa_cons ha (pa_cons (pe_tup (pa_cons (pe_bltn (v := .ty "list") hg2 hm2 (by decide +kernel) rfl) (pa_cons (pe_bltn (v := .ty "tuple") hg3 hm3 (by decide +kernel) rfl) pa_nil hs4) hs3)) pa_nil hs2) hs) (by decide) (by decide) hs hpl) fun σ H Q ⟨F, ρ, G, Q0, s, R, h, k⟩ =>
    ⟨F, ρ, G, _, s, R, h, fun r1 ρ1 v1 G1 H1 h1 s1 a1 R1 d1 => by
      unfold derefW at h1
      split at h1
      · rename_i D1 e1
        refine ⟨by show 2 ≤ sizeLine; decide, fun q hq => ?_⟩
        have d := (dq_of R1 d1 e1).dp R1
        obtain ⟨gq, R2⟩ := R1.new (o := .tup [.ty "list", .ty "tuple"]) s1.2 hq rfl
        have s2 := Ex.new s1.2 gq (o := .tup [.ty "list", .ty "tuple"])
        have d2 : Dw (zOf X P) (upd H1 q (.tup [.ty "list", .ty "tuple"])) v1 D1 := Da.Dw.xt (fun b u e => by rw [upd_ne (ne_of_none e hq)]; exact e) d
        obtain ⟨t, ty, e⟩ := tySeq d2
        exact ⟨_, q, _, _, _, _, rfl, upd_same, .cons (.ty _) (.cons (.ty _) .nil), ty, e, ((k.after s1 a1).after s2 Alike.refl).here s2.2 R2 (.bl _) h1⟩
      · exact h1.elim⟩
abbrev DTO := Sto → (Option Int → Sto → Prop) → Prop
def KnO (K : Zw) (F : List (Addr × HO)) (n : Nat) (Q0 : Option Int → Sto → Prop) (ρ : Sto) (G : Hp) (σ : L2.St) (Q : Option Int → Hp → Prop) : Prop :=
  ∀ o ρ' G' H', Q0 o ρ' → Ex K.T G G' → Alike n ρ ρ' → Rep K F G' ρ' σ H' → Q o H'
def rdO (K : Zw) (G0 : Hp) (n : Nat) (t : DTO) : TO := fun σ H Q => ∃ F ρ G Q0, Ex K.T G0 G ∧ Rep K F G ρ σ H ∧ t ρ Q0 ∧ KnO K F n Q0 ρ G σ Q
def DO (P : Tb) (G0 : Hp) (n : Nat) (X : Cx) (e : Option Expr) (t : DTO) : Prop := PO X e (rdO (zOf X P) G0 n t)
theorem po_weak {X : Cx} {e : Option Expr} {t t' : TO} (h : PO X e t) (i : ∀ σ H Q, t' σ H Q → t σ H Q) : PO X e t' := ⟨fun pins s σ H Q I q => h.run pins s σ H Q I (i σ H Q q)⟩
theorem do_none : DO P G0 n X none (fun ρ Q => Q none ρ) := po_weak po_none fun σ H Q ⟨F, ρ, G, Q0, s, R, h, k⟩ => k _ ρ G H h (Ex.refl s.2) Alike.refl R
theorem do_some {t : DTE} (h : DE P G0 n X e t) : DO P G0 n X (some e) (fun ρ Q => t ρ fun D ρ' => match D with
  | .int i => Q (some i) ρ'
  | _ => False) := po_weak (po_some h) fun σ H Q ⟨F, ρ, G, Q0, s, R, h, k⟩ => ⟨F, ρ, G, _, s, R, h, fun D ρ' v G' H' q s' al R' d => by
    split at q
    · cases d
      exact ⟨_, rfl, k _ ρ' G' H' q s' al R'⟩
    · exact q.elim⟩
def slD (x : PyData) (lo hi : Option Int) (Q : PyData → Prop) : Prop := match x with
  | .list ds => Q (.list (cutD ds lo hi))
  | .tuple ds => Q (.tuple (cutD ds lo hi))
  | _ => False
abbrev rSlAll (K : PySem.W.Frag) : V → Option Int → Option Int → Hp → VK → Prop := fun x lo hi H Q => rSlL K x lo hi H Q ∨ rSlF K x lo hi H Q
theorem sl_all : SlR X (rSlAll X.K) := SlR.or sl_list sl_tupF
theorem de_slice {lo hi : Option Expr} {p2 : Pos} {t : DTR} {tl th : DTO} (ha : DR P G0 n X a t) (hl : DO P G0 n X lo tl) (hh : DO P G0 n X hi th) : DE P G0 n X (.Subscript a (.Slice lo hi none p2) pos)
    (fun ρ Q => t ρ fun r ρ1 => tl ρ1 fun l ρ2 => th ρ2 fun u ρ3 => derefW ρ3 r fun x => slD x l u fun z => Q z ρ3) := pe_weak (pe_slice sl_all ha hl hh) fun σ H Q ⟨F, ρ, G, Q0, s, R, h, k⟩ =>
  ⟨F, ρ, G, _, s, R, h, fun r1 ρ1 v1 G1 H1 h1 s1 a1 R1 d1 => ⟨F, ρ1, G1, _, s.trans s1, R1, h1, fun l ρ2 G2 H2 h2 s2 a2 R2 => ⟨F, ρ2, G2, _, (s.trans s1).trans s2, R2, h2, fun u ρ3 G3 H3 h3 s3 a3 R3 => by
    unfold derefW at h3
    split at h3
    · rename_i D e
      have dq := dq_of R3 (d1.mono (s2.trans s3)) e
      have k' := k.after ((s1.trans s2).trans s3) ((a1.trans a2).trans a3)
      unfold slD at h3
      split at h3
      · obtain ⟨a, xs, rfl, ha, da⟩ := dq.list R3
        exact .inl ⟨a, xs, rfl, ha, fun p hp => k'.new s3.2 R3 hp (fun s4 => .lst (.inl (.inl upd_same)) (dpa_cut (DwAll.mono s4 da) l u)) h3⟩
      · rename_i ds
        obtain ⟨a, xs, rfl, ha, da, d⟩ := dq.tup R3
        refine .inr ⟨a, xs, rfl, ha, fun z => ?_, fun z p ob hp hd => k'.new s3.2 R3 hp (fun s4 => .tup (.inl (.inr ⟨ob, upd_same⟩)) (dpa_cut (DwAll.mono s4 da) l u)) h3 hd⟩
        have : cutD ds l u = ds := by
          unfold cutD
          rw [← dpa_len da, z.1, z.2, List.drop_zero, dpa_len da, Nat.sub_zero, List.take_length]
        rw [this] at h3
        exact k'.here s3.2 R3 d h3
      · exact h3.elim
    · exact h3.elim⟩⟩⟩
theorem chain_read {r r' : R2} {f g : OpT} {ta tb tc : DTR} (o : OpD P n X r f) (o' : OpD P n X r' g) {σ : L2.St} {H : Hp} {Q : VK} (h : rdE (zOf X P) G0 n (dChain f g ta tb tc) σ H Q) : tChain r r' (rdR (zOf X P) G0 n ta) (rdR (zOf X P) G0 n tb) (rdR (zOf X P) G0 n tc) σ H Q := by
  obtain ⟨F, ρ, G, Q0, s, R, h, k⟩ := h
  refine ⟨F, ρ, G, _, s, R, h, fun r1 ρ1 v1 G1 H1 h1 s1 a1 R1 d1 => ⟨F, ρ1, G1, _, s.trans s1, R1, h1, fun r2 ρ2 v2 G2 H2 h2 s2 a2 R2 d2 => ?_⟩⟩
  unfold derefW at h2
  split at h2
  · rename_i D1 e1
    split at h2
    · rename_i D2 e2
      refine o v1 v2 D1 D2 F G2 ρ2 σ H2 (fun z ρ' => ρ' = ρ2 ∧ (match z with
        | .bool b => if b = true then tc ρ2 fun w ρ3 => derefW ρ3 r2 fun y => derefW ρ3 w fun u => g y u fun z => Q0 z ρ3 else Q0 (.bool false) ρ2
        | _ => False)) _ s2.2 R2 (dq_of R2 (d1.mono s2) e1) (dq_of R2 d2 e2) (by
          have : (fun (z : PyData) => (match z with
            | .bool b => if b = true then tc ρ2 fun w ρ3 => derefW ρ3 r2 fun y => derefW ρ3 w fun u => g y u fun z => Q0 z ρ3 else Q0 (.bool false) ρ2
            | _ => False : Prop)) = fun (z : PyData) => ρ2 = ρ2 ∧ (match z with
            | .bool b => if b = true then tc ρ2 fun w ρ3 => derefW ρ3 r2 fun y => derefW ρ3 w fun u => g y u fun z => Q0 z ρ3 else Q0 (.bool false) ρ2
            | _ => False) := funext fun z => propext ⟨fun q => ⟨rfl, q⟩, fun q => q.2⟩
          rw [← this]
          exact h2) (fun z ρ3 v3 G3 H3 h3 s3 a3 R3 d3 => ?_)
      obtain ⟨rfl, h3⟩ := h3
      split at h3
      · rename_i bb
        cases d3
        refine ⟨bb, rfl, ?_⟩
        cases bb with
        | false => exact k _ _ _ _ _ h3 ((s1.trans s2).trans s3) ((a1.trans a2).trans a3) R3 (.bl _)
        | true =>
          refine ⟨F, ρ3, G3, _, ((s.trans s1).trans s2).trans s3, R3, h3, fun r4 ρ4 v4 G4 H4 h4 s4 a4 R4 d4 => ?_⟩
          unfold derefW at h4
          split at h4
          · rename_i D3 e3
            split at h4
            · rename_i D4 e4
              exact o' v2 v4 D3 D4 F G4 ρ4 σ H4 Q0 Q s4.2 R4 (dq_of R4 (d2.mono (s3.trans s4)) e3) (dq_of R4 d4 e4) h4 (k.after (((s1.trans s2).trans s3).trans s4) (((a1.trans a2).trans a3).trans a4))
            · exact h4.elim
          · exact h4.elim
      · exact h3.elim
    · exact h2.elim
  · exact h2.elim
theorem dt_chain {c : Expr} {op op' : CmpOp} {r r' : R2} {f g : OpT} {ta tb tc : DTR} (ho : OpR X (compareOp op) r) (o : OpD P n X r f) (ho' : OpR X (compareOp op') r') (o' : OpD P n X r' g) (ha : DR P G0 n X a ta) (hb : DR P G0 n X b tb) (hc : DR P G0 n X c tc)
    (hm : lastMarks [op, op'] [b, c] = false := by with_unfolding_all rfl) : DT P G0 n X (.Compare a [op, op'] [b, c] pos) (toB (dChain f g ta tb tc)) := pt_weak (pt_chain ho ho' ha hb hc hm) fun _ _ _ h => chain_read o o' (b_read h)
end
end Dl
set_option Elab.async false
set_option linter.all false
set_option maxRecDepth 100000
set_option maxHeartbeats 4000000
namespace SoRv
open PySem PySem.Spec PyProof.Rows L2 RT
section
variable {prog : Program} {w : World} {A : Around} {E : Value → Shared → Prop} {s : Shared}
end
end SoRv
set_option Elab.async false
set_option linter.all false
set_option maxRecDepth 100000
set_option maxHeartbeats 4000000
namespace SoRv
open PySem PySem.Spec PyProof.Rows L2 RT
section
variable {prog : Program} {w : World} {A : Around} {E : Value → Shared → Prop} {s : Shared}
end
end SoRv
set_option Elab.async false
set_option linter.all false
set_option maxRecDepth 100000
set_option maxHeartbeats 4000000
namespace SoZl
open PySem PySem.Spec PyProof.Rows L2
section
variable {prog : Program} {w : World} {A : Around} {E : Value → Shared → Prop} {s : Shared} {S z TI TO i1 i2 l1 l2 : Addr} {i : Nat} {xs ys : Array Value} {x y : Value}
end
/-- the list's tuples -/
def Zd (H : Hp) (ts : List Addr) (qs : List (V × V)) : Prop := Paired (fun (t : Addr) (q : V × V) => H t = some (.tup [q.1, q.2])) ts qs
theorem Zd.mono {H H' : Hp} : ∀ {ts : List Addr} {qs : List (V × V)}, (∀ t xs, H t = some (.tup xs) → H' t = some (.tup xs)) → Zd H ts qs → Zd H' ts qs
  | _, _, _, .nil => .nil
  | _, _, k, .cons h r => .cons (k _ _ h) (Zd.mono k r)
section
variable {X : Cx} {pins : List (Addr × Obj)} {σ : L2.St} {A : Around} {R : Result → Shared → Prop} {S z TI TO i1 i2 l1 l2 : Addr} {res : Value} {xs ys : List V}
end
end SoZl
set_option Elab.async false
set_option linter.all false
set_option maxRecDepth 100000
set_option maxHeartbeats 4000000
namespace Dl
open PySem PySem.Spec PyProof PyProof.Rows L2 So Da
def nbO : Option Lc → Prop
  | some (.ob _ _) => False
  | _ => True
def noOb (ρ : Sto) (i : Nat) : Prop := nbO ρ[i]?
theorem noOb_ne {ρ : Sto} {i : Nat} (h : noOb ρ i) : ∀ a c, ρ[i]? ≠ some (.ob a c) := fun a c e => by
  unfold noOb at h
  rw [e] at h
  exact h
theorem Alike.set {n i : Nat} {ρ : Sto} {lc : Lc} (h : noOb ρ i) : Alike n ρ (ρ.set i lc) := fun j a c _ e => by
  have q : i ≠ j := fun z => noOb_ne h a c (z ▸ e)
  exact ⟨c, by rw [List.getElem?_set_ne q]; exact e⟩
abbrev DTG := PyData → Sto → (Sto → Prop) → Prop
abbrev DTGs := List PyData → Sto → (Sto → Prop) → Prop
/-- only these slots have changed -/
def Chg (is : List Nat) (σ σ' : L2.St) : Prop := σ'.length = σ.length ∧ ∀ j, j ∉ is → σ'[j]? = σ[j]?
theorem Chg.refl {is : List Nat} {σ : L2.St} : Chg is σ σ := ⟨rfl, fun _ _ => rfl⟩
theorem Chg.trans {is js : List Nat} {σ σ1 σ2 : L2.St} (a : Chg is σ σ1) (b : Chg js σ1 σ2) : Chg (is ++ js) σ σ2 := ⟨b.1.trans a.1, fun j h => by
  rw [List.mem_append] at h
  rw [b.2 j (fun z => h (.inr z)), a.2 j (fun z => h (.inl z))]⟩
def KnG (K : Zw) (F : List (Addr × HO)) (n : Nat) (is : List Nat) (Q0 : Sto → Prop) (ρ : Sto) (G : Hp) (σ : L2.St) (Q : L2.St → Hp → Prop) : Prop :=
  ∀ ρ' σ' G' H', Q0 ρ' → Ex K.T G G' → Alike n ρ ρ' → Chg is σ σ' → Rep K F G' ρ' σ' H' → Q σ' H'
def rdG (K : Zw) (G0 : Hp) (n : Nat) (is : List Nat) (t : DTG) : TG := fun v σ H Q => ∃ F ρ G D Q0, Ex K.T G0 G ∧ Rep K F G ρ σ H ∧ Dw K G v D ∧ t D ρ Q0 ∧ KnG K F n is Q0 ρ G σ Q
def rdGs (K : Zw) (G0 : Hp) (n : Nat) (is : List Nat) (t : DTGs) : TGs := fun vs σ H Q => ∃ F ρ G Ds Q0, Ex K.T G0 G ∧ Rep K F G ρ σ H ∧ DwAll K G vs Ds ∧ t Ds ρ Q0 ∧ KnG K F n is Q0 ρ G σ Q
def DG (P : Tb) (G0 : Hp) (n : Nat) (X : Cx) (is : List Nat) (e : Expr) (t : DTG) : Prop := PG X e (rdG (zOf X P) G0 n is t)
def DGs (P : Tb) (G0 : Hp) (n : Nat) (X : Cx) (is : List Nat) (es : List Expr) (t : DTGs) : Prop := PGs X es (rdGs (zOf X P) G0 n is t)
section
variable {P : Tb} {G0 : Hp} {n : Nat} {X : Cx} {is js : List Nat} {e : Expr} {es : List Expr} {pos : Pos}
theorem pg_weak {t t' : TG} (h : PG X e t) (i : ∀ v σ H Q, t' v σ H Q → t v σ H Q) : PG X e t' := ⟨fun pins s σ H v u Q I r q => h.run pins s σ H v u Q I r (i v σ H Q q)⟩
theorem pgs_weak {t t' : TGs} (h : PGs X es t) (i : ∀ v σ H Q, t' v σ H Q → t v σ H Q) : PGs X es t' := ⟨fun pins s σ H v u Q I r q => h.run pins s σ H v u Q I r (i v σ H Q q)⟩
theorem pg_or {t t' : TG} (h : PG X e t) (h' : PG X e t') : PG X e (fun v σ H Q => t v σ H Q ∨ t' v σ H Q) := ⟨fun pins s σ H v u Q I r q => q.elim (h.run pins s σ H v u Q I r) (h'.run pins s σ H v u Q I r)⟩
def dgName (i : Nat) : DTG := fun D ρ Q => noOb ρ i ∧ Q (ρ.set i (.sh D))
theorem dg_name {i : Nat} {x : Str} (hN : X.N.Nodup) (hi : X.N[i]? = some x) (hx : Loc X.env.scope x) (hf : X.fn x = true ∨ X.env.scope.names.lookup x = some .local := by first | exact .inl rfl | exact .inr rfl | assumption) : DG P G0 n X [i] (.Name x pos) (dgName i) :=
  pg_weak (pg_name hN hi hx hf) fun v σ H Q ⟨F, ρ, G, D, Q0, s, R, d, ⟨h1, h2⟩, k⟩ => k _ _ G H h2 (Ex.refl s.2) (.set h1) ⟨List.length_set .., fun j hj => List.getElem?_set_ne (fun z => hj (List.mem_singleton.mpr z.symm))⟩ (R.set (noOb_ne h1) d)
def dgNil : DTGs := fun Ds ρ Q => Ds = [] ∧ Q ρ
def dgCons (t : DTG) (u : DTGs) : DTGs := fun Ds ρ Q => match Ds with
  | D :: r => t D ρ fun ρ' => u r ρ' Q
  | [] => False
theorem dgs_nil : DGs P G0 n X [] [] dgNil := pgs_weak pgs_nil fun v σ H Q ⟨F, ρ, G, Ds, Q0, s, R, d, ⟨h1, h2⟩, k⟩ => by
  subst h1
  cases d
  exact ⟨rfl, k _ _ G H h2 (Ex.refl s.2) .refl .refl R⟩
theorem dgs_cons {t : DTG} {u : DTGs} (h1 : DG P G0 n X is e t) (h2 : DGs P G0 n X js es u) (ha : (assignEach (e :: es) X.env).map (·.2) = assign e X.env :: (assignEach es X.env).map (·.2) := by rfl) : DGs P G0 n X (is ++ js) (e :: es) (dgCons t u) :=
  pgs_weak (pgs_cons h1 h2 ha) fun v σ H Q ⟨F, ρ, G, Ds, Q0, s, R, d, h, k⟩ => by
    unfold dgCons at h
    split at h
    · cases d with
      | cons a b =>
        exact ⟨_, _, rfl, F, ρ, G, _, _, s, R, a, h, fun ρ' σ' G' H' q s' al c R' => ⟨F, ρ', G', _, Q0, s.trans s', R', DwAll.mono s' b, q, fun ρ2 σ2 G2 H2 q2 s2 al2 c2 R2 => k ρ2 σ2 G2 H2 q2 (s'.trans s2) (al.trans al2) (c.trans c2) R2⟩⟩
    · exact h.elim
def dgSeq (m : Nat) (u : DTGs) : DTG := fun D ρ Q => match D with
  | .tuple ds => ds.length = m ∧ u ds ρ Q
  | .list ds => ds.length = m ∧ u ds ρ Q
  | _ => False
theorem dg_seq {k m : Nat} {u : DTGs} (hc : X.calm = true) (h : DGs P G0 n X is es u) (hn : (assignEach es X.env).length = m := by rfl) (hst : (assignEach es X.env).findIdx? (·.1) = none := by rfl) : DG P G0 n X is (.Tuple es k pos) (dgSeq m u) :=
  pg_weak (pg_or (pg_tup hc h hn hst) (pg_unl hc h hn hst)) fun v σ H Q ⟨F, ρ, G, D, Q0, s, R, d, h, kk⟩ => by
    unfold dgSeq at h
    split at h
    · cases d with
      | tup a b => exact .inl ⟨_, _, rfl, (R.sm s.2).tup a, by rw [dpa_len b]; exact h.1, F, ρ, G, _, Q0, s, R, b, h.2, kk⟩
    · cases d with
      | lst a b => exact .inr ⟨_, _, rfl, (R.sm s.2).lst a, by rw [dpa_len b]; exact h.1, F, ρ, G, _, Q0, s, R, b, h.2, kk⟩
    · exact h.elim
end
structure Wk (K : Zw) (J : It) (Ds : List PyData) (G' : Hp) : Prop where
  goes : ∀ {i : Nat} {H G1 : Hp} {F : List (Addr × HO)} {ρ : Sto} {σ : L2.St}, i < Ds.length → Ex K.T G' G1 → Rep K F G1 ρ σ H → J.go i H
  stops : ∀ {H G1 : Hp} {F : List (Addr × HO)} {ρ : Sto} {σ : L2.St}, Ex K.T G' G1 → Rep K F G1 ρ σ H → J.stop Ds.length H
  yields : ∀ {i : Nat} {H : Hp} {x : V} {H' G1 : Hp} {F : List (Addr × HO)} {ρ : Sto} {σ : L2.St}, i < Ds.length → Ex K.T G' G1 → Rep K F G1 ρ σ H → J.yld i H x H' →
    ∃ d G2, Ds[i]? = some d ∧ Ex K.T G1 G2 ∧ Rep K F G2 ρ σ H' ∧ Dw K G2 x d
abbrev DTI := Sto → (List PyData → Sto → Prop) → Prop
def rdI (K : Zw) (G0 : Hp) (n : Nat) (t : DTI) : TI := fun σ H R => ∃ F ρ G Q0, Ex K.T G0 G ∧ Rep K F G ρ σ H ∧ t ρ Q0 ∧
  ∀ Ds ρ' G' H' J, Q0 Ds ρ' → Ex K.T G G' → Alike n ρ ρ' → Rep K F G' ρ' σ H' → Wk K J Ds G' → R J H'
def DI (P : Tb) (G0 : Hp) (n : Nat) (X : Cx) (tg iter : Expr) (t : DTI) : Prop := PI X tg iter (rdI (zOf X P) G0 n t)
theorem pi_weak {X : Cx} {tg iter : Expr} {t t' : TI} (h : PI X tg iter t) (i : ∀ σ H R, t' σ H R → t σ H R) : PI X tg iter t' := ⟨fun pins s σ H R I q => h.run pins s σ H R I (i σ H R q)⟩
section
variable {P : Tb} {G0 : Hp} {n : Nat} {X : Cx} {tg e e2 : Expr} {pos : Pos}
theorem wk_at {K : Zw} {J : It} {xs : List V} {Gd : Hp → Prop} {Ds : List PyData} {G' : Hp} (t : Tg G' K.T) (w : Walk J xs.length Gd (YAt xs)) (g : ∀ H, Ex K.T G' H → Gd H) (d : DwAll K G' xs Ds) : Wk K J Ds G' := by
  have l := dpa_len d
  refine ⟨fun h s R => w.goes _ _ (by omega) (g _ (s.trans (R.sm s.2))), fun s R => by rw [← l]; exact w.stops _ (g _ (s.trans (R.sm s.2))), fun {i H x H' G1 F ρ σ} h s R y => ?_⟩
  obtain ⟨rfl, e⟩ := w.yields _ _ _ _ (by omega) (g _ (s.trans (R.sm s.2))) y
  obtain ⟨d', h1, h2⟩ := dpa_at d e
  exact ⟨d', G1, h1, Ex.refl s.2, R, Dw.mono s h2⟩
theorem wk_pair {K : Zw} {J : It} {m : Nat} {fx fy : Nat → Option V} {Gd : Hp → Prop} {Ds : List PyData} {G' : Hp} (w : Walk J m Gd (YPair fx fy)) (l : Ds.length = m) (g : ∀ H, Ex K.T G' H → Gd H) (d : ∀ i x y, i < m → fx i = some x → fy i = some y → ∀ H, Ex K.T G' H → ∃ dx dy, Ds[i]? = some (.tuple [dx, dy]) ∧ Dw K H x dx ∧ Dw K H y dy ∧ txV [x, y] = false) : Wk K J Ds G' := by
  refine ⟨fun h s R => w.goes _ _ (by omega) (g _ (s.trans (R.sm s.2))), fun s R => by rw [l]; exact w.stops _ (g _ (s.trans (R.sm s.2))), fun {i H x H' G1 F ρ σ} h s R y => ?_⟩
  obtain ⟨T, x1, y1, rfl, hT, rfl, h1, h2⟩ := w.yields _ _ _ _ (by omega) (g _ (s.trans (R.sm s.2))) y
  obtain ⟨dx, dy, q, q1, q2, q3⟩ := d i x1 y1 (by omega) h1 h2 G1 s
  obtain ⟨gp, R'⟩ := R.new (o := .tup [x1, y1]) s.2 hT q3
  have s2 := Ex.new s.2 gp (o := .tup [x1, y1])
  exact ⟨_, _, q, s2, R', .tup (.inl (.inl upd_same)) (.cons (Dw.mono s2 q1) (.cons (Dw.mono s2 q2) .nil))⟩
def itemsD (D : PyData) (Q : List PyData → Prop) : Prop := match D with
  | .list ds => Q ds
  | .tuple ds => Q ds
  | _ => False
/-- what is walked: a list or a tuple, as it comes -/
def iSqA (K : PySem.W.Frag) (tl : TE) : TI := fun σ H R => tl σ H fun x H1 => ∃ a, x = .ref a ∧ ((∃ xs, SqL K H1 a xs) ∧ R (Itl K a) H1 ∨ (∃ xs, SqT K H1 a xs) ∧ R (Itt K a) H1)
theorem pi_sqA {tl : TE} (hl : PE X e tl) : PI X tg e (iSqA X.K tl) := by
  refine ⟨fun pins s σ H R I h => ?_⟩
  refine thn (hl.run pins s σ H _ I h) fun v s1 ⟨x, H1, I1, r1, q1⟩ => ?_
  obtain ⟨a, rfl, q1⟩ := q1
  cases r1
  rcases q1 with ⟨⟨xs, hq⟩, q⟩ | ⟨⟨xs, hq⟩, q⟩
  · obtain ⟨its, rv, p, hz⟩ := I1.list hq
    refine wpAny_pyIter_list p.isList ?_
    refine ⟨s1.heap.objs.size, [s1.heap.objs.size], _, _, H1, rfl, I1.kept (t' := s1.toks) fun b o e => Heap.get?_push_of_some _ e, turn_list a _, ⟨_, Heap.get?_push_size _ rfl, rfl, rfl⟩, fun b hb => ?_, q⟩
    have e : b = s1.heap.objs.size := by simpa using hb
    subst e
    exact I1.fpOk (Nat.le_refl _) (I1.hok.fresh (Nat.le_refl _))
  · obtain ⟨its, rv, p, hz⟩ := I1.tuple hq
    refine wpAny_pyIter_tuple (show s1.heap.IsTuple a its.toArray from p) ?_
    refine ⟨s1.heap.objs.size, [s1.heap.objs.size], _, _, H1, rfl, I1.kept (t' := s1.toks) fun b o e => Heap.get?_push_of_some _ e, turn_tuple a _, ⟨_, Heap.get?_push_size _ rfl, rfl, rfl⟩, fun b hb => ?_, q⟩
    have e : b = s1.heap.objs.size := by simpa using hb
    subst e
    exact I1.fpOk (Nat.le_refl _) (I1.hok.fresh (Nat.le_refl _))
def iEnA (K : PySem.W.Frag) (ta : TA) : TI := fun σ H R => ta σ H fun vs H1 => ∃ a xs, vs = [.ref a] ∧ (SqL K H1 a xs ∧ R (Ite K a) H1 ∨ SqT K H1 a xs ∧ R (SoE.IteT K a) H1)
theorem pi_enA {ta : TA} {p tpos : Pos} {elts : List Expr} {kk : Nat} (hg : Gl X "enumerate") (hm : X.mg "enumerate" = none) (ha : PA X [e] ta) (hs : starEach [e] X.env = [(false, eval e X.env)] := by rfl) :
    PI X (.Tuple elts kk tpos) (.Call (.Name "enumerate" p) [e] [] pos) (iEnA X.K ta) := by
  refine ⟨fun pins s σ H R I h => ?_⟩
  refine Call_ (ld_blt I hg hm boot_enumerate (PyProof.Rows.callWith_type1 (thn (ha.run pos pins s σ H _ I h) fun us z hz => ?_) hs rfl))
  obtain ⟨vs, H1, I1, r1, a, xs, rfl, q1⟩ := hz
  cases r1 with
  | cons r rr =>
    cases rr
    cases r
    rcases q1 with ⟨hq, q⟩ | ⟨hq, q⟩
    · obtain ⟨its, rv, p', hz⟩ := I1.list hq
      refine call_enumerate_list p'.isList fun h' he hit hsz hk => wpAny_pyIter_enum he ?_
      have I2 : Inv X pins σ H1 { z with heap := h' } := I1.kept (t' := z.toks) hk
      refine ⟨z.heap.objs.size + 1, [z.heap.objs.size + 1, z.heap.objs.size], _, _, H1, rfl, I2, turn_enum a (z.heap.objs.size + 1) z.heap.objs.size, ⟨⟨.none, he⟩, hit, Nat.succ_ne_self _⟩, fun b hb => ?_, q⟩
      have e' : b = z.heap.objs.size + 1 ∨ b = z.heap.objs.size := by simpa using hb
      have hle : z.heap.objs.size ≤ b := by
        rcases e' with y | y
        · rw [y]; exact Nat.le_add_right _ _
        · rw [y]; exact Nat.le_refl _
      exact I1.fpOk hle (I1.hok.fresh hle)
    · obtain ⟨its, rv, p', hz⟩ := I1.tuple hq
      refine SoE.enum_call (begins_tuple a its.toArray) (show z.heap.IsTuple a its.toArray from p') fun h' he hit hsz hk => wpAny_pyIter_enum he ?_
      have I2 : Inv X pins σ H1 { z with heap := h' } := I1.kept (t' := z.toks) hk
      refine ⟨z.heap.objs.size + 1, [z.heap.objs.size + 1, z.heap.objs.size], _, _, H1, rfl, I2, SoE.turn_enumT a (z.heap.objs.size + 1) z.heap.objs.size, ⟨⟨.none, he⟩, ⟨_, hit, rfl, rfl⟩, Nat.succ_ne_self _⟩, fun b hb => ?_, q⟩
      have e' : b = z.heap.objs.size + 1 ∨ b = z.heap.objs.size := by simpa using hb
      have hle : z.heap.objs.size ≤ b := by
        rcases e' with y | y
        · rw [y]; exact Nat.le_add_right _ _
        · rw [y]; exact Nat.le_refl _
      exact I1.fpOk hle (I1.hok.fresh hle)
theorem walk_zipT {K : PySem.W.Frag} {a b : Addr} {xs ys : List V} {n : Nat} (hn : n = min xs.length ys.length) : Walk (RZ.ItzT K a b) n (fun H => SqT K H a xs ∧ SqT K H b ys) (YPair (fun i => xs[i]?) (fun i => ys[i]?)) := by
  subst hn
  refine ⟨fun i _ hi q => ?_, fun _ q => ⟨xs, ys, q.1, q.2, by omega⟩, fun i H v H' _ q y => ?_⟩
  · have h1 : i < xs.length := by omega
    have h2 : i < ys.length := by omega
    exact ⟨xs, ys, xs[i], ys[i], q.1, q.2, by simp [h1], by simp [h2]⟩
  · obtain ⟨T, x, z, h1, h2, h3, h4, h5⟩ := y
    exact ⟨T, x, z, h1, h2, h3, h4 xs q.1, h5 ys q.2⟩
/-- for x in a list or a tuple -/
theorem di_seq {t : DTE} (h : DE P G0 n X e t) : DI P G0 n X tg e (fun ρ Q => t ρ fun D ρ' => itemsD D fun ds => Q ds ρ') := pi_weak (pi_sqA h) fun σ H R ⟨F, ρ, G, Q0, s, Rp, h, k⟩ =>
  ⟨F, ρ, G, _, s, Rp, h, fun D ρ' v G' H' q s' al R' d => by
    unfold itemsD at q
    split at q
    · cases d with
      | lst a b => exact ⟨_, rfl, .inl ⟨⟨_, (R'.sm s'.2).lst a⟩, k _ _ _ _ _ q s' al R' (wk_at s'.2 walk_list (fun H s2 => s2.lst a) b)⟩⟩
    · cases d with
      | tup a b => exact ⟨_, rfl, .inr ⟨⟨_, (R'.sm s'.2).tup a⟩, k _ _ _ _ _ q s' al R' (wk_at s'.2 walk_tup (fun H s2 => s2.tup a) b)⟩⟩
    · exact q.elim⟩
/-- for i, x in enumerate(..) -/
def enumD (ds : List PyData) : List PyData := ds.mapIdx fun i d => .tuple [.int (i : Nat), d]
theorem di_enum {t : DTE} {p tpos : Pos} {elts : List Expr} {kk : Nat} (hg : Gl X "enumerate") (hm : X.mg "enumerate" = none) (h : DE P G0 n X e t) (hs : starEach [e] X.env = [(false, eval e X.env)] := by rfl) (hs2 : starEach [e] X.env = (false, eval e X.env) :: starEach [] X.env := by rfl) :
    DI P G0 n X (.Tuple elts kk tpos) (.Call (.Name "enumerate" p) [e] [] pos) (fun ρ Q => t ρ fun D ρ' => itemsD D fun ds => Q (enumD ds) ρ') := pi_weak (pi_enA hg hm (pa_cons h pa_nil hs2) hs) fun σ H R ⟨F, ρ, G, Q0, s, Rp, h, k⟩ =>
  ⟨F, ρ, G, _, s, Rp, h, fun D ρ' v G' H' q s' al R' d => by
    have key : ∀ {xs : List V} {ds : List PyData}, DwAll (zOf X P) G' xs ds → ∀ i x y, i < xs.length → (fun i : Nat => some (V.int (i : Nat))) i = some x → (fun i => xs[i]?) i = some y → ∀ H, Ex P G' H → ∃ dx dy, (enumD ds)[i]? = some (.tuple [dx, dy]) ∧ Dw (zOf X P) H x dx ∧ Dw (zOf X P) H y dy ∧ txV [x, y] = false := fun {xs ds} b i x y _ e1 e2 H s2 => by
      cases e1
      obtain ⟨d', h1, h2⟩ := dpa_at b e2
      refine ⟨.int (i : Nat), d', ?_, .int _, Dw.mono s2 h2, rfl⟩
      unfold enumD
      rw [List.getElem?_mapIdx, h1]
      rfl
    have len : ∀ {xs : List V} {ds : List PyData}, DwAll (zOf X P) G' xs ds → (enumD ds).length = xs.length := fun b => by unfold enumD; rw [List.length_mapIdx, dpa_len b]
    unfold itemsD at q
    split at q
    · cases d with
      | lst a b => exact ⟨_, _, rfl, .inl ⟨(R'.sm s'.2).lst a, k _ _ _ _ _ q s' al R' (wk_pair walk_enum (len b) (fun H s2 => s2.lst a) (key b))⟩⟩
    · cases d with
      | tup a b => exact ⟨_, _, rfl, .inr ⟨(R'.sm s'.2).tup a, k _ _ _ _ _ q s' al R' (wk_pair SoE.walk_enumT (len b) (fun H s2 => s2.tup a) (key b))⟩⟩
    · exact q.elim⟩
/-- for x, y in zip(..): two lists, or two tuples -/
def zipD (ds es : List PyData) : List PyData := List.zipWith (fun d e => .tuple [d, e]) ds es
def noTx (ds : List PyData) : Bool := ds.all fun d => match d with
  | .str _ => false
  | _ => true
theorem no_tx {K : Zw} {H : Hp} {x y : V} {dx dy : PyData} {ds es : List PyData} (h1 : Dw K H x dx) (h2 : Dw K H y dy) (m1 : dx ∈ ds) (m2 : dy ∈ es) (h : (noTx ds || noTx es) = true) : txV [x, y] = false := by
  cases e : txV [x, y] with
  | false => rfl
  | true =>
    have : ∃ z w, x = .str z ∧ y = .str w := by
      cases x with
      | str z =>
        cases y with
        | str w => exact ⟨z, w, rfl, rfl⟩
        | _ => cases e
      | _ => cases e
    obtain ⟨z, w, rfl, rfl⟩ := this
    cases h1
    cases h2
    rcases Bool.or_eq_true _ _ ▸ h with q | q
    · exact nomatch (List.all_eq_true.mp q _ m1)
    · exact nomatch (List.all_eq_true.mp q _ m2)
def zipW (D E : PyData) (Q : List PyData → Prop) : Prop := match D, E with
  | .list ds, .list es => (noTx ds || noTx es) = true ∧ Q (zipD ds es)
  | .tuple ds, .tuple es => (noTx ds || noTx es) = true ∧ Q (zipD ds es)
  | _, _ => False
theorem di_zip {t u : DTE} {p tpos : Pos} {elts : List Expr} {kk : Nat} (hg : Gl X "zip") (hm : X.mg "zip" = none) (h : DE P G0 n X e t) (h2 : DE P G0 n X e2 u) (hs : starEach [e, e2] X.env = (false, eval e X.env) :: starEach [e2] X.env := by rfl) (hs2 : starEach [e2] X.env = (false, eval e2 X.env) :: starEach [] X.env := by rfl) (hpl : (backTo pos (starEach [e2] X.env)).any (·.1) = false := by rfl) :
    DI P G0 n X (.Tuple elts kk tpos) (.Call (.Name "zip" p) [e, e2] [] pos) (fun ρ Q => t ρ fun D ρ1 => u ρ1 fun E ρ2 => zipW D E fun ds => Q ds ρ2) := pi_weak (RZ.pi_zipA hg hm (pa_cons h (pa_cons h2 pa_nil hs2) hs) hs hpl) fun σ H R ⟨F, ρ, G, Q0, s, Rp, h, k⟩ =>
  ⟨F, ρ, G, _, s, Rp, h, fun D ρ1 v G1 H1 q1 s1 al1 R1 d1 => ⟨F, ρ1, G1, _, s.trans s1, R1, q1, fun E ρ2 v2 G2 H2 q s2 al2 R2 d2 => by
    have d1 := Dw.mono s2 d1
    have key : ∀ {xs ys : List V} {ds es : List PyData}, DwAll (zOf X P) G2 xs ds → DwAll (zOf X P) G2 ys es → (noTx ds || noTx es) = true → ∀ i x y, i < min xs.length ys.length → (fun i => xs[i]?) i = some x → (fun i => ys[i]?) i = some y → ∀ H, Ex P G2 H → ∃ dx dy, (zipD ds es)[i]? = some (.tuple [dx, dy]) ∧ Dw (zOf X P) H x dx ∧ Dw (zOf X P) H y dy ∧ txV [x, y] = false := fun {xs ys ds es} a b nt i x y _ e1 e2 H s3 => by
      obtain ⟨dx, h1, h2⟩ := dpa_at a e1
      obtain ⟨dy, h3, h4⟩ := dpa_at b e2
      refine ⟨dx, dy, ?_, Dw.mono s3 h2, Dw.mono s3 h4, no_tx h2 h4 (List.mem_of_getElem? h1) (List.mem_of_getElem? h3) nt⟩
      unfold zipD
      rw [List.getElem?_zipWith, h1, h3]
    have len : ∀ {xs ys : List V} {ds es : List PyData}, DwAll (zOf X P) G2 xs ds → DwAll (zOf X P) G2 ys es → (zipD ds es).length = min xs.length ys.length := fun a b => by unfold zipD; rw [List.length_zipWith, dpa_len a, dpa_len b]
    unfold zipW at q
    split at q
    · cases d1 with
      | lst a b =>
        cases d2 with
        | lst a2 b2 => exact ⟨_, _, _, _, rfl, .inl ⟨(R2.sm s2.2).lst a, (R2.sm s2.2).lst a2, k _ _ _ _ _ q.2 (s1.trans s2) (al1.trans al2) R2 (wk_pair (walk_zip rfl) (len b b2) (fun H s3 => ⟨s3.lst a, s3.lst a2⟩) (key b b2 q.1))⟩⟩
    · cases d1 with
      | tup a b =>
        cases d2 with
        | tup a2 b2 => exact ⟨_, _, _, _, rfl, .inr ⟨(R2.sm s2.2).tup a, (R2.sm s2.2).tup a2, k _ _ _ _ _ q.2 (s1.trans s2) (al1.trans al2) R2 (wk_pair (walk_zipT rfl) (len b b2) (fun H s3 => ⟨s3.tup a, s3.tup a2⟩) (key b b2 q.1))⟩⟩
    · exact q.elim⟩⟩
/-- for i in range(k), range(j, k) -/
def rngD (lo : Int) (m : Nat) : List PyData := (List.range m).map fun i => .int (lo + (i : Nat))
theorem wk_rng {K : Zw} {lo : Int} {m : Nat} {G' : Hp} : Wk K (Itr lo m) (rngD lo m) G' := by
  have l : (rngD lo m).length = m := by unfold rngD; rw [List.length_map, List.length_range]
  refine ⟨fun h s R => walk_range.goes _ _ (by omega) trivial, fun s R => by rw [l]; exact walk_range.stops _ trivial, fun {i H x H' G1 F ρ σ} h s R y => ?_⟩
  rw [l] at h
  obtain ⟨e1, e2⟩ := walk_range.yields _ _ _ _ h trivial y
  subst e1 e2
  refine ⟨.int (lo + (i : Nat)), G1, ?_, Ex.refl s.2, R, .int _⟩
  unfold rngD
  rw [List.getElem?_map, List.getElem?_range h]
  rfl
theorem di_range {t : DTE} {p : Pos} (hg : Gl X "range") (hm : X.mg "range" = none) (h : DE P G0 n X e t) (hs : starEach [e] X.env = [(false, eval e X.env)] := by rfl) (hs2 : starEach [e] X.env = (false, eval e X.env) :: starEach [] X.env := by rfl) :
    DI P G0 n X tg (.Call (.Name "range" p) [e] [] pos) (fun ρ Q => t ρ fun D ρ' => match D with
      | .int j => -(2 ^ 62) ≤ j ∧ j < 2 ^ 62 ∧ Q (rngD 0 j.toNat) ρ'
      | _ => False) := pi_weak (pi_range1 hg hm (pa_cons h pa_nil hs2) hs) fun σ H R ⟨F, ρ, G, Q0, s, Rp, h, k⟩ =>
  ⟨F, ρ, G, _, s, Rp, h, fun D ρ' v G' H' q s' al R' d => by
    split at q
    · cases d
      exact ⟨_, rfl, q.1, q.2.1, k _ _ _ _ _ q.2.2 s' al R' wk_rng⟩
    · exact q.elim⟩
end
def wipeD (ρ : Sto) : List Nat → Sto
  | [] => ρ
  | v :: vs => (wipeD ρ vs).set v .un
def noObs (ρ : Sto) : List Nat → Prop
  | [] => True
  | v :: vs => noOb ρ v ∧ noObs ρ vs
/-- the items of a comprehension, from the left; its block leaves the slots as they are -/
def lcW (ρw : Sto) (vs : List Nat) (g : DTG) (tt : DTT) (te : DTE) : List PyData → List PyData → (List PyData → Prop) → Prop
  | [], acc, Q => Q acc
  | d :: ds, acc, Q => g d ρw fun ρ1 => tt ρ1 fun b ρ2 => if b = true then te ρ2 fun y ρ3 => (noObs ρ3 vs ∧ wipeD ρ3 vs = ρw) ∧ acc.length < sizeLine ∧ lcW ρw vs g tt te ds (acc ++ [y]) Q else (noObs ρ2 vs ∧ wipeD ρ2 vs = ρw) ∧ lcW ρw vs g tt te ds acc Q
section
variable {K : Zw} {F : List (Addr × HO)} {G G' H H' : Hp} {ρ ρ' : Sto} {σ σ' : L2.St} {n : Nat}
theorem wipeD_length : ∀ vs : List Nat, (wipeD ρ vs).length = ρ.length
  | [] => rfl
  | v :: vs => by unfold wipeD; rw [List.length_set, wipeD_length vs]
theorem wipeD_some0 {lc : Lc} (nu : lc ≠ .un) {i : Nat} : ∀ {vs : List Nat}, (wipeD ρ vs)[i]? = some lc → ρ[i]? = some lc ∧ i ∉ vs
  | [], h => ⟨h, by simp⟩
  | v :: vs, h => by
    unfold wipeD at h
    by_cases hi : v = i
    · subst hi
      rw [List.getElem?_set] at h
      simp only [if_pos] at h
      split at h
      · exact absurd (Option.some.inj h).symm nu
      · cases h
    · rw [List.getElem?_set_ne hi] at h
      obtain ⟨h1, h2⟩ := wipeD_some0 nu (vs := vs) h
      exact ⟨h1, fun z => (List.mem_cons.mp z).elim (fun z => hi z.symm) h2⟩
theorem wipeD_sh {vs : List Nat} {i : Nat} {D : PyData} (h : (wipeD ρ vs)[i]? = some (.sh D)) : ρ[i]? = some (.sh D) ∧ i ∉ vs := wipeD_some0 (fun z => Lc.noConfusion z) h
theorem wipeD_ob {vs : List Nat} {i : Nat} {a : Addr} {c : Oc} (h : (wipeD ρ vs)[i]? = some (.ob a c)) : ρ[i]? = some (.ob a c) ∧ i ∉ vs := wipeD_some0 (fun z => Lc.noConfusion z) h
theorem wipeD_out {i : Nat} : ∀ {vs : List Nat}, i ∉ vs → (wipeD ρ vs)[i]? = ρ[i]?
  | [], _ => rfl
  | v :: vs, h => by
    unfold wipeD
    rw [List.getElem?_set_ne (fun e => h (by rw [e]; exact List.mem_cons_self)), wipeD_out fun m => h (List.mem_cons_of_mem _ m)]
theorem noObs_mem : ∀ {vs : List Nat} {i : Nat}, noObs ρ vs → i ∈ vs → noOb ρ i
  | v :: vs, i, h, m => by
    rcases List.mem_cons.mp m with rfl | m
    · exact h.1
    · exact noObs_mem h.2 m
theorem wipeD_exc {vs : List Nat} {i : Nat} {a C d : Addr} {D : PyData} (h : (wipeD ρ vs)[i]? = some (.exc a C d D)) : ρ[i]? = some (.exc a C d D) ∧ i ∉ vs := wipeD_some0 (fun z => Lc.noConfusion z) h
theorem wipeD_ask {vs : List Nat} {i : Nat} {O : Fk} (h : (wipeD ρ vs)[i]? = some (.ask O)) : ρ[i]? = some (.ask O) ∧ i ∉ vs := wipeD_some0 (fun z => Lc.noConfusion z) h
theorem Rep.wipe {vs : List Nat} (h : noObs ρ vs) (R : Rep K F G ρ σ H) : Rep K F G (wipeD ρ vs) (L2.wipe σ vs) H where
  len := by rw [wipe_length, wipeD_length]; exact R.len
  sh := fun {i D} e => by
    obtain ⟨h1, h2⟩ := wipeD_sh e
    rw [wipe_out h2]
    exact R.sh h1
  ob := fun {i a c} e => by
    obtain ⟨h1, h2⟩ := wipeD_ob e
    rw [wipe_out h2]
    exact R.ob h1
  exc := fun e => by
    obtain ⟨h1, h2⟩ := wipeD_exc e
    rw [wipe_out h2]
    exact R.exc h1
  ask := fun e => by
    obtain ⟨h1, h2⟩ := wipeD_ask e
    rw [wipe_out h2]
    exact R.ask h1
  uniq := fun e e' => R.uniq (wipeD_ob e).1 (wipeD_ob e').1
  ex := fun m => ⟨(R.ex m).1, (R.ex m).2.1, fun ⟨i, c, e⟩ => (R.ex m).2.2.1 ⟨i, c, (wipeD_ob e).1⟩, (R.ex m).2.2.2⟩
  sub := R.sub
  nt := R.nt
/-- the slots that were wiped are as they were -/
theorem Rep.unwipe {vs : List Nat} {F' : List (Addr × HO)} {H1 : Hp} (h : noObs ρ vs) (R : Rep K F G ρ σ H) (s : Ex K.T G G') (R' : Rep K F' G' (wipeD ρ vs) (L2.wipe σ vs) H1) : Rep K F' G' ρ σ H1 where
  len := R.len
  sh := fun {i D} e => by
    obtain ⟨v, h1, h2⟩ := R.sh e
    exact ⟨v, h1, Dw.mono s h2⟩
  ob := fun {i a c} e => by
    have m : i ∉ vs := fun m => noOb_ne (noObs_mem h m) _ _ e
    obtain ⟨h1, h2⟩ := R'.ob (i := i) (by rw [wipeD_out m]; exact e)
    exact ⟨(R.ob e).1, h2⟩
  exc := fun {i a C d D} e => by
    obtain ⟨h1, v, h2, h3⟩ := R.exc e
    exact ⟨h1, v, s.1 _ _ h2 (fun _ z => nomatch z), h3.mono s⟩
  ask := fun {i O} e => by
    obtain ⟨f, h1, h2⟩ := R.ask e
    exact ⟨f, h1, h2.mono s⟩
  uniq := fun e e' => R.uniq e e'
  ex := fun m => ⟨(R'.ex m).1, (R'.ex m).2.1, fun ⟨i, c, e⟩ => (R'.ex m).2.2.1 ⟨i, c, by
    rw [wipeD_out fun m => noOb_ne (noObs_mem h m) _ _ e]
    exact e⟩, (R'.ex m).2.2.2⟩
  sub := R'.sub
  nt := R'.nt
theorem Rep.push {D : Addr} {o : HO} (R : Rep K F G ρ σ H) (h : H D = none) (l : Lcl o := by exact lcl_lst) : Rep K ((D, o) :: F) G ρ σ (upd H D o) where
  len := R.len
  sh := R.sh
  ob := fun {i a c} e => by
    obtain ⟨h1, h2, o, h3, h4⟩ := R.ob e
    exact ⟨h1, h2, o, by rw [upd_ne (ne_of_none h3 h)]; exact h3, h4⟩
  exc := R.exc
  ask := R.ask
  uniq := R.uniq
  ex := fun {a o} m => by
    rcases List.mem_cons.mp m with e | m
    · cases e
      refine ⟨upd_same, R.gnone h, fun ⟨i, c, e⟩ => ?_, l⟩
      obtain ⟨_, _, o, h3, _⟩ := R.ob e
      rw [h3] at h
      cases h
    · obtain ⟨h1, h2⟩ := R.ex m
      exact ⟨by rw [upd_ne (ne_of_none h1 h)]; exact h1, h2⟩
  sub := fun b u e => by
    rw [upd_ne (ne_of_none (R.sub b u e) h)]
    exact R.sub b u e
  nt := R.nt
theorem Rep.grow {D : Addr} {o u : HO} (nF : ∀ o, (D, o) ∉ F) (R : Rep K ((D, o) :: F) G ρ σ H) (l : Lcl u := by exact lcl_lst) : Rep K ((D, u) :: F) G ρ σ (upd H D u) where
  len := R.len
  sh := R.sh
  ob := fun {i a c} e => by
    obtain ⟨h1, h2, o, h3, h4⟩ := R.ob e
    have q : a ≠ D := fun z => by
      subst z
      exact (R.ex List.mem_cons_self).2.2.1 ⟨i, c, e⟩
    exact ⟨h1, h2, o, by rw [upd_ne q]; exact h3, h4⟩
  exc := R.exc
  ask := R.ask
  uniq := R.uniq
  ex := fun {a o} m => by
    rcases List.mem_cons.mp m with e | m
    · cases e
      exact ⟨upd_same, (R.ex List.mem_cons_self).2.1, (R.ex List.mem_cons_self).2.2.1, l⟩
    · obtain ⟨h1, h2⟩ := R.ex (List.mem_cons_of_mem _ m)
      have q : a ≠ D := fun z => by
        rw [z] at m
        exact nF o m
      exact ⟨by rw [upd_ne q]; exact h1, h2⟩
  sub := fun b u e => by
    rw [upd_ne (fun z => by rw [z, (R.ex List.mem_cons_self).2.1] at e; cases e)]
    exact R.sub b u e
  nt := R.nt
/-- the list that was made stands for good -/
theorem Rep.land {D : Addr} {o : HO} (t : Tg G K.T) (nF : ∀ o, (D, o) ∉ F) (R : Rep K ((D, o) :: F) G ρ σ H) (nt : NTo o := by exact trivial) : Ex K.T G (upd G D o) ∧ Rep K F (upd G D o) ρ σ H := by
  obtain ⟨e1, e2, e3, _⟩ := R.ex List.mem_cons_self
  have s : Ex K.T G (upd G D o) := Ex.new t e2
  have R1 : Rep K F G ρ σ H := ⟨R.len, R.sh, R.ob, R.exc, R.ask, R.uniq, fun m => R.ex (List.mem_cons_of_mem _ m), R.sub, R.nt⟩
  refine ⟨s, R1.grow0 s (fun {i a c} e => ?_) (fun {a u} m => ?_) (fun b u e => ?_) (R.nt.upd nt)⟩
  · rw [upd_ne fun z => ?_]
    · exact (R.ob e).2.1
    · subst z
      exact e3 ⟨i, c, e⟩
  · rw [upd_ne fun z => ?_]
    · exact (R1.ex m).2.1
    · rw [z] at m
      exact nF u m
  · by_cases q : b = D
    · rw [q, upd_same] at e
      cases e
      rw [q]
      exact e1
    · rw [upd_ne q] at e
      exact R.sub b u e
theorem wipe_chg {is vs : List Nat} (c : Chg is (L2.wipe σ vs) σ') (sub : ∀ i ∈ is, i ∈ vs) : L2.wipe σ' vs = L2.wipe σ vs := by
  have inn : ∀ {τ : L2.St} {vs : List Nat} {i : Nat}, i ∈ vs → i < τ.length → (L2.wipe τ vs)[i]? = some none := by
    intro τ vs
    induction vs with
    | nil => intro i m; cases m
    | cons v vs ih =>
      intro i m l
      unfold L2.wipe
      by_cases q : v = i
      · subst q
        rw [List.getElem?_set_self (by rw [wipe_length]; exact l)]
      · rw [List.getElem?_set_ne q]
        exact ih ((List.mem_cons.mp m).resolve_left (Ne.symm q)) l
  have l : σ'.length = σ.length := c.1.trans (wipe_length σ vs)
  refine List.ext_getElem? fun i => ?_
  by_cases m : i ∈ vs
  · by_cases q : i < σ.length
    · rw [inn m (by omega), inn m q]
    · rw [List.getElem?_eq_none_iff.mpr (by rw [wipe_length]; omega), List.getElem?_eq_none_iff.mpr (by rw [wipe_length]; omega)]
  · rw [wipe_out m, c.2 i fun z => m (sub i z)]
end
section
variable {P : Tb} {G0 : Hp} {n : Nat} {X : Cx} {elt tg iter : Expr} {ifs : List Expr} {scope : Scope} {own : List (Str × Nat)} {pos : Pos} {is : List Nat} {ti : DTI} {g : DTG} {tt : DTT} {te : DTE}
/-- a fresh list: its content -/
abbrev DTF := Sto → (List PyData → Sto → Prop) → Prop
def KnF (K : Zw) (F : List (Addr × HO)) (n : Nat) (Q0 : List PyData → Sto → Prop) (ρ : Sto) (G : Hp) (σ : L2.St) (Q : VK) : Prop :=
  ∀ Ds ρ' vs G' H' p, Q0 Ds ρ' → Ex K.T G G' → Alike n ρ ρ' → Rep K ((p, .lst vs) :: F) G' ρ' σ H' → (∀ o, (p, o) ∉ F) → DwAll K G' vs Ds → Q (.ref p) H'
def rdF (K : Zw) (G0 : Hp) (n : Nat) (t : DTF) : TE := fun σ H Q => ∃ F ρ G Q0, Ex K.T G0 G ∧ Rep K F G ρ σ H ∧ t ρ Q0 ∧ KnF K F n Q0 ρ G σ Q
def DF (P : Tb) (G0 : Hp) (n : Nat) (X : Cx) (e : Expr) (t : DTF) : Prop := PE X e (rdF (zOf X P) G0 n t)
theorem de_of_df {e : Expr} {t : DTF} (h : DF P G0 n X e t) : DE P G0 n X e (fun ρ Q => t ρ fun ds ρ' => Q (.list ds) ρ') := pe_weak h fun σ H Q ⟨F, ρ, G, Q0, s, R, h, k⟩ =>
  ⟨F, ρ, G, _, s, R, h, fun Ds ρ' vs G' H' p q s' al R' nF d => by
    obtain ⟨s2, R2⟩ := R'.land s'.2 nF
    exact k _ _ _ _ _ q (s'.trans s2) al R2 (.lst (.inl (.inl upd_same)) (DwAll.mono s2 d))⟩
def dLc (vs : List Nat) (ti : DTI) (g : DTG) (tt : DTT) (te : DTE) : DTF := fun ρ Q => ti ρ fun ds ρ1 => noObs ρ1 vs ∧ lcW (wipeD ρ1 vs) vs g tt te ds [] fun acc => Q acc ρ1
theorem lc_read {vs : List Nat} {σ : L2.St} {H : Hp} {Q : VK} (sub : ∀ i ∈ is, i ∈ vs) (h : rdF (zOf X P) G0 n (dLc vs ti g tt te) σ H Q) : tLc (rdI (zOf X P) G0 n ti) (rdG (zOf X P) G0 n is g) (rdT (zOf X P) G0 n tt) (rdE (zOf X P) G0 n te) vs σ H Q := by
  obtain ⟨F, ρ, G, Q0, s, R, h, k⟩ := h
  refine ⟨F, ρ, G, _, s, R, h, fun Ds ρ1 G1 H1 J ⟨no, q1⟩ s1 al1 R1 w D hD => ?_⟩
  have nF : ∀ o, (D, o) ∉ F := fun o m => by
    rw [(R1.ex m).1] at hD
    cases hD
  refine ⟨fun i m H2 => m = Ds.length - i ∧ i ≤ Ds.length ∧ ∃ acc us G2, Ex P G1 G2 ∧ Rep (zOf X P) ((D, .lst us) :: F) G2 (wipeD ρ1 vs) (L2.wipe σ vs) H2 ∧ DwAll (zOf X P) G2 us acc ∧ lcW (wipeD ρ1 vs) vs g tt te (Ds.drop i) acc (fun acc => Q0 acc ρ1),
    ⟨_, by rw [Nat.sub_zero], Nat.zero_le _, [], [], G1, Ex.refl s1.2, (R1.wipe no).push hD, .nil, q1⟩, ?_⟩
  rintro i m H2 ⟨rfl, hi, acc, us, G2, s2, R2, d2, q2⟩
  have s01 := s.trans s1
  by_cases hl : i < Ds.length
  · refine .inr ⟨w.goes hl s2 R2, fun H' => i + 1 ≤ Ds.length ∧ ∃ acc us G2, Ex P G1 G2 ∧ Rep (zOf X P) ((D, .lst us) :: F) G2 (wipeD ρ1 vs) (L2.wipe σ vs) H' ∧ DwAll (zOf X P) G2 us acc ∧ lcW (wipeD ρ1 vs) vs g tt te (Ds.drop (i + 1)) acc (fun acc => Q0 acc ρ1), fun H' z => ⟨_, by omega, rfl, z⟩, fun x H3 y => ?_⟩
    obtain ⟨d, G3, e3, s3, R3, dx⟩ := w.yields hl s2 R2 y
    rw [List.drop_eq_getElem_cons hl] at q2
    have e3' : Ds[i] = d := by rw [List.getElem?_eq_getElem hl] at e3; exact Option.some.inj e3
    rw [e3'] at q2
    unfold lcW at q2
    refine ⟨(D, .lst us) :: F, wipeD ρ1 vs, G3, d, _, (s01.trans s2).trans s3, R3, dx, q2, fun ρ4 σ4 G4 H4 q4 s4 al4 c4 R4 => ⟨wipe_chg c4 sub, (D, .lst us) :: F, ρ4, G4, _, ((s01.trans s2).trans s3).trans s4, R4, q4, fun b ρ5 G5 H5 q5 s5 al5 R5 => ?_⟩⟩
    have s35 := (s3.trans s4).trans s5
    have back : ∀ {τ : Sto} {G6 H6 : Hp} {F' : List (Addr × HO)}, wipeD τ vs = wipeD ρ1 vs → noObs τ vs → Rep (zOf X P) F' G6 τ σ4 H6 → Rep (zOf X P) F' G6 (wipeD ρ1 vs) (L2.wipe σ vs) H6 := fun {τ G6 H6 F'} e no' R' => by
      have := R'.wipe no'
      rw [e, wipe_chg c4 sub] at this
      exact this
    cases b with
    | false =>
      exact ⟨hl, acc, us, G5, s2.trans s35, back q5.1.2 q5.1.1 R5, DwAll.mono s35 d2, q5.2⟩
    | true =>
      refine ⟨(D, .lst us) :: F, ρ5, G5, _, (((s01.trans s2).trans s3).trans s4).trans s5, R5, q5, fun yv ρ6 v6 G6 H6 ⟨e6, l6, q6⟩ s6 al6 R6 d6 => ?_⟩
      have s36 := s35.trans s6
      have d26 := DwAll.mono s36 d2
      refine ⟨us, (R6.ex List.mem_cons_self).1, by rw [dpa_len d2]; exact l6, hl, acc ++ [yv], us ++ [v6], G6, s2.trans s36, (back e6.2 e6.1 R6).grow nF, dpa_app d26 (.cons d6 .nil), q6⟩
  · have e : i = Ds.length := by omega
    subst e
    rw [List.drop_length] at q2
    refine .inl ⟨w.stops s2 R2, ?_⟩
    exact k acc ρ1 us G2 H2 D q2 (s1.trans s2) al1 (Rep.unwipe no R1 s2 R2) nF d2
end
end Dl
set_option Elab.async false
set_option linter.all false
set_option maxRecDepth 100000
set_option maxHeartbeats 4000000
namespace Dl
open PySem PySem.Spec PyProof PyProof.Rows L2 So Da
section
variable {P : Tb} {G0 : Hp} {n : Nat} {X : Cx} {elt tg iter e c : Expr} {es ifs : List Expr} {scope : Scope} {own : List (Str × Nat)} {pos : Pos} {is : List Nat} {ti : DTI} {g : DTG} {tt : DTT} {te : DTE}
theorem df_lst {t : DTA} (h : DA P G0 n X es t) : DF P G0 n X (.List es pos) (fun ρ Q => t ρ fun Ds ρ' => Ds.length ≤ sizeLine ∧ Q Ds ρ') := pe_weak (pe_lst h) fun σ H Q ⟨F, ρ, G, Q0, s, R, h, k⟩ =>
  ⟨F, ρ, G, _, s, R, h, fun Ds ρ' vs G' H' ⟨l, q⟩ s' al R' d => ⟨by rw [dpa_len d]; exact l, fun p hp => k Ds ρ' vs G' _ p q s' al (R'.push hp) (fun o m => by rw [(R'.ex m).1] at hp; cases hp) d⟩⟩
theorem df_list {t : DTR} {p : Pos} (hg : Gl X "list") (hm : X.mg "list" = none) (ha : DR P G0 n X e t) (hs : starEach [e] X.env = (false, eval e X.env) :: starEach [] X.env := by rfl) (hpl : (backTo pos (starEach [] X.env)).any (·.1) = false := by rfl) :
    DF P G0 n X (.Call (.Name "list" p) [e] [] pos) (fun ρ Q => t ρ fun r ρ1 => derefW ρ1 r fun x => itemsD x fun ds => Q ds ρ1) := pe_weak (pe_callTy call_list_of hg hm (by decide +kernel) (pa_cons ha pa_nil hs) (by decide) (by decide) hs hpl) fun σ H Q ⟨F, ρ, G, Q0, s, R, h, k⟩ =>
  ⟨F, ρ, G, _, s, R, h, fun r1 ρ1 v1 G1 H1 h1 s1 a1 R1 d1 => by
    unfold derefW at h1
    split at h1
    · rename_i D1 e1
      have dq := dq_of R1 d1 e1
      unfold itemsD at h1
      split at h1
      · obtain ⟨a, xs, rfl, ha, da⟩ := dq.list R1
        exact ⟨a, xs, rfl, .inl ha, fun p hp => k _ ρ1 xs G1 _ p h1 s1 a1 (R1.push hp) (fun o m => by rw [(R1.ex m).1] at hp; cases hp) da⟩
      · obtain ⟨a, xs, rfl, ha, da, _⟩ := dq.tup R1
        exact ⟨a, xs, rfl, .inr ha, fun p hp => k _ ρ1 xs G1 _ p h1 s1 a1 (R1.push hp) (fun o m => by rw [(R1.ex m).1] at hp; cases hp) da⟩
      · exact h1.elim
    · exact h1.elim⟩
theorem dts_nil : PTs X [] (rdT (zOf X P) G0 n fun ρ Q => Q true ρ) := ⟨fun pins s σ H Q I ⟨F, ρ, G, Q0, s', R, h, k⟩ => pts_nil.run pins s σ H Q I (k true ρ G H h (Ex.refl s'.2) Alike.refl R)⟩
theorem dts_one {t : DTT} (h : DT P G0 n X c t) : PTs X [c] (rdT (zOf X P) G0 n t) := pts_one h
theorem df_lc (hc : X.calm = true) (hN : X.N.Nodup) (hi : DI P G0 n X tg iter ti) (ok : BlkOk X.N X.env.scope scope own)
    (hg : ∀ (s : Shared) (H : Hp) (C : Addr) (cl : List (Str × Addr)) (fp : List Addr), DG P G0 n (X.blk s H scope (compEnvC scope cl C X.env) fp) is tg g) (ht : ∀ (s : Shared) (H : Hp) (C : Addr) (cl : List (Str × Addr)) (fp : List Addr), PTs (X.blk s H scope (compEnvC scope cl C X.env) fp) ifs (rdT (zOf X P) G0 n tt))
    (he : ∀ (s : Shared) (H : Hp) (C : Addr) (cl : List (Str × Addr)) (fp : List Addr), DE P G0 n (X.blk s H scope (compEnvC scope cl C X.env) fp) elt te) (sub : ∀ i ∈ is, i ∈ own.map (·.2) := by decide) (hs : ∀ x, foldedSetIterable iter X.env x = pure x := by intro _; rfl) :
    DF P G0 n X (.ListComp elt [⟨tg, iter, ifs, 0⟩] scope pos) (dLc (own.map (·.2)) ti g tt te) := pe_weak (pe_lc (g := rdG (zOf X P) G0 n is g) (tt := rdT (zOf X P) G0 n tt) (te := rdE (zOf X P) G0 n te) hc hN hi ok hg ht he hs) fun _ _ _ h => lc_read sub h
/-- [e] * k -/
theorem df_rep {b : Expr} {p : Pos} {t : DTE} {u : DTE} (ha : DE P G0 n X e t) (hb : DE P G0 n X b u) (hs : starEach [e] X.env = (false, eval e X.env) :: starEach [] X.env := by rfl) : DF P G0 n X (.BinOp (.List [e] p) .Mult b pos) (fun ρ Q => t ρ fun D ρ1 => u ρ1 fun E ρ2 => match E with
  | .int k => -(2 ^ 63) ≤ k ∧ k < 2 ^ 63 ∧ k.toNat ≤ sizeLine ∧ Q (List.replicate k.toNat D) ρ2
  | _ => False) := pe_weak (pe_op op_rep (pe_lst (pa_cons ha pa_nil hs)) hb) fun σ H Q ⟨F, ρ, G, Q0, s, R, h, k⟩ =>
  ⟨F, ρ, G, _, s, R, h, fun D ρ1 v G1 H1 q1 s1 al1 R1 d1 => ⟨by show 1 ≤ sizeLine; decide, fun p hp => by
    obtain ⟨gp, R1'⟩ := R1.new (o := .lst [v]) s1.2 hp trivial
    have s1' := Ex.new s1.2 gp (o := .lst [v])
    refine ⟨F, ρ1, _, _, (s.trans s1).trans s1', R1', q1, fun E ρ2 v2 G2 H2 q2 s2 al2 R2 d2 => ?_⟩
    split at q2
    · rename_i kk
      cases d2
      obtain ⟨l1, l2, l3, q2⟩ := q2
      have hp2 : H2 p = some (.lst [v]) := R2.sub _ _ (s2.1 _ _ upd_same (fun _ z => nomatch z))
      refine ⟨p, kk, [v], rfl, rfl, hp2, l1, l2, by rw [List.length_singleton, Nat.one_mul]; exact l3, fun q hq => ?_⟩
      have e1 : (List.replicate kk.toNat [v]).flatten = List.replicate kk.toNat v := by
        generalize kk.toNat = m
        induction m with
        | zero => rfl
        | succ m ih => rw [List.replicate_succ, List.flatten_cons, ih]; rfl
      rw [e1]
      exact k _ ρ2 _ G2 _ q q2 (s1.trans (s1'.trans s2)) (al1.trans al2) (R2.push hq) (fun o m => by rw [(R2.ex m).1] at hq; cases hq) (dpa_rep (Dw.mono (s1'.trans s2) d1) _)
    · exact q2.elim⟩⟩
end
structure EndsD where
  nx : Sto → Prop
  rt : PyData → Sto → Prop
  bk : Sto → Prop := fun _ => False
  ct : Sto → Prop := fun _ => False
  ro : Oc → Sto → Prop := fun _ _ => False
abbrev DTS := EndsD → Sto → Prop
def LkN (K : Zw) (n : Nat) (Q0 : Sto → Prop) (ρ : Sto) (G : Hp) (Q : L2.St → Hp → Prop) : Prop := ∀ ρ' σ' G' H', Q0 ρ' → Ex K.T G G' → Alike n ρ ρ' → Rep K [] G' ρ' σ' H' → Q σ' H'
structure Lk (K : Zw) (n : Nat) (D0 : EndsD) (ρ : Sto) (G : Hp) (D : Ends) : Prop where
  nx : LkN K n D0.nx ρ G D.nx
  bk : LkN K n D0.bk ρ G D.bk
  ct : LkN K n D0.ct ρ G D.ct
  rt : ∀ Dv ρ' v σ' G' H', D0.rt Dv ρ' → Ex K.T G G' → Alike n ρ ρ' → Rep K [] G' ρ' σ' H' → Dw K G' v Dv → D.rt v H'
  ro : ∀ c ρ' a o σ' G' H', D0.ro c ρ' → Ex K.T G G' → Alike n ρ ρ' → Rep K [] G' ρ' σ' H' → H' a = some o → G' a = none → (∀ (i : Nat) (c' : Oc), i < n → ρ'[i]? ≠ some (.ob a c')) → OcOk K G' a c o → D.rt (.ref a) H'
def rdS (K : Zw) (G0 : Hp) (n : Nat) (t : DTS) : TS := fun D σ H => ∃ ρ G D0, Ex K.T G0 G ∧ Rep K [] G ρ σ H ∧ t D0 ρ ∧ Lk K n D0 ρ G D
def DS (P : Tb) (G0 : Hp) (n : Nat) (X : Cx) (st : Stmt) (t : DTS) : Prop := PS X st (rdS (zOf X P) G0 n t)
def DSs (P : Tb) (G0 : Hp) (n : Nat) (X : Cx) (st : List Stmt) (t : DTS) : Prop := PSs X st (rdS (zOf X P) G0 n t)
section
variable {K : Zw} {n : Nat} {D0 : EndsD} {ρ ρ' : Sto} {G G' H : Hp} {D : Ends} {σ : L2.St}
theorem LkN.after {Q0 : Sto → Prop} {Q : L2.St → Hp → Prop} (k : LkN K n Q0 ρ G Q) (s : Ex K.T G G') (a : Alike n ρ ρ') : LkN K n Q0 ρ' G' Q := fun r σ2 G2 H2 q s2 a2 R => k r σ2 G2 H2 q (s.trans s2) (a.trans a2) R
theorem Lk.after (k : Lk K n D0 ρ G D) (s : Ex K.T G G') (a : Alike n ρ ρ') : Lk K n D0 ρ' G' D := ⟨k.nx.after s a, k.bk.after s a, k.ct.after s a, fun Dv r v σ2 G2 H2 q s2 a2 R d => k.rt Dv r v σ2 G2 H2 q (s.trans s2) (a.trans a2) R d, fun c r b o σ2 G2 H2 q s2 a2 R => k.ro c r b o σ2 G2 H2 q (s.trans s2) (a.trans a2) R⟩
theorem LkN.here {Q0 : Sto → Prop} {Q : L2.St → Hp → Prop} (k : LkN K n Q0 ρ G Q) (t : Tg G K.T) (R : Rep K [] G ρ σ H) (q : Q0 ρ) : Q σ H := k ρ σ G H q (Ex.refl t) .refl R
end
section
variable {P : Tb} {G0 : Hp} {n : Nat} {X : Cx} {st : Stmt} {rest : List Stmt} {t u : DTS} {e c tg iter : Expr} {es : List Expr} {te : DTE} {pos : Pos}
def dSeq (t u : DTS) : DTS := fun D ρ => match D with
  | ⟨nx, rt, bk, ct, ro⟩ => t ⟨u ⟨nx, rt, bk, ct, ro⟩, rt, bk, ct, ro⟩ ρ
theorem dss_nil : DSs P G0 n X [] (fun D ρ => D.nx ρ) := pss_weak pss_nil fun D σ H ⟨ρ, G, D0, s, R, h, k⟩ => k.nx.here s.2 R h
theorem dss_cons (h1 : DS P G0 n X st t) (h2 : DSs P G0 n X rest u) : DSs P G0 n X (st :: rest) (dSeq t u) := pss_weak (pss_cons h1 h2) fun D σ H ⟨ρ, G, D0, s, R, h, k⟩ =>
  match D0, h, k with
  | ⟨nx, rt, bk, ct, ro⟩, h, k => ⟨ρ, G, _, s, R, h, fun ρ' σ' G' H' q s' al R' => ⟨ρ', G', ⟨nx, rt, bk, ct, ro⟩, s.trans s', R', q, k.after s' al⟩, k.bk, k.ct, k.rt, k.ro⟩
theorem dss_one (h1 : DS P G0 n X st t) : DSs P G0 n X [st] t := pss_one h1
theorem ds_continue : DS P G0 n X (.Continue pos) (fun D ρ => D.ct ρ) := ps_weak ps_continue fun D σ H ⟨ρ, G, D0, s, R, h, k⟩ => k.ct.here s.2 R h
theorem ds_ret (he : DE P G0 n X e te) : DS P G0 n X (.Return (some e) pos) (fun D ρ => te ρ fun Dv ρ' => D.rt Dv ρ') := ps_weak (ps_ret he) fun D σ H ⟨ρ, G, D0, s, R, h, k⟩ =>
  ⟨[], ρ, G, _, s, R, h, fun Dv ρ' v G' H' q s' al R' d => k.rt _ _ _ _ _ _ q s' al R' d⟩
def dIfS (c : DTT) (t u : DTS) : DTS := fun D ρ => c ρ fun b ρ1 => if b = true then t D ρ1 else u D ρ1
theorem ds_if {a b : List Stmt} {tc : DTT} (hc : DT P G0 n X c tc) (ha : DSs P G0 n X a t) (hb : DSs P G0 n X b u) : DS P G0 n X (.If c a b pos) (dIfS tc t u) := ps_weak (ps_if hc ha hb) fun D σ H ⟨ρ, G, D0, s, R, h, k⟩ =>
  ⟨[], ρ, G, _, s, R, h, fun b ρ' G' H' q s' al R' => by
    cases b with
    | true => exact ⟨ρ', G', D0, s.trans s', R', q, k.after s' al⟩
    | false => exact ⟨ρ', G', D0, s.trans s', R', q, k.after s' al⟩⟩
/-- x = e, and (a, b) = e -/
theorem ds_asg {is : List Nat} {g : DTG} (he : DE P G0 n X e te) (hg : DG P G0 n X is tg g) (hs : swapsWithSole [tg] e pos.line X.env = pure false := by rfl) (hw : swappedStores [tg] e X.env = pure none := by rfl) (h1 : (assignEach [tg] X.env).map (·.2) = [assign tg X.env] := by rfl) : DS P G0 n X (.Assign [tg] e pos) (fun D ρ => te ρ fun Dv ρ' => g Dv ρ' D.nx) :=
  ps_weak (ps_asg he hg hs hw h1) fun D σ H ⟨ρ, G, D0, s, R, h, k⟩ => ⟨[], ρ, G, _, s, R, h, fun Dv ρ' v G' H' q s' al R' d => ⟨[], ρ', G', Dv, _, s.trans s', R', d, q, fun ρ2 σ2 G2 H2 q2 s2 al2 _ R2 => k.nx _ _ _ _ q2 (s'.trans s2) (al.trans al2) R2⟩⟩
theorem ds_set {i : Nat} {x : Str} {pos' : Pos} (hN : X.N.Nodup) (hi : X.N[i]? = some x) (hx : Loc X.env.scope x) (he : DE P G0 n X e te) (hs : swapsWith e (some (.Name x pos')) pos.line X.env = pure false := by rfl) (hf : X.fn x = true ∨ X.env.scope.names.lookup x = some .local := by first | exact .inl rfl | exact .inr rfl | assumption) :
    DS P G0 n X (.Assign [.Name x pos'] e pos) (fun D ρ => te ρ fun Dv ρ' => noOb ρ' i ∧ D.nx (ρ'.set i (.sh Dv))) := ps_weak (ps_set hN hi hx he hs hf) fun D σ H ⟨ρ, G, D0, s, R, h, k⟩ =>
  ⟨[], ρ, G, _, s, R, h, fun Dv ρ' v G' H' ⟨q1, q2⟩ s' al R' d => k.nx _ _ _ _ q2 s' (al.trans (.set q1)) (R'.set (noOb_ne q1) d)⟩
/-- what was made fresh is taken as one's own -/
theorem Rep.take {K : Zw} {F : List (Addr × HO)} {G H : Hp} {ρ : Sto} {σ : L2.St} {p : Addr} {o : HO} {c : Oc} {i : Nat} (R : Rep K ((p, o) :: F) G ρ σ H) (nF : ∀ o, (p, o) ∉ F) (hi : i < ρ.length) (no : noOb ρ i) (d : OcOk K G p c o) :
    Rep K F G (ρ.set i (.ob p c)) (σ.set i (some (.ref p))) H := by
  obtain ⟨e1, e2, e3, _⟩ := R.ex List.mem_cons_self
  have ob' : ∀ {j a c'}, (ρ.set i (.ob p c))[j]? = some (.ob a c') → (j = i ∧ a = p ∧ c' = c) ∨ (j ≠ i ∧ ρ[j]? = some (.ob a c')) := fun {j a c'} e => by
    rcases set_get e with ⟨z, z2, _⟩ | ⟨q, e⟩
    · cases z2
      exact .inl ⟨z, rfl, rfl⟩
    · exact .inr ⟨q, e⟩
  have oth : ∀ {j : Nat} {lc' : Lc}, (ρ.set i (.ob p c))[j]? = some lc' → (∀ a c, lc' ≠ .ob a c) → j ≠ i ∧ ρ[j]? = some lc' := fun {j lc'} e m => by
    rcases set_get e with ⟨_, z, _⟩ | h
    · exact absurd z (m p c)
    · exact h
  refine ⟨by rw [List.length_set, List.length_set]; exact R.len, fun {j D'} e => ?_, fun {j a c'} e => ?_, fun {j a C d D} e => ?_, fun {j O} e => ?_, fun {j j' a c1 c2} e e' => ?_, fun {a o} m => ?_, R.sub, R.nt⟩
  · obtain ⟨q, e⟩ := oth e (fun _ _ z => nomatch z)
    rw [List.getElem?_set_ne (Ne.symm q)]
    exact R.sh e
  · rcases ob' e with ⟨rfl, rfl, rfl⟩ | ⟨q, e⟩
    · exact ⟨by rw [List.getElem?_set_self (by rw [R.len]; exact hi)], e2, _, e1, d⟩
    · rw [List.getElem?_set_ne (Ne.symm q)]
      exact R.ob e
  · obtain ⟨q, e⟩ := oth e (fun _ _ z => nomatch z)
    rw [List.getElem?_set_ne (Ne.symm q)]
    exact R.exc e
  · obtain ⟨q, e⟩ := oth e (fun _ _ z => nomatch z)
    rw [List.getElem?_set_ne (Ne.symm q)]
    exact R.ask e
  · rcases ob' e with ⟨z1, z2, _⟩ | ⟨_, f⟩
    · rcases ob' e' with ⟨z3, _, _⟩ | ⟨_, f'⟩
      · rw [z1, z3]
      · exact absurd ⟨_, _, z2 ▸ f'⟩ e3
    · rcases ob' e' with ⟨_, z2, _⟩ | ⟨_, f'⟩
      · exact absurd ⟨_, _, z2 ▸ f⟩ e3
      · exact R.uniq f f'
  · obtain ⟨h1, h2, h3, h4⟩ := R.ex (List.mem_cons_of_mem _ m)
    refine ⟨h1, h2, fun ⟨j, c', e⟩ => ?_, h4⟩
    rcases ob' e with ⟨_, z, _⟩ | ⟨_, e⟩
    · rw [z] at m
      exact nF o m
    · exact h3 ⟨j, c', e⟩
/-- x = a fresh list, to be changed later on -/
def ownS (i : Nat) (D : EndsD) (ds : List PyData) (ρ : Sto) : Prop := i < ρ.length ∧ noOb ρ i ∧ ∀ a, D.nx (ρ.set i (.ob a (.lst ds)))
theorem own_nx {D0 : EndsD} {D : Ends} {i : Nat} {ρ ρ' : Sto} {G G' H' : Hp} {σ : L2.St} {p : Addr} {o : HO} {c : Oc} (k : Lk (zOf X P) n D0 ρ G D) (h : i < ρ'.length ∧ noOb ρ' i ∧ ∀ a, D0.nx (ρ'.set i (.ob a c))) (s' : Ex P G G') (al : Alike n ρ ρ') (R' : Rep (zOf X P) [(p, o)] G' ρ' σ H') (d : OcOk (zOf X P) G' p c o) : D.nx (σ.set i (some (.ref p))) H' :=
  k.nx _ _ G' H' (h.2.2 p) s' (al.trans (.set h.2.1)) (R'.take (fun o m => nomatch m) h.1 h.2.1 d)
theorem ds_own {i : Nat} {x : Str} {pos' : Pos} {t : DTF} (hN : X.N.Nodup) (hi : X.N[i]? = some x) (hx : Loc X.env.scope x) (he : DF P G0 n X e t) (hs : swapsWith e (some (.Name x pos')) pos.line X.env = pure false := by rfl) (hf : X.fn x = true ∨ X.env.scope.names.lookup x = some .local := by first | exact .inl rfl | exact .inr rfl | assumption) :
    DS P G0 n X (.Assign [.Name x pos'] e pos) (fun D ρ => t ρ fun ds ρ' => ownS i D ds ρ') := ps_weak (ps_set hN hi hx he hs hf) fun D σ H ⟨ρ, G, D0, s, R, h, k⟩ =>
  ⟨[], ρ, G, _, s, R, h, fun Ds ρ' vs G' H' p q s' al R' nF d => own_nx k q s' al R' ⟨_, rfl, d⟩⟩
section
variable {elt : Expr} {ifs : List Expr} {scope : Scope} {own : List (Str × Nat)} {is : List Nat} {ti : DTI} {g : DTG} {tt : DTT} {te : DTE} {spos py : Pos} {y : Str} {i : Nat}
/-- x = [..], a comprehension: data, or to be changed -/
theorem ds_setLc (hc : X.calm = true) (hN : X.N.Nodup) (hy : X.N[i]? = some y) (hyl : X.env.scope.names.lookup y = some .local) (hsw : swapsWith (.ListComp elt [⟨tg, iter, ifs, 0⟩] scope pos) (some (.Name y py)) spos.line X.env = pure true) (hi : DI P G0 n X tg iter ti) (ok : BlkOk X.N X.env.scope scope own)
    (hg : ∀ (s : Shared) (H : Hp) (C : Addr) (cl : List (Str × Addr)) (fp : List Addr), DG P G0 n (X.blk s H scope (compEnvC scope cl C X.env) fp) is tg g) (ht : ∀ (s : Shared) (H : Hp) (C : Addr) (cl : List (Str × Addr)) (fp : List Addr), PTs (X.blk s H scope (compEnvC scope cl C X.env) fp) ifs (rdT (zOf X P) G0 n tt))
    (he : ∀ (s : Shared) (H : Hp) (C : Addr) (cl : List (Str × Addr)) (fp : List Addr), DE P G0 n (X.blk s H scope (compEnvC scope cl C X.env) fp) elt te) (sub : ∀ i ∈ is, i ∈ own.map (·.2) := by decide) (hs : ∀ x, foldedSetIterable iter X.env x = pure x := by intro _; rfl) :
    DS P G0 n X (.Assign [.Name y py] (.ListComp elt [⟨tg, iter, ifs, 0⟩] scope pos) spos) (fun D ρ => dLc (own.map (·.2)) ti g tt te ρ fun ds ρ' => noOb ρ' i ∧ D.nx (ρ'.set i (.sh (.list ds)))) := ps_weak (ps_setLc (g := rdG (zOf X P) G0 n is g) (tt := rdT (zOf X P) G0 n tt) (te := rdE (zOf X P) G0 n te) hc hN hy hyl hsw hi ok hg ht he hs) fun D σ H ⟨ρ, G, D0, s, R, h, k⟩ =>
  lc_read sub ⟨[], ρ, G, _, s, R, h, fun Ds ρ' vs G' H' p ⟨q1, q2⟩ s' al R' nF d => by
    obtain ⟨s2, R2⟩ := R'.land s'.2 nF
    exact k.nx _ _ _ _ q2 (s'.trans s2) (al.trans (.set q1)) (R2.set (noOb_ne q1) (.lst (.inl (.inl upd_same)) (DwAll.mono s2 d)))⟩
end
def isOl (ρ : Sto) (i : Nat) : Prop := match ρ[i]? with
  | some (.ob _ (.lst _)) => True
  | _ => False
theorem ol_at {K : Zw} {F : List (Addr × HO)} {G : Hp} {ρ : Sto} {σ : L2.St} {H : Hp} {i : Nat} (R : Rep K F G ρ σ H) (h : isOl ρ i) : ∃ a, σ[i]? = some (some (.ref a)) ∧ tyV K.K "list" (.ref a) H := by
  unfold isOl at h
  split at h
  · rename_i a ds q
    obtain ⟨h1, h2, o, h3, vs, rfl, h4⟩ := R.ob q
    exact ⟨a, h1, .inl ⟨rfl, vs, .inl (.inl h3)⟩⟩
  · exact h.elim
/-- what holds of the list in slot i -/
def atOl (ρ : Sto) (i : Nat) (k : Addr → List PyData → Prop) : Prop := match ρ[i]? with
  | some (.ob a (.lst ds)) => k a ds
  | _ => False
theorem at_ol {ρ : Sto} {i : Nat} {k : Addr → List PyData → Prop} (h : atOl ρ i k) : ∃ a ds, ρ[i]? = some (.ob a (.lst ds)) ∧ k a ds := by
  unfold atOl at h
  split at h
  · rename_i a ds q
    exact ⟨a, ds, q, h⟩
  · exact h.elim
theorem put_alike {n i : Nat} {ρ : Sto} {a : Addr} {c c' : Oc} (h : ρ[i]? = some (.ob a c)) : Alike n ρ (ρ.set i (.ob a c')) := fun j b d _ e => by
  by_cases q : j = i
  · subst q
    rw [h] at e
    cases e
    exact ⟨c', by rw [List.getElem?_set_self (List.getElem?_eq_some_iff.mp h).1]⟩
  · exact ⟨d, by rw [List.getElem?_set_ne (Ne.symm q)]; exact e⟩
/-- xs.append(e) -/
theorem ds_app {i : Nat} (hps : PS X st (tDrop (tBM X.K "list" rAppend (tVar i) (tCons (rdE (zOf X P) G0 n te) tNil)))) : DS P G0 n X st (fun D ρ => isOl ρ i ∧ te ρ fun Dv ρ' => atOl ρ' i fun a ds => ds.length < sizeLine ∧ D.nx (ρ'.set i (.ob a (.lst (ds ++ [Dv]))))) := ps_weak hps fun D σ H ⟨ρ, G, D0, s, R, ⟨h0, h⟩, k⟩ => by
  obtain ⟨a, h1, h2⟩ := ol_at R h0
  refine ⟨_, h1, h2, [], ρ, G, _, s, R, h, fun Dv ρ' v G' H' q s' al R' d => ?_⟩
  obtain ⟨a', ds, e, l, q⟩ := at_ol q
  obtain ⟨h3, h4, o, h5, vs, rfl, h6⟩ := R'.ob e
  rw [h1] at h3
  cases h3
  exact ⟨a, vs, v, rfl, rfl, h5, by rw [dpa_len h6]; exact l, k.nx _ _ _ _ q s' (al.trans (put_alike e)) (R'.put e ⟨_, rfl, dpa_app h6 (.cons d .nil)⟩)⟩
theorem dpa_last {K : Zw} {H : Hp} {xs : List V} {ds : List PyData} {d : PyData} (h : DwAll K H xs ds) (e : ds.getLast? = some d) : ∃ x, xs[xs.length - 1]? = some x ∧ Dw K H x d := by
  rw [List.getLast?_eq_getElem?, ← dpa_len h] at e
  exact dpa_at' h e
theorem dpa_init {K : Zw} {H : Hp} {xs : List V} {ds : List PyData} (h : DwAll K H xs ds) : DwAll K H xs.dropLast ds.dropLast := by
  rw [List.dropLast_eq_take, List.dropLast_eq_take, dpa_len h]
  exact dpa_take _ h
def popW (ρ : Sto) (i : Nat) (k : PyData → Sto → Prop) : Prop := atOl ρ i fun a ds => match ds.getLast? with
  | some d => k d (ρ.set i (.ob a (.lst ds.dropLast)))
  | none => False
theorem pop_read {i : Nat} {σ : L2.St} {H G : Hp} {ρ : Sto} {Q : VK} {q : PyData → Sto → Prop} (t : Tg G P) (R : Rep (zOf X P) [] G ρ σ H) (h : popW ρ i q) (k : ∀ d v ρ' H', q d ρ' → Alike n ρ ρ' → Rep (zOf X P) [] G ρ' σ H' → Dw (zOf X P) G v d → Q v H') : tBM0 X.K "list" rPop (tVar i) σ H Q := by
  unfold popW at h
  obtain ⟨a, ds, e, h⟩ := at_ol h
  split at h
  · rename_i d e2
    obtain ⟨h3, h4, o, h5, vs, rfl, h6⟩ := R.ob e
    obtain ⟨x, h7, h8⟩ := dpa_last h6 e2
    exact ⟨_, h3, .inl ⟨rfl, vs, .inl (.inl h5)⟩, a, vs, x, rfl, rfl, h5, h7, k d x _ _ h (put_alike e) (R.put e ⟨_, rfl, dpa_init h6⟩) h8⟩
  · exact h.elim
/-- x = xs.pop() -/
theorem ds_setPop {i j : Nat} (hps : PS X st (tAsg (tBM0 X.K "list" rPop (tVar i)) (gName j))) : DS P G0 n X st (fun D ρ => popW ρ i fun d ρ' => noOb ρ' j ∧ D.nx (ρ'.set j (.sh d))) := ps_weak hps fun D σ H ⟨ρ, G, D0, s, R, h, k⟩ =>
  pop_read s.2 R h fun d v ρ' H' q al R' dv => k.nx _ _ _ _ q.2 (Ex.refl s.2) (al.trans (.set q.1)) (R'.set (noOb_ne q.1) dv)
/-- xs[k] = e -/
theorem ds_put {i : Nat} {tk : DTE} (hps : PS X st (tAsg (rdE (zOf X P) G0 n te) (gSub (tVar i) (rdE (zOf X P) G0 n tk) rSetL))) : DS P G0 n X st (fun D ρ => te ρ fun Dv ρ1 => isOl ρ1 i ∧ tk ρ1 fun Dk ρ2 => atOl ρ2 i fun a ds => match Dk with
  | .int m => match ixN ds.length m with
    | some j => D.nx (ρ2.set i (.ob a (.lst (ds.set j Dv))))
    | none => False
  | _ => False) := ps_weak hps fun D σ H ⟨ρ, G, D0, s, R, h, k⟩ =>
  ⟨[], ρ, G, _, s, R, h, fun Dv ρ1 v1 G1 H1 ⟨h0, q1⟩ s1 al1 R1 d1 => by
    obtain ⟨a, h1, h2⟩ := ol_at R1 h0
    refine ⟨_, h1, [], ρ1, G1, _, s.trans s1, R1, q1, fun Dk ρ2 v2 G2 H2 q s2 al2 R2 d2 => ?_⟩
    obtain ⟨a', ds, e, q⟩ := at_ol q
    obtain ⟨h3, h4, o, h5, vs, rfl, h6⟩ := R2.ob e
    rw [h1] at h3
    cases h3
    split at q
    · cases d2
      split at q
      · rename_i j ej
        refine ⟨a, vs, _, j, rfl, rfl, h5, by rw [dpa_len h6]; exact ej, k.nx _ _ _ _ q (s1.trans s2) ((al1.trans al2).trans (put_alike e)) (R2.put e ⟨_, rfl, ?_⟩)⟩
        have st : ∀ {xs : List V} {ds : List PyData} (j : Nat), DwAll (zOf X P) G2 xs ds → DwAll (zOf X P) G2 (xs.set j v1) (ds.set j Dv) := by
          intro xs
          induction xs with
          | nil => intro ds j h; cases h; exact .nil
          | cons x xs ih =>
            intro ds j h
            cases h with
            | cons a b =>
              cases j with
              | zero => exact .cons (Dw.mono s2 d1) b
              | succ j => exact .cons a (ih j b)
        exact st j h6
      · exact q.elim
    · exact q.elim⟩
/-- from here on the object in slot i stands for good -/
def frzD (i : Nat) (ρ : Sto) : Sto := match ρ[i]? with
  | some (.ob _ (.lst ds)) => ρ.set i (.sh (.list ds))
  | some (.ob _ (.dic ds)) => ρ.set i (.sh (.dict ds))
  | _ => ρ
theorem ds_frz (i : Nat) (hi : n ≤ i) (h : DS P G0 n X st t) : DS P G0 n X st (fun D ρ => t D (frzD i ρ)) := ps_weak h fun D σ H ⟨ρ, G, D0, s, R, h, k⟩ => by
  have h : t D0 (frzD i ρ) := h
  have go : ∀ {a c D1}, ρ[i]? = some (.ob a c) → ocD c = some D1 → t D0 (ρ.set i (.sh D1)) → rdS (zOf X P) G0 n t D σ H := fun {a c D1} q e h => by
    obtain ⟨G', s', R'⟩ := R.freeze s.2 q e
    refine ⟨_, G', D0, s.trans s', R', h, k.after s' fun j b c hj e => ?_⟩
    have q2 : i ≠ j := by omega
    exact ⟨c, by rw [List.getElem?_set_ne q2]; exact e⟩
  unfold frzD at h
  split at h
  · rename_i a ds q
    exact go q rfl h
  · rename_i a ds q
    exact go q rfl h
  · exact ⟨ρ, G, D0, s, R, h, k⟩
def forW (g : DTG) (tb : DTS) (D : EndsD) : List PyData → Sto → Prop
  | [], ρ => D.nx ρ
  | d :: ds, ρ => g d ρ fun ρ' => tb { D with nx := forW g tb D ds, ct := forW g tb D ds, bk := D.nx } ρ'
def dFor (ti : DTI) (g : DTG) (tb : DTS) : DTS := fun D ρ => ti ρ fun ds ρ1 => forW g tb D ds ρ1
theorem ds_for {is : List Nat} {ti : DTI} {g : DTG} {tb : DTS} {body : List Stmt} (hp : PassesOwn (model X.prog X.w) X.A X.env X.xe) (hc : X.calm = true) (hi : DI P G0 n X tg iter ti) (hg : DG P G0 n X is tg g) (hb : DSs P G0 n X body tb) (hs : ∀ x, foldedSetIterable iter X.env x = pure x := by intro _; rfl) :
    DS P G0 n X (.For tg iter body [] pos) (dFor ti g tb) := ps_weak (ps_for hp hc hi hg hb hs) fun D σ H ⟨ρ, G, D0, s, R, h, k⟩ =>
  ⟨[], ρ, G, _, s, R, h, fun Ds ρ1 G1 H1 J q1 s1 al1 R1 w => by
    refine ⟨fun i m σ2 H2 => m = Ds.length - i ∧ i ≤ Ds.length ∧ ∃ ρ2 G2, Ex P G1 G2 ∧ Alike n ρ1 ρ2 ∧ Rep (zOf X P) [] G2 ρ2 σ2 H2 ∧ forW g tb D0 (Ds.drop i) ρ2, ⟨_, by rw [Nat.sub_zero], Nat.zero_le _, ρ1, G1, Ex.refl s1.2, .refl, R1, q1⟩, ?_⟩
    rintro i m σ2 H2 ⟨rfl, hi, ρ2, G2, s2, al2, R2, q2⟩
    have s02 := (s.trans s1).trans s2
    by_cases hl : i < Ds.length
    · refine .inr ⟨w.goes hl s2 R2, fun σ' H' => i + 1 ≤ Ds.length ∧ ∃ ρ2 G2, Ex P G1 G2 ∧ Alike n ρ1 ρ2 ∧ Rep (zOf X P) [] G2 ρ2 σ' H' ∧ forW g tb D0 (Ds.drop (i + 1)) ρ2, fun σ' H' z => ⟨_, by omega, rfl, z⟩, fun x H3 y => ?_⟩
      obtain ⟨d, G3, e3, s3, R3, dx⟩ := w.yields hl s2 R2 y
      rw [List.drop_eq_getElem_cons hl] at q2
      have e3' : Ds[i] = d := by rw [List.getElem?_eq_getElem hl] at e3; exact Option.some.inj e3
      rw [e3'] at q2
      unfold forW at q2
      refine ⟨[], ρ2, G3, d, _, s02.trans s3, R3, dx, q2, fun ρ4 σ4 G4 H4 q4 s4 al4 _ R4 => ⟨ρ4, G4, _, (s02.trans s3).trans s4, R4, q4, ?_⟩⟩
      have on : LkN (zOf X P) n (forW g tb D0 (Ds.drop (i + 1))) ρ4 G4 (fun σ' H' => i + 1 ≤ Ds.length ∧ ∃ ρ2 G2, Ex P G1 G2 ∧ Alike n ρ1 ρ2 ∧ Rep (zOf X P) [] G2 ρ2 σ' H' ∧ forW g tb D0 (Ds.drop (i + 1)) ρ2) := fun ρ5 σ5 G5 H5 q5 s5 al5 R5 => ⟨hl, ρ5, G5, ((s2.trans s3).trans s4).trans s5, (al2.trans al4).trans al5, R5, q5⟩
      have kk := k.after (((s1.trans s2).trans s3).trans s4) ((al1.trans al2).trans al4)
      exact ⟨on, kk.nx, on, kk.rt, kk.ro⟩
    · have e : i = Ds.length := by omega
      subst e
      rw [List.drop_length] at q2
      exact .inl ⟨w.stops s2 R2, k.nx _ _ _ _ q2 (s1.trans s2) (al1.trans al2) R2⟩⟩
def dWh (c : DTT) (tb : DTS) : DTS := fun D ρ => ∃ W : Nat → Sto → Prop, (∃ m, W m ρ) ∧ ∀ m ρ, W m ρ → c ρ fun b ρ1 => if b = true then tb { D with nx := fun ρ' => ∃ m', m' < m ∧ W m' ρ', ct := fun ρ' => ∃ m', m' < m ∧ W m' ρ', bk := D.nx } ρ1 else D.nx ρ1
theorem ds_while {tc : DTT} {tb : DTS} {body : List Stmt} (hp : PassesOwn (model X.prog X.w) X.A X.env X.xe) (hc : DT P G0 n X c tc) (hb : DSs P G0 n X body tb) : DS P G0 n X (.While c body [] pos) (dWh tc tb) := ps_weak (ps_while hp hc hb) fun D σ H ⟨ρ, G, D0, s, R, ⟨W, ⟨m0, w0⟩, turn⟩, k⟩ => by
  refine ⟨fun m σ2 H2 => ∃ ρ2 G2, Ex P G G2 ∧ Alike n ρ ρ2 ∧ Rep (zOf X P) [] G2 ρ2 σ2 H2 ∧ W m ρ2, ⟨m0, ρ, G, Ex.refl s.2, .refl, R, w0⟩, ?_⟩
  rintro m σ2 H2 ⟨ρ2, G2, s2, al2, R2, w2⟩
  refine ⟨[], ρ2, G2, _, s.trans s2, R2, turn m ρ2 w2, fun b ρ3 G3 H3 q3 s3 al3 R3 => ?_⟩
  cases b with
  | false => exact k.nx _ _ _ _ q3 (s2.trans s3) (al2.trans al3) R3
  | true =>
    refine ⟨fun σ' H' => ∃ m', m' < m ∧ ∃ ρ2 G2, Ex P G G2 ∧ Alike n ρ ρ2 ∧ Rep (zOf X P) [] G2 ρ2 σ' H' ∧ W m' ρ2, fun σ' H' z => z, ρ3, G3, _, (s.trans s2).trans s3, R3, q3, ?_⟩
    have on : LkN (zOf X P) n (fun ρ' => ∃ m', m' < m ∧ W m' ρ') ρ3 G3 (fun σ' H' => ∃ m', m' < m ∧ ∃ ρ2 G2, Ex P G G2 ∧ Alike n ρ ρ2 ∧ Rep (zOf X P) [] G2 ρ2 σ' H' ∧ W m' ρ2) := fun ρ5 σ5 G5 H5 ⟨m', hm, w⟩ s5 al5 R5 => ⟨m', hm, ρ5, G5, (s2.trans s3).trans s5, (al2.trans al3).trans al5, R5, w⟩
    have kk := k.after (s2.trans s3) (al2.trans al3)
    exact ⟨on, kk.nx, on, kk.rt, kk.ro⟩
end
end Dl
set_option Elab.async false
set_option linter.all false
set_option maxRecDepth 100000
set_option maxHeartbeats 4000000
namespace Dl
open PySem PySem.Spec PyProof PyProof.Rows L2 So Da
abbrev ErD := Addr × PyData
abbrev EK := ErD → Prop
structure Er (K : PySem.W.Frag) (mg : Str → Option Value) (x q an : Str) (st : Stmt) (C fI : Addr) (fdI : FuncData) : Prop where
  T : OexC K C
  na : PySem.W.findIn K (.ref C) an = some none
  ini : PySem.W.findIn K (.ref C) "__init__" = some (some (.ref fI))
  ty : PySem.W.typeIn K (.ref fI) = some (.type "function")
  F : Fun K "__init__" q (inClass st 0) fI fdI
  b : Binds K fdI ["self", an] []
  g : mg x = some (.ref C)
  te : PySem.W.exmOne K (.ref C) (.ref C) = some true
def spIni (C : Addr) (an : Str) : Sp := fun vs H Q _ => ∃ (a : Addr) (v : V), vs = [.ref a, v] ∧ H a = some (exo a C none) ∧ ∀ dx, H dx = none → dx ≠ a → Q .non (upd (upd H dx (exd dx [(an, v)])) a (exo a C (some dx)))
/-- the heap behind a raise -/
theorem raised {C : Addr} {H : Hp} {v : V} {a dx : Addr} {an : Str} (ha : H a = none) (hd : H dx = none) :
    ∀ b o, H b = some o → upd (del (upd (upd (upd H a (exo a C none)) dx (exd dx [(an, v)])) a (exo a C (some dx))) a) dx (.xd [(an, v)]) b = some o := fun b o e => by
  have h1 := ne_of_none e ha
  have h2 := ne_of_none e hd
  rw [upd_ne h2, del_ne h1, upd_ne h1, upd_ne h2, upd_ne h1]
  exact e
/-- what a raise's reading asks -/
theorem mk_err {C : Addr} {H : Hp} {E : XK} {v : V} {an : Str} (r : ∀ d H', H d = none → (∀ b o, H b = some o → H' b = some o) → H' d = some (.xd [(an, v)]) → E (.ref C) (some d) H') : [v].length ≤ 1000 ∧ ∀ a, H a = none → spIni C an (.ref a :: ([v] ++ [])) (upd H a (exo a C none))
    (fun u H2 => u = .non ∧ ∃ (d : Addr) (fs : List (Str × V)), H2 a = some (exo a C (some d)) ∧ H2 d = some (exd d fs) ∧ H d = none ∧ E (.ref C) (some d) (upd (del H2 a) d (.xd fs))) (fun _ _ _ => False) := by
  refine ⟨by show 1 ≤ 1000; decide, fun a ha => ⟨a, v, rfl, upd_same, fun dx n1 n2 => ⟨rfl, dx, [(an, v)], upd_same, ?_, ?_, ?_⟩⟩⟩
  · rw [upd_ne n2, upd_same]
  · rwa [upd_ne n2] at n1
  · rw [upd_ne n2] at n1
    exact r dx _ n1 (raised ha n1) upd_same
/-- what is wished of errors -/
def ErrL (K : Zw) (G0 : Hp) (E : XK) (er : EK) : Prop := ∀ C D d v G' H', er (C, D) → Ex K.T G0 G' → Sub G' H' → NT G' → Xd K C G' d v → Dw K G' v D → E (.ref C) (some d) H'
theorem ErrL.after {K : Zw} {G0 G : Hp} {E : XK} {er : EK} (h : ErrL K G0 E er) (s : Ex K.T G0 G) : ErrL K G E er := fun C D d v G' H' q s' => h C D d v G' H' q (s.trans s')
section
variable {P : Tb} {G0 : Hp} {n : Nat} {X : Cx} {st : Stmt} {e : Expr} {te : DTE}
/-- raise C(e) -/
theorem ds_raise {C : Addr} {an : Str} {E : XK} {er : EK} (ha : P.an C = an) (hE : ErrL (zOf X P) G0 E er) (hps : PS X st (fun _ σ H => tMkO C (spIni C an) [] (tCons (rdE (zOf X P) G0 n te) tNil) σ H fun cls d H' => E cls d H')) : DS P G0 n X st (fun _ ρ => te ρ fun Dv _ => er (C, Dv)) := ps_weak hps fun D σ H ⟨ρ, G, D0, s, R, h, k⟩ =>
  ⟨[], ρ, G, _, s, R, h, fun Dv ρ' v G' H' q s' al R' d => mk_err fun dd H2 n1 k x => by
    have gn := R'.gnone n1
    have s2 : Ex P G' (upd G' dd (.xd [(an, v)])) := Ex.new s'.2 gn
    refine hE C Dv dd v _ H2 q ((s.trans s').trans s2) (fun b o e => ?_) (R'.nt.upd trivial) (by unfold Xd; rw [show (zOf X P).T.an C = an from ha]; exact upd_same) (d.mono s2)
    by_cases z : b = dd
    · rw [z, upd_same] at e
      cases e
      rw [z]
      exact x
    · rw [upd_ne z] at e
      exact k b o (R'.sub b o e)⟩
end
abbrev DTRs := Sto → (List Rv → Sto → Prop) → Prop
def RvAll (K : Zw) (G : Hp) (σ : L2.St) : List V → List Rv → Prop
  | [], [] => True
  | v :: vs, r :: rs => RvOk K G σ v r ∧ RvAll K G σ vs rs
  | _, _ => False
theorem RvAll.mono {K : Zw} {G G' : Hp} {σ : L2.St} (s : Ex K.T G G') : ∀ {vs : List V} {rs : List Rv}, RvAll K G σ vs rs → RvAll K G' σ vs rs
  | [], [], _ => trivial
  | _ :: _, _ :: _, h => ⟨h.1.mono s, RvAll.mono s h.2⟩
theorem RvAll.at {K : Zw} {G : Hp} {σ : L2.St} : ∀ {vs : List V} {rs : List Rv} {k : Nat} {r : Rv}, RvAll K G σ vs rs → rs[k]? = some r → ∃ v, vs[k]? = some v ∧ RvOk K G σ v r
  | [], [], _, _, _, e => by simp at e
  | v :: _, r' :: _, 0, r, h, e => by
    cases e
    exact ⟨v, rfl, h.1⟩
  | _ :: vs, _ :: rs, k + 1, r, h, e => RvAll.at (k := k) h.2 (by simpa using e)
theorem RvAll.len {K : Zw} {G : Hp} {σ : L2.St} : ∀ {vs : List V} {rs : List Rv}, RvAll K G σ vs rs → vs.length = rs.length
  | [], [], _ => rfl
  | _ :: _, _ :: _, h => congrArg Nat.succ (RvAll.len h.2)
def KnRs (K : Zw) (F : List (Addr × HO)) (n : Nat) (Q0 : List Rv → Sto → Prop) (ρ : Sto) (G : Hp) (σ : L2.St) (Q : List V → Hp → Prop) : Prop :=
  ∀ rs ρ' vs G' H', Q0 rs ρ' → Ex K.T G G' → Alike n ρ ρ' → Rep K F G' ρ' σ H' → RvAll K G' σ vs rs → Q vs H'
def rdRs (K : Zw) (G0 : Hp) (n : Nat) (t : DTRs) : TA := fun σ H Q => ∃ F ρ G Q0, Ex K.T G0 G ∧ Rep K F G ρ σ H ∧ t ρ Q0 ∧ KnRs K F n Q0 ρ G σ Q
def DRs (P : Tb) (G0 : Hp) (n : Nat) (X : Cx) (es : List Expr) (t : DTRs) : Prop := PA X es (rdRs (zOf X P) G0 n t)
section
variable {P : Tb} {G0 : Hp} {n : Nat} {X : Cx} {e : Expr} {es : List Expr}
theorem drs_nil : DRs P G0 n X [] (fun ρ Q => Q [] ρ) := pa_weak pa_nil fun σ H Q ⟨F, ρ, G, Q0, s, R, h, k⟩ => k _ ρ _ G H h (Ex.refl s.2) Alike.refl R trivial
theorem drs_cons {t : DTR} {u : DTRs} (h : DR P G0 n X e t) (r : DRs P G0 n X es u) (hs : starEach (e :: es) X.env = (false, eval e X.env) :: starEach es X.env := by rfl) : DRs P G0 n X (e :: es) (fun ρ Q => t ρ fun r ρ1 => u ρ1 fun rs ρ2 => Q (r :: rs) ρ2) :=
  pa_weak (pa_cons h r hs) fun σ H Q ⟨F, ρ, G, Q0, s, R, h, k⟩ => ⟨F, ρ, G, _, s, R, h, fun r1 ρ' v G' H' q s' al R' d => ⟨F, ρ', G', _, s.trans s', R', q, fun rs ρ2 vs G2 H2 q2 s2 al2 R2 d2 => k _ ρ2 _ G2 H2 q2 (s'.trans s2) (al.trans al2) R2 ⟨d.mono s2, d2⟩⟩⟩
end
abbrev TD := List Lc → (PyData → List Lc → Prop) → EK → Prop
/-- the same arguments, the objects of one's own perhaps changed -/
inductive Same : List Lc → List Lc → Prop
  | nil : Same [] []
  | un {as bs : List Lc} : Same as bs → Same (.un :: as) (.un :: bs)
  | sh {D : PyData} {as bs : List Lc} : Same as bs → Same (.sh D :: as) (.sh D :: bs)
  | ob {a : Addr} {c c' : Oc} {as bs : List Lc} : Same as bs → Same (.ob a c :: as) (.ob a c' :: bs)
  | exc {a C d : Addr} {D : PyData} {as bs : List Lc} : Same as bs → Same (.exc a C d D :: as) (.exc a C d D :: bs)
  | ask {O : Fk} {as bs : List Lc} : Same as bs → Same (.ask O :: as) (.ask O :: bs)
theorem Same.len : ∀ {as bs : List Lc}, Same as bs → as.length = bs.length
  | _, _, .nil => rfl
  | _, _, .un h => congrArg Nat.succ h.len
  | _, _, .sh h => congrArg Nat.succ h.len
  | _, _, .ob h => congrArg Nat.succ h.len
  | _, _, .exc h => congrArg Nat.succ h.len
  | _, _, .ask h => congrArg Nat.succ h.len
theorem Same.fwd {a : Addr} {c : Oc} : ∀ {as bs : List Lc} {k : Nat}, Same as bs → as[k]? = some (.ob a c) → ∃ c', bs[k]? = some (.ob a c')
  | _, _, 0, .ob h, e => by cases e; exact ⟨_, rfl⟩
  | _, _, k + 1, .un h, e => Same.fwd (k := k) h (by simpa using e)
  | _, _, k + 1, .sh h, e => Same.fwd (k := k) h (by simpa using e)
  | _, _, k + 1, .ob h, e => Same.fwd (k := k) h (by simpa using e)
  | _, _, k + 1, .exc h, e => Same.fwd (k := k) h (by simpa using e)
  | _, _, k + 1, .ask h, e => Same.fwd (k := k) h (by simpa using e)
  | _, _, _, .nil, e => by simp at e
theorem Same.bwd {a : Addr} {c : Oc} : ∀ {as bs : List Lc} {k : Nat}, Same as bs → bs[k]? = some (.ob a c) → ∃ c', as[k]? = some (.ob a c')
  | _, _, 0, .ob h, e => by cases e; exact ⟨_, rfl⟩
  | _, _, k + 1, .un h, e => Same.bwd (k := k) h (by simpa using e)
  | _, _, k + 1, .sh h, e => Same.bwd (k := k) h (by simpa using e)
  | _, _, k + 1, .ob h, e => Same.bwd (k := k) h (by simpa using e)
  | _, _, k + 1, .exc h, e => Same.bwd (k := k) h (by simpa using e)
  | _, _, k + 1, .ask h, e => Same.bwd (k := k) h (by simpa using e)
  | _, _, _, .nil, e => by simp at e
theorem Same.shw {D : PyData} : ∀ {as bs : List Lc} {k : Nat}, Same as bs → bs[k]? = some (.sh D) → as[k]? = some (.sh D)
  | _, _, 0, .sh h, e => by cases e; rfl
  | _, _, k + 1, .un h, e => by simpa using Same.shw (k := k) h (by simpa using e)
  | _, _, k + 1, .sh h, e => by simpa using Same.shw (k := k) h (by simpa using e)
  | _, _, k + 1, .ob h, e => by simpa using Same.shw (k := k) h (by simpa using e)
  | _, _, k + 1, .exc h, e => by simpa using Same.shw (k := k) h (by simpa using e)
  | _, _, k + 1, .ask h, e => by simpa using Same.shw (k := k) h (by simpa using e)
  | _, _, _, .nil, e => by simp at e
theorem Same.exw {a C d : Addr} {D : PyData} : ∀ {as bs : List Lc} {k : Nat}, Same as bs → bs[k]? = some (.exc a C d D) → as[k]? = some (.exc a C d D)
  | _, _, 0, .exc h, e => by cases e; rfl
  | _, _, k + 1, .un h, e => by simpa using Same.exw (k := k) h (by simpa using e)
  | _, _, k + 1, .sh h, e => by simpa using Same.exw (k := k) h (by simpa using e)
  | _, _, k + 1, .ob h, e => by simpa using Same.exw (k := k) h (by simpa using e)
  | _, _, k + 1, .exc h, e => by simpa using Same.exw (k := k) h (by simpa using e)
  | _, _, k + 1, .ask h, e => by simpa using Same.exw (k := k) h (by simpa using e)
  | _, _, _, .nil, e => by simp at e
theorem Same.asw {O : Fk} : ∀ {as bs : List Lc} {k : Nat}, Same as bs → bs[k]? = some (.ask O) → as[k]? = some (.ask O)
  | _, _, 0, .ask h, e => by cases e; rfl
  | _, _, k + 1, .un h, e => by simpa using Same.asw (k := k) h (by simpa using e)
  | _, _, k + 1, .sh h, e => by simpa using Same.asw (k := k) h (by simpa using e)
  | _, _, k + 1, .ob h, e => by simpa using Same.asw (k := k) h (by simpa using e)
  | _, _, k + 1, .exc h, e => by simpa using Same.asw (k := k) h (by simpa using e)
  | _, _, k + 1, .ask h, e => by simpa using Same.asw (k := k) h (by simpa using e)
  | _, _, _, .nil, e => by simp at e
def spT (K : Zw) (T : TD) : Sp := fun vs H Q E => ∃ G as Q0 er, Tg G K.T ∧ Rep K [] G as (vs.map some) H ∧ T as Q0 er ∧
  (∀ D as' v G' H', Q0 D as' → Same as as' → Ex K.T G G' → Rep K [] G' as' (vs.map some) H' → Dw K G' v D → Q v H') ∧ ErrL K G E er
def argLc (ρ : Sto) : Rv → Lc
  | .val D => .sh D
  | .slot i => ρ[i]?.getD .un
def upO (r : Rv) (lc : Lc) (ρ : Sto) : Sto := match r, lc with
  | .slot i, .ob a c => ρ.set i (.ob a c)
  | _, _ => ρ
def upS : List Rv → List Lc → Sto → Sto
  | r :: rs, lc :: as, ρ => upO r lc (upS rs as ρ)
  | [], _, ρ => ρ
  | _ :: _, [], ρ => ρ
def obSlots (ρ : Sto) : List Rv → List Nat
  | [] => []
  | .val _ :: rs => obSlots ρ rs
  | .slot i :: rs => match ρ[i]? with
    | some (.ob _ _) => i :: obSlots ρ rs
    | _ => obSlots ρ rs
theorem upO_len (r : Rv) (lc : Lc) (ρ : Sto) : (upO r lc ρ).length = ρ.length := by
  unfold upO
  split
  · rw [List.length_set]
  · rfl
theorem upS_len : ∀ (rs : List Rv) (as : List Lc) (ρ : Sto), (upS rs as ρ).length = ρ.length
  | [], _, _ => rfl
  | _ :: _, [], ρ => rfl
  | r :: rs, lc :: as, ρ => (upO_len r lc _).trans (upS_len rs as ρ)
theorem upS_get {ρ : Sto} {i : Nat} (hi : i < ρ.length) : ∀ (rs : List Rv) (as : List Lc), (∃ (k : Nat) (a : Addr) (c : Oc), rs[k]? = some (.slot i) ∧ as[k]? = some (.ob a c) ∧ (upS rs as ρ)[i]? = some (.ob a c)) ∨
    ((upS rs as ρ)[i]? = ρ[i]? ∧ ∀ (k : Nat) (a : Addr) (c : Oc), rs[k]? = some (.slot i) → as[k]? ≠ some (.ob a c))
  | [], as => .inr ⟨rfl, fun k a c e => by simp at e⟩
  | _ :: _, [] => .inr ⟨rfl, fun k a c _ e => by simp at e⟩
  | r :: rs, lc :: as => by
    have ih := upS_get hi rs as
    have next : (∀ a c, ¬ (r = .slot i ∧ lc = .ob a c)) → (upS (r :: rs) (lc :: as) ρ)[i]? = (upS rs as ρ)[i]? → (∃ (k : Nat) (a : Addr) (c : Oc), (r :: rs)[k]? = some (.slot i) ∧ (lc :: as)[k]? = some (.ob a c) ∧ (upS (r :: rs) (lc :: as) ρ)[i]? = some (.ob a c)) ∨
      ((upS (r :: rs) (lc :: as) ρ)[i]? = ρ[i]? ∧ ∀ (k : Nat) (a : Addr) (c : Oc), (r :: rs)[k]? = some (.slot i) → (lc :: as)[k]? ≠ some (.ob a c)) := fun no e => by
      rcases ih with ⟨k, a, c, h1, h2, h3⟩ | ⟨h1, h2⟩
      · exact .inl ⟨k + 1, a, c, by simpa using h1, by simpa using h2, e.trans h3⟩
      · refine .inr ⟨e.trans h1, fun k a c e1 e2 => ?_⟩
        cases k with
        | zero =>
          have e1 : some r = some (Rv.slot i) := e1
          have e2 : some lc = some (Lc.ob a c) := e2
          exact no a c ⟨Option.some.inj e1, Option.some.inj e2⟩
        | succ k => exact h2 k a c (by simpa using e1) (by simpa using e2)
    cases r with
    | val D => exact next (fun a c z => nomatch z.1) rfl
    | slot j =>
      cases lc with
      | un => exact next (fun a c z => nomatch z.2) rfl
      | sh D => exact next (fun a c z => nomatch z.2) rfl
      | exc a C d D => exact next (fun a c z => nomatch z.2) rfl
      | ask O => exact next (fun a c z => nomatch z.2) rfl
      | ob a c =>
        by_cases q : j = i
        · subst q
          refine .inl ⟨0, a, c, rfl, rfl, ?_⟩
          show ((upS rs as ρ).set j (.ob a c))[j]? = _
          rw [List.getElem?_set_self (by rw [upS_len]; exact hi)]
        · refine next (fun a' c' z => q (Rv.slot.inj z.1)) ?_
          show ((upS rs as ρ).set j (.ob a c))[i]? = _
          rw [List.getElem?_set_ne q]
def ownL : List Lc → List Addr
  | [] => []
  | .ob a _ :: r => a :: ownL r
  | _ :: r => ownL r
theorem mem_ownL {a : Addr} : ∀ {ρ : List Lc}, a ∈ ownL ρ ↔ Owns ρ a
  | [] => ⟨(fun h => nomatch h), fun ⟨i, c, e⟩ => by simp at e⟩
  | lc :: r => by
    have ih := mem_ownL (a := a) (ρ := r)
    have step : Owns r a → Owns (lc :: r) a := fun ⟨i, c, e⟩ => ⟨i + 1, c, by simpa using e⟩
    have back : (∀ c, lc ≠ .ob a c) → Owns (lc :: r) a → Owns r a := fun no ⟨i, c, e⟩ => by
      cases i with
      | zero => exact absurd (Option.some.inj (show some lc = some (Lc.ob a c) from e)) (no c)
      | succ i => exact ⟨i, c, by simpa using e⟩
    cases lc with
    | un => exact ih.trans ⟨step, back fun c z => nomatch z⟩
    | sh D => exact ih.trans ⟨step, back fun c z => nomatch z⟩
    | exc a C d D => exact ih.trans ⟨step, back fun c z => nomatch z⟩
    | ask O => exact ih.trans ⟨step, back fun c z => nomatch z⟩
    | ob b c =>
      show a ∈ b :: ownL r ↔ _
      rw [List.mem_cons, ih]
      refine ⟨fun h => h.elim (fun z => ⟨0, c, by rw [z]; rfl⟩) step, fun h => ?_⟩
      by_cases q : a = b
      · exact .inl q
      · exact .inr (back (fun c' z => q (Lc.ob.inj z).1.symm) h)
section
variable {K : Zw} {F : List (Addr × HO)} {G G' H H' : Hp} {ρ : Sto} {σ : L2.St} {vs : List V} {rs : List Rv} {as' : List Lc}
/-- what a call hides -/
def hidL (F : List (Addr × HO)) (ρ : Sto) (as : List Lc) : List Addr := (ownL ρ).filter (fun a => decide (a ∉ ownL as)) ++ F.map (·.1)
theorem mem_hidL {as : List Lc} {a : Addr} : a ∈ hidL F ρ as ↔ (Owns ρ a ∧ ¬ Owns as a) ∨ ∃ o, (a, o) ∈ F := by
  unfold hidL
  rw [List.mem_append, List.mem_filter, mem_ownL, decide_eq_true_eq, mem_ownL, List.mem_map]
  exact or_congr Iff.rfl ⟨fun ⟨⟨b, o⟩, h1, h2⟩ => ⟨o, by cases h2; exact h1⟩, fun ⟨o, h⟩ => ⟨(a, o), h, rfl⟩⟩
abbrev argsOf (ρ : Sto) (rs : List Rv) : List Lc := rs.map (argLc ρ)
theorem arg_at {k : Nat} {lc : Lc} (h : (argsOf ρ rs)[k]? = some lc) : ∃ r, rs[k]? = some r ∧ argLc ρ r = lc := by
  rw [List.getElem?_map] at h
  cases e : rs[k]? with
  | none => rw [e] at h; cases h
  | some r => rw [e] at h; exact ⟨r, rfl, Option.some.inj h⟩
theorem argLc_ob {r : Rv} {a : Addr} {c : Oc} (h : argLc ρ r = .ob a c) : ∃ i, r = .slot i ∧ ρ[i]? = some (.ob a c) := by
  cases r with
  | val D => exact nomatch h
  | slot i =>
    refine ⟨i, rfl, ?_⟩
    unfold argLc at h
    dsimp only at h
    cases e : ρ[i]? with
    | none => rw [e] at h; exact nomatch h
    | some lc => rw [e] at h; exact congrArg some h
theorem argLc_sh {r : Rv} {D : PyData} (h : argLc ρ r = .sh D) : r = .val D ∨ ∃ i, r = .slot i ∧ ρ[i]? = some (.sh D) := by
  cases r with
  | val D' => cases h; exact .inl rfl
  | slot i =>
    refine .inr ⟨i, rfl, ?_⟩
    unfold argLc at h
    dsimp only at h
    cases e : ρ[i]? with
    | none => rw [e] at h; exact nomatch h
    | some lc => rw [e] at h; exact congrArg some h
theorem own_arg {a : Addr} (h : Owns (argsOf ρ rs) a) : ∃ (k i : Nat) (c : Oc), rs[k]? = some (.slot i) ∧ ρ[i]? = some (.ob a c) := by
  obtain ⟨k, c, e⟩ := h
  obtain ⟨r, h1, h2⟩ := arg_at e
  obtain ⟨i, rfl, h3⟩ := argLc_ob h2
  exact ⟨k, i, c, h1, h3⟩
theorem nodup_slots : ∀ {rs : List Rv} {k k' i : Nat} {a : Addr} {c : Oc}, (obSlots ρ rs).Nodup → ρ[i]? = some (.ob a c) → rs[k]? = some (.slot i) → rs[k']? = some (.slot i) → k = k' := by
  intro rs
  induction rs with
  | nil => intro k k' i a c _ _ h; simp at h
  | cons r rs ih =>
    intro k k' i a c nd e h h'
    have mem : ∀ {j : Nat} {rs : List Rv}, rs[j]? = some (.slot i) → i ∈ obSlots ρ rs := by
      intro j rs
      induction rs generalizing j with
      | nil => intro h; simp at h
      | cons r rs ih =>
        intro h
        cases j with
        | zero =>
          cases h
          unfold obSlots
          rw [e]
          exact List.mem_cons_self
        | succ j =>
          have m := ih (j := j) (by simpa using h)
          cases r with
          | val D => exact m
          | slot q =>
            unfold obSlots
            split
            · exact List.mem_cons_of_mem _ m
            · exact m
    have tl : (obSlots ρ rs).Nodup := by
      cases r with
      | val D => exact nd
      | slot q =>
        unfold obSlots at nd
        split at nd
        · exact (List.nodup_cons.mp nd).2
        · exact nd
    cases k with
    | zero =>
      cases k' with
      | zero => rfl
      | succ k' =>
        cases h
        unfold obSlots at nd
        rw [e] at nd
        exact absurd (mem (j := k') (by simpa using h')) (List.nodup_cons.mp nd).1
    | succ k =>
      cases k' with
      | zero =>
        cases h'
        unfold obSlots at nd
        rw [e] at nd
        exact absurd (mem (j := k) (by simpa using h)) (List.nodup_cons.mp nd).1
      | succ k' => exact congrArg Nat.succ (ih (k := k) (k' := k') tl e (by simpa using h) (by simpa using h'))
theorem argLc_lc {r : Rv} {lc : Lc} (h : argLc ρ r = lc) (n : ∀ D, lc ≠ .sh D) (m : lc ≠ .un) : ∃ i, r = .slot i ∧ ρ[i]? = some lc := by
  cases r with
  | val D => exact absurd h.symm (n D)
  | slot i =>
    refine ⟨i, rfl, ?_⟩
    unfold argLc at h
    dsimp only at h
    cases e : ρ[i]? with
    | none => rw [e] at h; exact absurd h.symm m
    | some lc => rw [e] at h; exact congrArg some h
def hid (ls : List Addr) (H : Hp) : Hp := mask ls noCo H
def bak (ls : List Addr) (H H' : Hp) : Hp := unmask ls noCo H H'
theorem hid_out {ls : List Addr} {b : Addr} (h : b ∉ ls) : hid ls H b = H b := mask_out h rfl
theorem bak_in {ls : List Addr} {b : Addr} (h : b ∈ ls) : bak ls H H' b = H b := unmask_in h
theorem bak_out {ls : List Addr} {b : Addr} (h : b ∉ ls) : bak ls H H' b = H' b := unmask_out h rfl
/-- the state as the called def sees it -/
theorem Rep.call (R : Rep K F G ρ σ H) (va : RvAll K G σ vs rs) (nd : (obSlots ρ rs).Nodup) : (∀ b ∈ hidL F ρ (argsOf ρ rs), ∃ o, H b = some o ∧ Lcl o) ∧ Rep K [] G (argsOf ρ rs) (vs.map some) (hid (hidL F ρ (argsOf ρ rs)) H) := by
  refine ⟨fun b m => ?_, by rw [List.length_map, List.length_map]; exact va.len, fun {k D} e => ?_, fun {k a c} e => ?_, fun {k a C d D} e => ?_, fun {k O} e => ?_, fun {k k' a c c'} e e' => ?_, fun m => absurd m List.not_mem_nil, fun b u e => ?_, R.nt⟩
  · rcases mem_hidL.mp m with ⟨⟨i, c, e⟩, _⟩ | ⟨o, m⟩
    · obtain ⟨_, _, o, h3, h4⟩ := R.ob e
      exact ⟨o, h3, h4.lcl⟩
    · obtain ⟨h1, _, _, l⟩ := R.ex m
      exact ⟨_, h1, l⟩
  · obtain ⟨r, h1, h2⟩ := arg_at e
    obtain ⟨v, h3, h4⟩ := va.at h1
    refine ⟨v, by rw [List.getElem?_map, h3]; rfl, ?_⟩
    rcases argLc_sh h2 with rfl | ⟨i, rfl, e2⟩
    · exact h4
    · obtain ⟨v', h5, h6⟩ := R.sh e2
      have h4 : σ[i]? = some (some v) := h4
      rw [h4] at h5
      cases h5
      exact h6
  · obtain ⟨r, h1, h2⟩ := arg_at e
    obtain ⟨v, h3, h4⟩ := va.at h1
    obtain ⟨i, rfl, e2⟩ := argLc_ob h2
    obtain ⟨h5, h6, o, h7, h8⟩ := R.ob e2
    have h4 : σ[i]? = some (some v) := h4
    rw [h4] at h5
    cases h5
    refine ⟨by rw [List.getElem?_map, h3]; rfl, h6, o, ?_, h8⟩
    rw [hid_out fun m => ?_]
    · exact h7
    · rcases mem_hidL.mp m with ⟨_, no⟩ | ⟨u, m⟩
      · exact no ⟨k, c, e⟩
      · exact (R.ex m).2.2.1 ⟨i, c, e2⟩
  · obtain ⟨r, h1, h2⟩ := arg_at e
    obtain ⟨v, h3, h4⟩ := va.at h1
    obtain ⟨i, rfl, e2⟩ := argLc_lc h2 (fun _ z => nomatch z) (fun z => nomatch z)
    obtain ⟨h5, h6⟩ := R.exc e2
    have h4 : σ[i]? = some (some v) := h4
    rw [h4] at h5
    cases h5
    exact ⟨by rw [List.getElem?_map, h3]; rfl, h6⟩
  · obtain ⟨r, h1, h2⟩ := arg_at e
    obtain ⟨v, h3, h4⟩ := va.at h1
    obtain ⟨i, rfl, e2⟩ := argLc_lc h2 (fun _ z => nomatch z) (fun z => nomatch z)
    obtain ⟨f, h5, h6⟩ := R.ask e2
    have h4 : σ[i]? = some (some v) := h4
    rw [h4] at h5
    cases h5
    exact ⟨f, by rw [List.getElem?_map, h3]; rfl, h6⟩
  · obtain ⟨r, h1, h2⟩ := arg_at e
    obtain ⟨i, rfl, e2⟩ := argLc_ob h2
    obtain ⟨r', h1', h2'⟩ := arg_at e'
    obtain ⟨i', rfl, e2'⟩ := argLc_ob h2'
    have := R.uniq e2 e2'
    subst this
    exact nodup_slots nd e2 h1 h1'
  · rw [hid_out fun m => ?_]
    · exact R.sub b u e
    · rcases mem_hidL.mp m with ⟨⟨i, c, z⟩, _⟩ | ⟨o, m⟩
      · rw [(R.ob z).2.1] at e
        cases e
      · rw [(R.ex m).2.1] at e
        cases e
theorem upS_alike {n : Nat} (sm : Same (argsOf ρ rs) as') : Alike n ρ (upS rs as' ρ) := fun i a c _ e => by
  have hi := (List.getElem?_eq_some_iff.mp e).1
  rcases upS_get hi rs as' with ⟨k, b, d, h1, h2, h3⟩ | ⟨h1, _⟩
  · obtain ⟨c', h4⟩ := sm.bwd h2
    obtain ⟨r, h5, h6⟩ := arg_at h4
    rw [h1] at h5
    cases h5
    obtain ⟨j, h7, h8⟩ := argLc_ob h6
    cases h7
    rw [e] at h8
    cases h8
    exact ⟨d, h3⟩
  · exact ⟨c, h1.trans e⟩
/-- .. and behind the call -/
theorem Rep.back (t : Tg G K.T) (R : Rep K F G ρ σ H) (va : RvAll K G σ vs rs) (sm : Same (argsOf ρ rs) as') (s : Ex K.T G G') (R' : Rep K [] G' as' (vs.map some) H') (gone : ∀ b ∈ hidL F ρ (argsOf ρ rs), H' b = none) :
    Rep K F G' (upS rs as' ρ) σ (bak (hidL F ρ (argsOf ρ rs)) H H') := by
  have ow' : ∀ {b}, Owns as' b → Owns (argsOf ρ rs) b := fun {b} ⟨k, c, e⟩ => by
    obtain ⟨c', h⟩ := sm.bwd e
    exact ⟨k, c', h⟩
  have free : ∀ {b}, b ∈ hidL F ρ (argsOf ρ rs) → ¬ Owns (argsOf ρ rs) b → G' b = none := fun {b} m no => by
    cases e : G' b with
    | none => rfl
    | some u =>
      have := R'.sub b u e
      rw [gone b m] at this
      cases this
  have get : ∀ {i a c}, (upS rs as' ρ)[i]? = some (.ob a c) → i < ρ.length := fun {i a c} e => by
    have := (List.getElem?_eq_some_iff.mp e).1
    rwa [upS_len] at this
  -- an object of one's own behind the call was one ahead of it, in the same slot
  have was : ∀ {i : Nat} {a : Addr} {c : Oc}, (upS rs as' ρ)[i]? = some (Lc.ob a c) → ∃ c', ρ[i]? = some (Lc.ob a c') := fun {i a c} e => by
    rcases upS_get (get e) rs as' with ⟨k, b, d, h1, h2, h3⟩ | ⟨h1, _⟩
    · rw [h3] at e
      cases e
      obtain ⟨c', h4⟩ := sm.bwd h2
      obtain ⟨r, h5, h6⟩ := arg_at h4
      rw [h1] at h5
      cases h5
      obtain ⟨j, h7, h8⟩ := argLc_ob h6
      cases h7
      exact ⟨c', h8⟩
    · exact ⟨c, h1.symm.trans e⟩
  have old : ∀ {i : Nat} {lc : Lc}, (upS rs as' ρ)[i]? = some lc → (∀ a c, lc ≠ .ob a c) → ρ[i]? = some lc := fun {i lc} e n => by
    have hi : i < ρ.length := by
      have := (List.getElem?_eq_some_iff.mp e).1
      rwa [upS_len] at this
    rcases upS_get hi rs as' with ⟨k, b, d, h1, h2, h3⟩ | ⟨h1, _⟩
    · rw [h3] at e
      exact absurd (Option.some.inj e).symm (n b d)
    · exact h1.symm.trans e
  refine ⟨by rw [upS_len]; exact R.len, fun {i D} e => ?_, fun {i a c} e => ?_, fun {i a C d D} e => ?_, fun {i O} e => ?_, fun {i j a c c'} e e' => ?_, fun {a o} m => ?_, fun b u e => ?_, R'.nt⟩
  · have hi : i < ρ.length := by
      have := (List.getElem?_eq_some_iff.mp e).1
      rwa [upS_len] at this
    rcases upS_get hi rs as' with ⟨k, b, d, h1, h2, h3⟩ | ⟨h1, _⟩
    · rw [h3] at e
      cases e
    · obtain ⟨v, h2, h3⟩ := R.sh (h1.symm.trans e)
      exact ⟨v, h2, Dw.mono s h3⟩
  · rcases upS_get (get e) rs as' with ⟨k, b, d, h1, h2, h3⟩ | ⟨h1, h2⟩
    · rw [h3] at e
      cases e
      obtain ⟨c', h4⟩ := sm.bwd h2
      obtain ⟨r, h5, h6⟩ := arg_at h4
      rw [h1] at h5
      cases h5
      obtain ⟨j, h7, h8⟩ := argLc_ob h6
      cases h7
      obtain ⟨q1, q2, o, q3, q4⟩ := R'.ob h2
      refine ⟨(R.ob h8).1, q2, o, ?_, q4⟩
      rw [bak_out fun m => ?_]
      · exact q3
      · rcases mem_hidL.mp m with ⟨_, no⟩ | ⟨u, m⟩
        · exact no ⟨k, c', h4⟩
        · exact (R.ex m).2.2.1 ⟨i, c', h8⟩
    · have e1 := h1.symm.trans e
      obtain ⟨q1, q2, o, q3, q4⟩ := R.ob e1
      have no : ¬ Owns (argsOf ρ rs) a := fun z => by
        obtain ⟨k, i', c', r1, r2⟩ := own_arg z
        have := R.uniq r2 e1
        subst this
        have h4 : (argsOf ρ rs)[k]? = some (.ob a c') := by
          rw [List.getElem?_map, r1]
          show some (ρ[i']?.getD .un) = _
          rw [r2]
          rfl
        obtain ⟨c2, h5⟩ := sm.fwd h4
        exact h2 k a c2 r1 h5
      have m : a ∈ hidL F ρ (argsOf ρ rs) := mem_hidL.mpr (.inl ⟨⟨i, c, e1⟩, no⟩)
      exact ⟨q1, free m no, o, by rw [bak_in m]; exact q3, q4.mono s⟩
  · obtain ⟨h2, v, h3, h4⟩ := R.exc (old e (fun _ _ z => nomatch z))
    exact ⟨h2, v, s.1 _ _ h3 (fun _ z => nomatch z), h4.mono s⟩
  · obtain ⟨f, h2, h3⟩ := R.ask (old e (fun _ _ z => nomatch z))
    exact ⟨f, h2, h3.mono s⟩
  · obtain ⟨_, h1⟩ := was e
    obtain ⟨_, h2⟩ := was e'
    exact R.uniq h1 h2
  · obtain ⟨h1, h2, h3, h4⟩ := R.ex m
    have mm : a ∈ hidL F ρ (argsOf ρ rs) := mem_hidL.mpr (.inr ⟨o, m⟩)
    refine ⟨by rw [bak_in mm]; exact h1, free mm fun z => ?_, fun ⟨i, c, e⟩ => ?_, h4⟩
    · obtain ⟨k, i', c', r1, r2⟩ := own_arg z
      exact h3 ⟨i', c', r2⟩
    · obtain ⟨c', e'⟩ := was e
      exact h3 ⟨i, c', e'⟩
  · rw [bak_out fun m => ?_]
    · exact R'.sub b u e
    · have := R'.sub b u e
      rw [gone b m] at this
      cases this
end
section
variable {P : Tb} {G0 : Hp} {n : Nat} {X : Cx} {e : Expr} {es : List Expr} {T : TD} {k : Nat} {f : Addr} {fd : FuncData} {ps ks : List Str} {x : Str} {p pos kpos : Pos} {t : DTRs} {nm : Option Str} {kws : List Keyword} {g : List Value → List Value → List Value} {gV : List V → List V → List V}
theorem noCo_of {X : Cx} {σ : L2.St} {co : Addr → Option Obj} (h : Shown X σ [] co) : co = noCo := by
  funext b
  cases e : co b with
  | none => rfl
  | some ob =>
    obtain ⟨j, y, m, _⟩ := h.own b ob e
    exact nomatch m
/-- the call itself, its arguments known -/
theorem call_at {E : XK} {er : EK} {σ : L2.St} {F : List (Addr × HO)} {G : Hp} {ρ : Sto} {H : Hp} {vs : List V} {rs : List Rv} {Q0 : PyData → Sto → Prop} {Q : VK} (hE : ErrL (zOf X P) G0 E er) (s : Ex P G0 G) (R : Rep (zOf X P) F G ρ σ H) (va : RvAll (zOf X P) G σ vs rs) (nd : (obSlots ρ rs).Nodup)
    (q : T (argsOf ρ rs) (fun D as' => Q0 D (upS rs as' ρ)) er) (kk : Kn (zOf X P) F n Q0 ρ G σ Q) : maskK X σ (spT (zOf X P) T) E vs H Q := by
  unfold maskK
  obtain ⟨L, Rc⟩ := R.call va nd
  refine ⟨hidL F ρ (argsOf ρ rs), [], L, (fun j m => nomatch m), fun co sh _ => ?_⟩
  rw [noCo_of sh]
  refine ⟨G, argsOf ρ rs, _, er, s.2, Rc, q, fun D as' v G2 H2 q2 sm s2 R2 d bk => ?_, fun C D d v G2 H2 q2 s2 sub2 nt2 xd dv bk => ?_⟩
  · exact kk _ _ _ _ _ q2 s2 (upS_alike sm) (R.back s.2 va sm s2 R2 bk.gone) d
  · refine hE C D d v G2 _ q2 (s.trans s2) (fun b o e => ?_) nt2 xd dv
    rw [show unmask (hidL F ρ (argsOf ρ rs)) noCo H H2 b = bak (hidL F ρ (argsOf ρ rs)) H H2 b from rfl, bak_out fun m => ?_]
    · exact sub2 b o e
    · have := sub2 b o e
      rw [bk.gone b m] at this
      cases this
def dCall (T : TD) (er : EK) (t : DTRs) : DTE := fun ρ Q => t ρ fun rs ρ1 => (obSlots ρ1 rs).Nodup ∧ T (argsOf ρ1 rs) (fun D as' => Q D (upS rs as' ρ1)) er
theorem call_read {E : XK} {er : EK} (hE : ErrL (zOf X P) G0 E er) {σ : L2.St} {H : Hp} {Q : VK} (h : rdE (zOf X P) G0 n (dCall T er t) σ H Q) : tCallM X (spT (zOf X P) T) (fun _ => E) (rdRs (zOf X P) G0 n t) σ H Q := by
  obtain ⟨F, ρ, G, Q0, s, R, h, kk⟩ := h
  exact ⟨F, ρ, G, _, s, R, h, fun rs ρ1 vs G1 H1 ⟨nd, q⟩ s1 al1 R1 va => call_at hE (s.trans s1) R1 va nd q (kk.after s1 al1)⟩
theorem errL_none {K : Zw} {G : Hp} : ErrL K G (fun _ _ _ => False) (fun _ => False) := fun _ _ _ _ _ _ q _ _ _ _ _ => q
/-- f(..), f lets nothing out -/
theorem de_call (Fk : FnD X.prog X.w X.K X.mg X.base CX0 k f fd ps (spT (zOf X P) T)) (hr : Room k X.A) (hgd : X.A.guards = some []) (hg : Gl X x) (hm : X.mg x = some (.ref f)) (hk : PySem.W.keepIn X.K (.ref f) = true) (hb : Binds X.K fd ps []) (ha : DRs P G0 n X (e :: es) t)
    (hdb : (x == ("__debug__" : Str)) = false := by decide) (he : starEach (e :: es) X.env = (false, eval e X.env) :: starEach es X.env := by rfl) (hpl : (backTo pos (starEach es X.env)).any (·.1) = false := by rfl) :
    DE P G0 n X (.Call (.Name x p) (e :: es) [] pos) (dCall T (fun _ => False) t) := pe_weak (pe_callM (E := fun _ _ _ _ => False) Fk .non hr hgd hg hm hk hb ha hdb he hpl) fun σ H Q h => call_read errL_none h
/-- f(..), f may raise -/
theorem de_callX {E : XK} {er : EK} (hE : ErrL (zOf X P) G0 E er) (hx : Passes (L2.CX X.prog X.w) X E) (Fk : FnD X.prog X.w X.K X.mg X.base (L2.CX X.prog X.w) k f fd ps (spT (zOf X P) T)) (hr : Room k X.A) (hgd : X.A.guards = some []) (hg : Gl X x) (hm : X.mg x = some (.ref f)) (hk : PySem.W.keepIn X.K (.ref f) = true) (hb : Binds X.K fd ps []) (ha : DRs P G0 n X (e :: es) t)
    (hdb : (x == ("__debug__" : Str)) = false := by decide) (he : starEach (e :: es) X.env = (false, eval e X.env) :: starEach es X.env := by rfl) (hpl : (backTo pos (starEach es X.env)).any (·.1) = false := by rfl) :
    DE P G0 n X (.Call (.Name x p) (e :: es) [] pos) (dCall T er t) := pe_weak (pe_callM Fk (.all hx) hr hgd hg hm hk hb ha hdb he hpl) fun σ H Q h => call_read hE h
def pick {α : Type} (is : List Nat) (l : List α) : List α := is.filterMap fun i => l[i]?
/-- f(r = .., q = .., p = ..) -/
def dCallK (is : List Nat) (T : TD) (er : EK) (t : DTRs) : DTE := fun ρ Q => t ρ fun rs ρ1 => (obSlots ρ1 (pick is rs)).Nodup ∧ T (argsOf ρ1 (pick is rs)) (fun D as' => Q D (upS (pick is rs) as' ρ1)) er
end
end Dl
set_option Elab.async false
set_option linter.all false
set_option maxRecDepth 100000
set_option maxHeartbeats 4000000
namespace Dl
open PySem PySem.Spec PyProof PyProof.Rows L2 So Da
def outA : List Lc → Sto → List Lc
  | [], _ => []
  | lc :: as, ρ => (match lc, ρ.head? with
    | .ob a _, some (.ob _ c') => .ob a c'
    | lc, _ => lc) :: outA as ρ.tail
def start0 (m : Nat) (as : List Lc) : Sto := as ++ List.replicate m .un
section
variable {K : Zw} {F : List (Addr × HO)} {G G' H H' : Hp} {ρ : Sto} {σ : L2.St} {vs : List V} {as : List Lc}
theorem un_of {m i : Nat} {lc : Lc} {ρ : Sto} (h : (ρ ++ List.replicate m Lc.un)[i]? = some lc) (n : lc ≠ .un) : ρ[i]? = some lc := by
  by_cases q : i < ρ.length
  · rwa [List.getElem?_append_left q] at h
  · rw [List.getElem?_append_right (by omega), List.getElem?_replicate] at h
    split at h
    · exact absurd (Option.some.inj h).symm n
    · cases h
theorem Rep.more (m : Nat) (R : Rep K F G ρ σ H) : Rep K F G (ρ ++ List.replicate m .un) (σ ++ List.replicate m none) H := by
  have left : ∀ {i lc}, ρ[i]? = some lc → (σ ++ List.replicate m none)[i]? = σ[i]? := fun {i lc} e => List.getElem?_append_left (R.lt e)
  have ob' : ∀ {i : Nat} {a : Addr} {c : Oc}, (ρ ++ List.replicate m Lc.un)[i]? = some (Lc.ob a c) → ρ[i]? = some (Lc.ob a c) := fun e => un_of e fun z => Lc.noConfusion z
  refine ⟨by rw [List.length_append, List.length_append, List.length_replicate, List.length_replicate, R.len], fun {i D} e => ?_, fun {i a c} e => ?_, fun {i a C d D} e => ?_, fun {i O} e => ?_, fun e e' => R.uniq (ob' e) (ob' e'), fun m => ⟨(R.ex m).1, (R.ex m).2.1, fun ⟨i, c, e⟩ => (R.ex m).2.2.1 ⟨i, c, ob' e⟩, (R.ex m).2.2.2⟩, R.sub, R.nt⟩
  · have e := un_of e fun z => Lc.noConfusion z
    rw [left e]
    exact R.sh e
  · have e := ob' e
    rw [left e]
    exact R.ob e
  · have e := un_of e fun z => Lc.noConfusion z
    rw [left e]
    exact R.exc e
  · have e := un_of e fun z => Lc.noConfusion z
    rw [left e]
    exact R.ask e
theorem outA_same : ∀ (as : List Lc) (ρ : Sto), (∀ (k : Nat) (a : Addr) (c : Oc), as[k]? = some (.ob a c) → ∃ c', ρ[k]? = some (.ob a c')) → Same as (outA as ρ) ∧ ∀ (k : Nat) (a : Addr) (c : Oc), (outA as ρ)[k]? = some (.ob a c) → ρ[k]? = some (.ob a c)
  | [], _, _ => ⟨.nil, fun k a c e => by unfold outA at e; simp at e⟩
  | lc :: as, ρ, h => by
    have tl : ∀ (k : Nat), ρ.tail[k]? = ρ[k + 1]? := fun k => by cases ρ <;> simp
    obtain ⟨h1, h2⟩ := outA_same as ρ.tail fun k a c e => by
      rw [tl]
      exact h (k + 1) a c (by simpa using e)
    have fin : ∀ {lc' : Lc}, (∀ a c, lc' = .ob a c → ρ[0]? = some (.ob a c)) → ∀ (k : Nat) (a : Addr) (c : Oc), (lc' :: outA as ρ.tail)[k]? = some (.ob a c) → ρ[k]? = some (.ob a c) := fun {lc'} z k a c e => by
      cases k with
      | zero => exact z a c (Option.some.inj (show some lc' = some (Lc.ob a c) from e))
      | succ k => rw [← tl]; exact h2 k a c (by simpa using e)
    cases lc with
    | un => exact ⟨.un h1, fin fun a c z => nomatch z⟩
    | sh D => exact ⟨.sh h1, fin fun a c z => nomatch z⟩
    | exc a C d D => exact ⟨.exc h1, fin fun a c z => nomatch z⟩
    | ask O => exact ⟨.ask h1, fin fun a c z => nomatch z⟩
    | ob a c =>
      obtain ⟨c', e⟩ := h 0 a c rfl
      have e2 : ρ.head? = some (.ob a c') := by rw [List.head?_eq_getElem?]; exact e
      have e3 : outA (.ob a c :: as) ρ = .ob a c' :: outA as ρ.tail := by
        conv => lhs; unfold outA
        rw [e2]
      rw [e3]
      exact ⟨.ob h1, fin fun b d z => by cases z; exact e⟩
/-- at a def's end: what it leaves to its caller -/
theorem Rep.out {N : List Str} {n : Nat} {G0 : Hp} {σ0 : L2.St} {H0 : Hp} (t : Tg G0 K.T) (R0 : Rep K [] G0 as (vs.map some) H0) (hn : as.length ≤ n) (m : Nat) (s : Ex K.T G0 G) (al : Alike n (start0 m as) ρ) (R : Rep K [] G ρ σ H) :
    Same as (outA as ρ) ∧ Rep K [] G (outA as ρ) (vs.map some) H ∧ ∀ (k : Nat) (a : Addr) (c : Oc), (outA as ρ)[k]? = some (.ob a c) → k < n ∧ ρ[k]? = some (.ob a c) := by
  have al' : ∀ (k : Nat) (a : Addr) (c : Oc), as[k]? = some (.ob a c) → ∃ c', ρ[k]? = some (.ob a c') := fun k a c e => al k a c (by have := (List.getElem?_eq_some_iff.mp e).1; omega) (by unfold start0; rw [List.getElem?_append_left (List.getElem?_eq_some_iff.mp e).1]; exact e)
  obtain ⟨sm, inv⟩ := outA_same as ρ al'
  refine ⟨sm, ⟨R0.len.trans sm.len, fun {k D} e => ?_, fun {k a c} e => ?_, fun {k a C d D} e => ?_, fun {k O} e => ?_, fun {j k a c c'} e e' => R.uniq (inv _ _ _ e) (inv _ _ _ e'), fun m => absurd m List.not_mem_nil, R.sub, R.nt⟩, fun k a c e => ⟨?_, inv k a c e⟩⟩
  · obtain ⟨v, h1, h2⟩ := R0.sh (sm.shw e)
    exact ⟨v, h1, Dw.mono s h2⟩
  · obtain ⟨c0, e0⟩ := sm.bwd e
    exact ⟨(R0.ob e0).1, (R.ob (inv _ _ _ e)).2⟩
  · obtain ⟨h1, v, h2, h3⟩ := R0.exc (sm.exw e)
    exact ⟨h1, v, s.1 _ _ h2 (fun _ z => nomatch z), h3.mono s⟩
  · obtain ⟨f, h1, h2⟩ := R0.ask (sm.asw e)
    exact ⟨f, h1, h2.mono s⟩
  · have := (List.getElem?_eq_some_iff.mp e).1
    rw [← sm.len] at this
    omega
end
section
variable {Pg : Program} {w : World} {K : Zw} {mg : Str → Option Value} {base : Heap} {x : Str} {st : Stmt} {f : Addr} {fd : FuncData} {N ps : List Str} {k : Nat} {T : TD}
/-- what a body has to come to -/
abbrev endsOf (as : List Lc) (Q0 : PyData → List Lc → Prop) : EndsD := { nx := fun ρ => Q0 .none (outA as ρ), rt := fun D ρ => Q0 D (outA as ρ) }
theorem body_read {t : DTS} {as : List Lc} {Q0 : PyData → List Lc → Prop} {G H : Hp} {vs : List V} {Q : VK} (tb : Tg G K.T) (R : Rep K [] G as (vs.map some) H) (l : vs.length = ps.length) (hq : t (endsOf as Q0) (start0 (N.length - ps.length) as))
    (hQ : ∀ D as' v G' H', Q0 D as' → Same as as' → Ex K.T G G' → Rep K [] G' as' (vs.map some) H' → Dw K G' v D → Q v H') : rdS K G ps.length t { nx := fun _ H' => Q .non H', rt := Q } (L2.start N vs) H := by
  have la : as.length = ps.length := by rw [← l, ← R.len, List.length_map]
  have fin : ∀ (Dv : PyData) (ρ' : Sto) (v : V) (σ' : L2.St) (G' H' : Hp), Q0 Dv (outA as ρ') → Ex K.T G G' → Alike ps.length (start0 (N.length - ps.length) as) ρ' → Rep K [] G' ρ' σ' H' → Dw K G' v Dv → Q v H' := fun Dv ρ' v σ' G' H' q s al R' d => by
    obtain ⟨sm, R2, _⟩ := Rep.out (N := N) (σ0 := σ') tb R (by omega) (N.length - ps.length) s al R'
    exact hQ Dv _ v G' H' q sm s R2 d
  refine ⟨start0 (N.length - ps.length) as, G, endsOf as Q0, Ex.refl tb, ?_, hq, fun ρ' σ' G' H' q s al R' => fin .none ρ' .non σ' G' H' q s al R' .non, fun _ _ _ _ z => z.elim, fun _ _ _ _ z => z.elim, fun Dv ρ' v σ' G' H' q s al R' d => fin Dv ρ' v σ' G' H' q s al R' d, fun _ _ _ _ _ _ _ z => z.elim⟩
  unfold start0 L2.start
  rw [l]
  exact R.more _
/-- a def's promise, where what is answered is the caller's own -/
abbrev TDO := List Lc → (Oc → List Lc → Prop) → EK → Prop
def spO (K : Zw) (T : TDO) : Sp := fun vs H Q E => ∃ G as Q0 er, Tg G K.T ∧ Rep K [] G as (vs.map some) H ∧ T as Q0 er ∧
  (∀ c as' a o G' H', Q0 c as' → Same as as' → Ex K.T G G' → Rep K [] G' as' (vs.map some) H' → H' a = some o → G' a = none → ¬ Owns as' a → OcOk K G' a c o → Q (.ref a) H') ∧ ErrL K G E er
/-- where the slots' cells stand -/
def caOf (X : Cx) (j : Nat) : Addr := ((X.N[j]?).bind fun y => X.env.cells.lookup y).getD 0
theorem spT_len {Z : Zw} (len : ∀ as Q er, T as Q er → as.length = ps.length) : ∀ vs H Q E, spT Z T vs H Q E → vs.length = ps.length := fun vs H Q E ⟨G, as, Q0, er, tb, R, hT, _⟩ => by
  have := R.len
  rw [List.length_map] at this
  exact this.trans (len _ _ _ hT)
end
section
variable {Z : Zw} {x : Str} {st : Stmt} {f : Addr} {fd : FuncData} {N ps : List Str} {k : Nat} {T : TD}
/-- a def that lets nothing out -/
theorem okD {t : (Nat → Addr) → DTS} (F : Fun Z.K x x st f fd) (S : FnScope N ps (defScope st)) (len : ∀ as Q er, T as Q er → as.length = ps.length)
    (h : ∀ (cdv : Value) (A : Around) (outer : List Env) (s : Shared) (H : Hp) (E : XK) (G0 : Hp) (ca : Nat → Addr), Room k (A.deeper (envOfC x (defScope st) s.heap.objs.size f cdv)) → (A.deeper (envOfC x (defScope st) s.heap.objs.size f cdv)).guards = some [] → ca = caOf (cxOf CX0 Z.Pg Z.w Z.K Z.mg Z.base N x (defScope st) f cdv A outer s H E).nox →
      DSs Z.T G0 ps.length (cxOf CX0 Z.Pg Z.w Z.K Z.mg Z.base N x (defScope st) f cdv A outer s H E).nox (defBody st) (t ca))
    (hq : ∀ ca as Q er, T as Q er → t ca (endsOf as Q) (start0 (N.length - ps.length) as)) : FnD Z.Pg Z.w Z.K Z.mg Z.base CX0 (k + 1) f fd ps (spT Z T) :=
  FnD.ok F S (spT_len len) fun cdv A outer s H vs Q E hr hg ⟨G, as, Q0, er, tb, R, hT, hQ, _⟩ => ⟨_, h cdv A outer s H E G _ hr hg rfl, body_read tb R (by
    have := R.len
    rw [List.length_map] at this
    exact this.trans (len _ _ _ hT)) (hq _ _ _ _ hT) hQ⟩
/-- a def that may raise -/
theorem okDX {t : (Nat → Addr) → EK → DTS} (F : Fun Z.K x x st f fd) (S : FnScope N ps (defScope st)) (len : ∀ as Q er, T as Q er → as.length = ps.length)
    (h : ∀ (cdv : Value) (A : Around) (outer : List Env) (s : Shared) (H : Hp) (E : XK) (G0 : Hp) (er : EK) (ca : Nat → Addr), ErrL Z G0 E er → Room k (A.deeper (envOfC x (defScope st) s.heap.objs.size f cdv)) → (A.deeper (envOfC x (defScope st) s.heap.objs.size f cdv)).guards = some [] → ca = caOf (cxOf (L2.CX Z.Pg Z.w) Z.Pg Z.w Z.K Z.mg Z.base N x (defScope st) f cdv A outer s H E) →
      DSs Z.T G0 ps.length (cxOf (L2.CX Z.Pg Z.w) Z.Pg Z.w Z.K Z.mg Z.base N x (defScope st) f cdv A outer s H E) (defBody st) (t ca er))
    (hq : ∀ ca as Q er, T as Q er → t ca er (endsOf as Q) (start0 (N.length - ps.length) as)) : FnD Z.Pg Z.w Z.K Z.mg Z.base (L2.CX Z.Pg Z.w) (k + 1) f fd ps (spT Z T) :=
  FnD.okX F S (spT_len len) fun cdv A outer s H vs Q E hr hg ⟨G, as, Q0, er, tb, R, hT, hQ, hE⟩ => ⟨_, h cdv A outer s H E G er _ hE hr hg rfl, body_read tb R (by
    have := R.len
    rw [List.length_map] at this
    exact this.trans (len _ _ _ hT)) (hq _ _ _ _ hT) hQ⟩
end
end Dl
set_option Elab.async false
set_option linter.all false
set_option maxRecDepth 100000
set_option maxHeartbeats 4000000
namespace Dl
open PySem PySem.Spec PyProof PyProof.Rows L2 So Da
section
variable {P : Tb} {G0 : Hp} {n : Nat} {X : Cx} {a b e : Expr} {pos p : Pos} {t u : DTE}
/-- max(a, b), min(a, b), whole numbers -/
theorem de_max2 (hc : X.calm = true) (hg : Gl X "max") (hm : X.mg "max" = none) (ha : DE P G0 n X a t) (hb : DE P G0 n X b u) (hs : starEach [a, b] X.env = (false, eval a X.env) :: starEach [b] X.env := by rfl) (hs2 : starEach [b] X.env = (false, eval b X.env) :: starEach [] X.env := by rfl) (hpl : (backTo pos (starEach [b] X.env)).any (·.1) = false := by rfl) :
    DE P G0 n X (.Call (.Name "max" p) [a, b] [] pos) (fun ρ Q => t ρ fun D ρ1 => u ρ1 fun E ρ2 => match D, E with
      | .int i, .int j => Q (.int (if j > i then j else i)) ρ2
      | _, _ => False) := pe_weak (pe_callB (call_max2 hc) hg hm (by decide +kernel) (pa_cons ha (pa_cons hb pa_nil hs2) hs) (by decide) (by decide) hs hpl) fun σ H Q ⟨F, ρ, G, Q0, s, R, h, k⟩ =>
  ⟨F, ρ, G, _, s, R, h, fun D ρ1 v G1 H1 q1 s1 al1 R1 d1 => ⟨F, ρ1, G1, _, s.trans s1, R1, q1, fun E ρ2 v2 G2 H2 q s2 al2 R2 d2 => by
    split at q
    · cases d1
      cases d2
      exact ⟨_, _, rfl, k _ _ _ _ _ q (s1.trans s2) (al1.trans al2) R2 (.int _)⟩
    · exact q.elim⟩⟩
theorem de_min2 (hc : X.calm = true) (hg : Gl X "min") (hm : X.mg "min" = none) (ha : DE P G0 n X a t) (hb : DE P G0 n X b u) (hs : starEach [a, b] X.env = (false, eval a X.env) :: starEach [b] X.env := by rfl) (hs2 : starEach [b] X.env = (false, eval b X.env) :: starEach [] X.env := by rfl) (hpl : (backTo pos (starEach [b] X.env)).any (·.1) = false := by rfl) :
    DE P G0 n X (.Call (.Name "min" p) [a, b] [] pos) (fun ρ Q => t ρ fun D ρ1 => u ρ1 fun E ρ2 => match D, E with
      | .int i, .int j => Q (.int (if j < i then j else i)) ρ2
      | _, _ => False) := pe_weak (pe_callB (call_min2 hc) hg hm (by decide +kernel) (pa_cons ha (pa_cons hb pa_nil hs2) hs) (by decide) (by decide) hs hpl) fun σ H Q ⟨F, ρ, G, Q0, s, R, h, k⟩ =>
  ⟨F, ρ, G, _, s, R, h, fun D ρ1 v G1 H1 q1 s1 al1 R1 d1 => ⟨F, ρ1, G1, _, s.trans s1, R1, q1, fun E ρ2 v2 G2 H2 q s2 al2 R2 d2 => by
    split at q
    · cases d1
      cases d2
      exact ⟨_, _, rfl, k _ _ _ _ _ q (s1.trans s2) (al1.trans al2) R2 (.int _)⟩
    · exact q.elim⟩⟩
/-- a + b, lists: a fresh one -/
theorem df_cat {ta tb : DTR} (ha : DR P G0 n X a ta) (hb : DR P G0 n X b tb) : DF P G0 n X (.BinOp a .Add b pos) (fun ρ Q => ta ρ fun r ρ1 => tb ρ1 fun q ρ2 => derefW ρ2 r fun x => derefW ρ2 q fun y => match x, y with
    | .list i, .list j => i.length + j.length ≤ sizeLine ∧ Q (i ++ j) ρ2
    | _, _ => False) := pe_weak (pe_op op_catL ha hb) fun σ H Q ⟨F, ρ, G, Q0, s, R, h, k⟩ =>
  ⟨F, ρ, G, _, s, R, h, fun r1 ρ1 v1 G1 H1 h1 s1 a1 R1 d1 => ⟨F, ρ1, G1, _, s.trans s1, R1, h1, fun r2 ρ2 v2 G2 H2 h2 s2 a2 R2 d2 => by
    unfold derefW at h2
    split at h2
    · rename_i D1 e1
      split at h2
      · rename_i D2 e2
        split at h2
        · obtain ⟨x, xs, rfl, hx, dx⟩ := (dq_of R2 (d1.mono s2) e1).list R2
          obtain ⟨y, ys, rfl, hy, dy⟩ := (dq_of R2 d2 e2).list R2
          exact ⟨x, y, xs, ys, rfl, rfl, hx, hy, by rw [dpa_len dx, dpa_len dy]; exact h2.1, fun q hq => k _ ρ2 _ G2 _ q h2.2 (s1.trans s2) (a1.trans a2) (R2.push hq) (fun o m => by rw [(R2.ex m).1] at hq; cases hq) (dpa_app dx dy)⟩
        · exact h2.elim
      · exact h2.elim
    · exact h2.elim⟩⟩
end
/-- a comprehension without a test: what each item may become -/
theorem lcW_rel {ρw : Sto} {vs : List Nat} {g : DTG} {te : DTE} {Q : List PyData → Prop} {ds : List PyData} (p : PyData → PyData → Prop) (hl : ds.length ≤ 1000000)
    (h : ∀ d ∈ ds, ∀ (R : PyData → Prop), (∀ y, p d y → R y) → g d ρw fun ρ2 => te ρ2 fun y ρ3 => (noObs ρ3 vs ∧ wipeD ρ3 vs = ρw) ∧ R y)
    (hq : ∀ acc, Paired p ds acc → Q acc) : lcW ρw vs g (fun ρ Q => Q true ρ) te ds [] Q := by
  have key : ∀ (rest acc : List PyData), (∀ d ∈ rest, d ∈ ds) → acc.length + rest.length ≤ 1000000 → (∀ acc', Paired p rest acc' → Q (acc ++ acc')) → lcW ρw vs g (fun ρ Q => Q true ρ) te rest acc Q := by
    intro rest
    induction rest with
    | nil => intro acc _ _ q; have := q [] .nil; rw [List.append_nil] at this; exact this
    | cons d rest ih =>
      intro acc m l q
      have l' : acc.length + rest.length + 1 ≤ 1000000 := by simpa [Nat.add_assoc] using l
      unfold lcW
      refine h d (m d List.mem_cons_self) (fun y => acc.length < sizeLine ∧ lcW ρw vs g (fun ρ Q => Q true ρ) te rest (acc ++ [y]) Q) fun y hy => ⟨Nat.lt_of_lt_of_le (show acc.length < 1000001 by omega) (by decide), ih _ (fun d hd => m d (List.mem_cons_of_mem _ hd)) (by rw [List.length_append, List.length_singleton]; omega) fun acc' ha => ?_⟩
      rw [List.append_assoc]
      exact q (y :: acc') (.cons hy ha)
  exact key ds [] (fun _ h => h) (by rw [List.length_nil]; omega) fun acc' ha => hq acc' ha
theorem paired_map {f : PyData → PyData} : ∀ {ds acc : List PyData}, Paired (fun d y => y = f d) ds acc → acc = ds.map f
  | _, _, .nil => rfl
  | _, _, .cons h t => by rw [h, paired_map t]; rfl
/-- .. where it is told -/
theorem lcW_map {ρw : Sto} {vs : List Nat} {g : DTG} {te : DTE} {Q : List PyData → Prop} {ds : List PyData} (f : PyData → PyData) (hl : ds.length ≤ 1000000)
    (h : ∀ d ∈ ds, ∀ (R : PyData → Prop), R (f d) → g d ρw fun ρ2 => te ρ2 fun y ρ3 => (noObs ρ3 vs ∧ wipeD ρ3 vs = ρw) ∧ R y) (hq : Q (ds.map f)) : lcW ρw vs g (fun ρ Q => Q true ρ) te ds [] Q :=
  lcW_rel (fun d y => y = f d) hl (fun d hd R hR => h d hd R (hR _ rfl)) fun acc ha => by rw [paired_map ha]; exact hq
theorem at_0 {α : Type} {a : α} {l : List α} : atI (a :: l) 0 = some a := atI_nat (j := 0) rfl
theorem at_1 {α : Type} {a b : α} {l : List α} : atI (a :: b :: l) 1 = some b := atI_nat (j := 1) rfl
theorem at_2 {α : Type} {a b c : α} {l : List α} : atI (a :: b :: c :: l) 2 = some c := atI_nat (j := 2) rfl
theorem at_3 {α : Type} {a b c d : α} {l : List α} : atI (a :: b :: c :: d :: l) 3 = some d := atI_nat (j := 3) rfl
theorem at_4 {α : Type} {a b c d e : α} {l : List α} : atI (a :: b :: c :: d :: e :: l) 4 = some e := atI_nat (j := 4) rfl
theorem ix_0 {a : PyData} {l : List PyData} {Q : PyData → Prop} : ixD (.tuple (a :: l)) (.int 0) Q = Q a := by
  unfold ixD
  simp only [at_0]
theorem ix_1 {a b : PyData} {l : List PyData} {Q : PyData → Prop} : ixD (.tuple (a :: b :: l)) (.int 1) Q = Q b := by
  unfold ixD
  simp only [at_1]
theorem ix_2 {a b c : PyData} {l : List PyData} {Q : PyData → Prop} : ixD (.tuple (a :: b :: c :: l)) (.int 2) Q = Q c := by
  unfold ixD
  simp only [at_2]
theorem ix_3 {a b c d : PyData} {l : List PyData} {Q : PyData → Prop} : ixD (.tuple (a :: b :: c :: d :: l)) (.int 3) Q = Q d := by
  unfold ixD
  simp only [at_3]
theorem ix_4 {a b c d e : PyData} {l : List PyData} {Q : PyData → Prop} : ixD (.tuple (a :: b :: c :: d :: e :: l)) (.int 4) Q = Q e := by
  unfold ixD
  simp only [at_4]
def T1 (f : PyData → (PyData → Prop) → EK → Prop) : TD := fun as Q er => match as with
  | [.sh a] => f a (fun r => Q r as) er
  | _ => False
def T2 (f : PyData → PyData → (PyData → Prop) → EK → Prop) : TD := fun as Q er => match as with
  | [.sh a, .sh b] => f a b (fun r => Q r as) er
  | _ => False
def T3 (f : PyData → PyData → PyData → (PyData → Prop) → EK → Prop) : TD := fun as Q er => match as with
  | [.sh a, .sh b, .sh c] => f a b c (fun r => Q r as) er
  | _ => False
def T4 (f : PyData → PyData → PyData → PyData → (PyData → Prop) → EK → Prop) : TD := fun as Q er => match as with
  | [.sh a, .sh b, .sh c, .sh d] => f a b c d (fun r => Q r as) er
  | _ => False
theorem t1_inv {f : PyData → (PyData → Prop) → EK → Prop} {as : List Lc} {Q : PyData → List Lc → Prop} {er : EK} (h : T1 f as Q er) : ∃ a, as = [.sh a] ∧ f a (fun r => Q r [.sh a]) er := by
  unfold T1 at h
  split at h
  · exact ⟨_, rfl, h⟩
  · exact h.elim
theorem t2_inv {f : PyData → PyData → (PyData → Prop) → EK → Prop} {as : List Lc} {Q : PyData → List Lc → Prop} {er : EK} (h : T2 f as Q er) : ∃ a b, as = [.sh a, .sh b] ∧ f a b (fun r => Q r [.sh a, .sh b]) er := by
  unfold T2 at h
  split at h
  · exact ⟨_, _, rfl, h⟩
  · exact h.elim
theorem t3_inv {f : PyData → PyData → PyData → (PyData → Prop) → EK → Prop} {as : List Lc} {Q : PyData → List Lc → Prop} {er : EK} (h : T3 f as Q er) : ∃ a b c, as = [.sh a, .sh b, .sh c] ∧ f a b c (fun r => Q r [.sh a, .sh b, .sh c]) er := by
  unfold T3 at h
  split at h
  · exact ⟨_, _, _, rfl, h⟩
  · exact h.elim
end Dl
set_option Elab.async false
set_option linter.all false
set_option maxRecDepth 100000
set_option maxHeartbeats 4000000
namespace Dl
open PySem PySem.Spec PyProof.Rows L2 So Da
section
variable {P : Tb} {G0 : Hp} {n : Nat} {X : Cx} {k : Nat} {f : Addr} {fd : FuncData} {ps : List Str} {x y : Str} {p pos py : Pos} {spos : Pos} {e : Expr} {es : List Expr} {t : DTRs} {i : Nat} {T : TDO}
/-- y = f(..), what is answered is one's own -/
def ownC (T : TDO) (er : EK) (t : DTRs) (i : Nat) : DTS := fun D ρ => t ρ fun rs ρ1 => (obSlots ρ1 rs).Nodup ∧ T (argsOf ρ1 rs) (fun c as' => i < ρ1.length ∧ noOb (upS rs as' ρ1) i ∧ ∀ a, D.nx ((upS rs as' ρ1).set i (.ob a c))) er
theorem ds_ownCall (hN : X.N.Nodup) (hi : X.N[i]? = some y) (hy : Loc X.env.scope y) (Fk : FnD X.prog X.w X.K X.mg X.base CX0 k f fd ps (spO (zOf X P) T)) (hr : Room k X.A) (hgd : X.A.guards = some []) (hg : Gl X x) (hm : X.mg x = some (.ref f)) (hk : PySem.W.keepIn X.K (.ref f) = true) (hb : Binds X.K fd ps []) (ha : DRs P G0 n X (e :: es) t)
    (hdb : (x == ("__debug__" : Str)) = false := by decide) (he : starEach (e :: es) X.env = (false, eval e X.env) :: starEach es X.env := by rfl) (hpl : (backTo pos (starEach es X.env)).any (·.1) = false := by rfl)
    (hs : swapsWith (.Call (.Name x p) (e :: es) [] pos) (some (.Name y py)) spos.line X.env = pure false := by rfl) (hf : X.fn y = true ∨ X.env.scope.names.lookup y = some .local := by first | exact .inl rfl | exact .inr rfl | assumption) :
    DS P G0 n X (.Assign [.Name y py] (.Call (.Name x p) (e :: es) [] pos) spos) (ownC T (fun _ => False) t i) :=
  ps_weak (ps_set hN hi hy (pe_callM (E := fun _ _ _ _ => False) Fk .non hr hgd hg hm hk hb ha hdb he hpl) hs hf) fun D σ H ⟨ρ, G, D0, s, R, h, kk⟩ => by
    refine ⟨[], ρ, G, _, s, R, h, fun rs ρ1 vs G1 H1 ⟨nd, q⟩ s1 al1 R1 va => ?_⟩
    unfold maskK
    obtain ⟨L, Rc⟩ := R1.call va nd
    refine ⟨hidL [] ρ1 (argsOf ρ1 rs), [], L, (fun j m => nomatch m), fun co sh _ => ?_⟩
    rw [noCo_of sh]
    refine ⟨G1, argsOf ρ1 rs, _, _, s1.2, Rc, q, fun c as' a o G2 H2 ⟨l2, no, q2⟩ sm s2 R2 e1 e2 e3 e4 bk => ?_, fun _ _ _ _ _ _ z => z.elim⟩
    have R3 := R1.back s1.2 va sm s2 R2 bk.gone
    have nh : a ∉ hidL [] ρ1 (argsOf ρ1 rs) := fun m => by
      rw [bk.gone a m] at e1
      cases e1
    have ea : bak (hidL [] ρ1 (argsOf ρ1 rs)) H1 H2 a = some o := by rw [bak_out nh]; exact e1
    have no2 : ¬ Owns (upS rs as' ρ1) a := fun ⟨j, c', e⟩ => by
      have hj : j < ρ1.length := by
        have := (List.getElem?_eq_some_iff.mp e).1
        rwa [upS_len] at this
      rcases upS_get hj rs as' with ⟨m, b, d, h1, h2, h3⟩ | ⟨h1, h2⟩
      · rw [h3] at e
        cases e
        exact e3 ⟨m, _, h2⟩
      · have e5 : ρ1[j]? = some (.ob a c') := h1.symm.trans e
        refine nh (mem_hidL.mpr (.inl ⟨⟨j, c', e5⟩, fun z => ?_⟩))
        obtain ⟨m, i', c2, r1, r2⟩ := own_arg z
        have := R1.uniq r2 e5
        subst this
        have h4 : (argsOf ρ1 rs)[m]? = some (.ob a c2) := by
          rw [List.getElem?_map, r1]
          show some (ρ1[i']?.getD .un) = _
          rw [r2]
          rfl
        obtain ⟨c3, h5⟩ := sm.fwd h4
        exact e3 ⟨m, c3, h5⟩
    have R4 : Rep (zOf X P) [(a, o)] G2 (upS rs as' ρ1) σ (bak (hidL [] ρ1 (argsOf ρ1 rs)) H1 H2) := ⟨R3.len, R3.sh, R3.ob, R3.exc, R3.ask, R3.uniq, fun {b u} m => by
      have z := List.mem_singleton.mp m
      cases z
      exact ⟨ea, e2, no2, e4.lcl⟩, R3.sub, R3.nt⟩
    exact kk.nx _ _ _ _ (q2 a) (s1.trans s2) ((al1.trans (upS_alike sm)).trans (.set no)) (R4.take (fun o m => nomatch m) (by rw [upS_len]; exact l2) no e4)
end
def modD : OpT := fun x y Q => match x, y with
  | .int i, .int j => 0 < j ∧ Q (.int (i % j))
  | _, _ => False
def fdivD : OpT := fun x y Q => match x, y with
  | .int i, .int j => (0 < j ∧ j < 1073741824) ∧ Q (.int (i / j))
  | _, _ => False
def powD : OpT := fun x y Q => match x, y with
  | .int i, .int j => CPow i j ∧ Q (.int (i ^ j.toNat))
  | _, _ => False
def intD : PyData → (PyData → Prop) → Prop := fun x Q => match x with
  | .int i => Q (.int i)
  | .bool b => Q (.int (if b = true then 1 else 0))
  | _ => False
section
variable {P : Tb} {G0 : Hp} {n : Nat} {X : Cx}
end
section
variable {P : Tb} {G0 : Hp} {n : Nat} {X : Cx} {o e : Expr} {es : List Expr} {tx ty : DTE} {apos cpos : Pos} {name : Str} {id : String} {r : V → List V → Hp → VK → Prop} {to : TE} {t : TA}
end
section
variable {G0 : Hp} {n : Nat} {X : Cx} {st : Stmt} {ta tb : DTF}
end
end Dl
set_option Elab.async false
set_option linter.all false
set_option maxRecDepth 100000
set_option maxHeartbeats 4000000
namespace Dl
open PySem PySem.Spec PyProof.Rows L2 So Da
/-- what lies in the heap besides, and nobody speaks of -/
theorem Rep.junk {K : Zw} {F : List (Addr × HO)} {G H : Hp} {ρ : Sto} {σ : L2.St} {p : Addr} {o : HO} (R : Rep K F G ρ σ H) (h : H p = none) : Rep K F G ρ σ (upd H p o) :=
  ⟨R.len, R.sh, fun {i a c} e => by
    obtain ⟨h1, h2, u, h3, h4⟩ := R.ob e
    exact ⟨h1, h2, u, by rw [upd_ne (ne_of_none h3 h)]; exact h3, h4⟩, R.exc, R.ask, R.uniq, fun {a u} m => by
    obtain ⟨h1, h2⟩ := R.ex m
    exact ⟨by rw [upd_ne (ne_of_none h1 h)]; exact h1, h2⟩, fun b u e => by
    rw [upd_ne (ne_of_none (R.sub b u e) h)]
    exact R.sub b u e, R.nt⟩
section
variable {G0 : Hp} {n : Nat} {X : Cx} {st : Stmt} {ta tc : DTE} {tb : DTF}
end
end Dl
set_option Elab.async false
set_option linter.all false
set_option maxRecDepth 100000
set_option maxHeartbeats 4000000
namespace Dl
open PySem PySem.Spec PyProof PyProof.Rows L2 So Da
def repD : PyData → Str
  | .none => "None"
  | .bool b => if b then "True" else "False"
  | .int i => toString i
  | .str z => reprText z
  | d => d.shown
/-- it can be shown -/
def repOk : PyData → Prop
  | .none => True
  | .bool _ => True
  | .int i => i.natAbs.log2 < 1920
  | .str z => (reprText z).length ≤ sizeLine
  | d => d.showable = true ∧ d.hasDict = false ∧ d.depth ≤ 60 ∧ d.shown.length ≤ sizeLine
def rReprA (K : PySem.W.Frag) : List V → Hp → VK → Prop := fun xs H Q => ∃ (v : V) (D : PyData), xs = [v] ∧ Dp K H v D ∧ repOk D ∧ Q (.str (repD D)) H
theorem call_reprA {X : Cx} (hg : X.A.guards = some []) (hu : X.A.units + 64 < cLine) : CallR X (.builtin "repr") (rReprA X.K) := by
  intro pins s σ H xs us Q I r h
  obtain ⟨v, D, rfl, hD, ok, q⟩ := h
  match us, r with
  | [u], .cons ru .nil =>
    have big : ∀ {a : Addr}, v = .ref a → D.showable = true ∧ D.hasDict = false ∧ D.depth ≤ 60 ∧ D.shown.length ≤ sizeLine → repD D = D.shown → wpAny (model X.prog X.w) X.A (call (.builtin "repr") [u]) (EP X pins σ Q) X.xe s := by
      rintro a rfl ⟨h1, h2, h3, h4⟩ e
      obtain rfl : u = Value.ref a := ru
      obtain ⟨as, rd⟩ := Dp.reads I D (.ref a) (.ref a) hD rfl
      rw [e] at q
      exact repr_of_reads' rd h1 (PyData.noDict_hsm h2) hg (by omega) (fun _ _ e => e) (fun h' u tk hk => ⟨.str D.shown, H, I.kept hk, ⟨u, rfl⟩, q⟩) h4
    cases hD with
    | lst a b => exact big rfl ok rfl
    | tup a b => exact big rfl ok rfl
    | non =>
      obtain rfl : u = Value.none := ru
      exact PySem.P.repr_of_none ⟨.str "None", H, I.tok _, ⟨_, rfl⟩, q⟩
    | bl b =>
      obtain rfl : u = Value.bool b := ru
      exact PySem.P.repr_of_bool ⟨.str (if b then "True" else "False"), H, I.tok _, ⟨_, rfl⟩, q⟩
    | int i =>
      obtain ⟨t, rfl⟩ := (show ∃ t, u = Value.int i t from ru)
      exact PySem.P.repr_of_int ok ⟨.str (toString i), H, I.tok _, ⟨_, rfl⟩, q⟩
    | str z =>
      obtain ⟨t, rfl⟩ := (show ∃ t, u = Value.str z t from ru)
      exact PySem.P.repr_of_str ⟨.str (reprText z), H, I.tok _, ⟨_, rfl⟩, q⟩ ok
def reprD (D : PyData) (Q : PyData → Prop) : Prop := repOk D ∧ Q (.str (repD D))
mutual
theorem plain_no : ∀ {D : PyData}, D.hasDict = false → plain D = true
  | .none, _ => rfl
  | .bool _, _ => rfl
  | .int _, _ => rfl
  | .str _, _ => rfl
  | .list ds, h => by
    simp only [PyData.hasDict] at h
    unfold plain
    exact plains_no h
  | .tuple ds, h => by
    simp only [PyData.hasDict] at h
    unfold plain
    exact plains_no h
  | .dict _, h => by simp [PyData.hasDict] at h
theorem plains_no : ∀ {Ds : List PyData}, PyData.hasDictAll Ds = false → plains Ds = true
  | [], _ => rfl
  | d :: ds, h => by
    unfold PyData.hasDictAll at h
    rw [Bool.or_eq_false_iff] at h
    unfold plains
    rw [plain_no h.1, plains_no h.2]
    rfl
end
theorem plain_rep {D : PyData} (h : repOk D) : plain D = true := by
  cases D with
  | none => rfl
  | bool _ => rfl
  | int _ => rfl
  | str _ => rfl
  | list ds =>
    obtain ⟨_, h2, _⟩ := h
    exact plain_no h2
  | tuple ds =>
    obtain ⟨_, h2, _⟩ := h
    exact plain_no h2
  | dict kvs =>
    obtain ⟨_, h2, _⟩ := h
    exact nomatch h2
theorem cd_repr {P : Tb} {n : Nat} {X : Cx} : CaD P n X (rReprA X.K) reprD := fun x dx F G ρ σ H Q0 Q t R h f k => ⟨x, dx, rfl, Dw.dp (plain_rep f.1) (h.dp R), f.1, k.here t R (.str _) f.2⟩
end Dl
set_option Elab.async false
set_option linter.all false
set_option maxRecDepth 100000
set_option maxHeartbeats 4000000
namespace SoC
open PySem PySem.Spec PyProof.Rows L2 LamX NdefX So
/-- the words of a lambda of the running def, its code at c -/
abbrev lamF (X : Cx) (params : Arguments) (scope : Scope) (c : Addr) : NF := ⟨"<lambda>", X.env.qual ++ "<lambda>", params, [], scope, cloFrom X.env.cells scope.names [], c⟩
section
variable {X : Cx} {pins : List (Addr × Obj)} {σ : L2.St} {H : Hp} {s : Shared}
theorem lay_lam {F : NF} {body : Expr} {pm ctv : Value} {h' : Heap} {t1 t2 : Nat} (I : Inv X pins σ H { s with heap := h', toks := t1 }) :
    Inv X pins σ (upd H h'.objs.size (LmO h'.objs.size F body)) { s with heap := h'.push (PySem.W.kla_obj "<lambda>" F.qual F.params body F.scope F.cl pm F.c ctv), toks := t2 } := by
  have q := Heap.get?_push_size h' (o := PySem.W.kla_obj "<lambda>" F.qual F.params body F.scope F.cl pm F.c ctv) rfl
  exact I.laid (a := h'.objs.size) (t' := t2) (fun b u e => Heap.get?_push_of_some _ e) (Nat.le_refl _) ⟨⟨pm, ctv, q⟩, ⟨_, q⟩, fun g1 g2 ⟨pm, ctv, z⟩ st => ⟨pm, ctv, st _ z⟩⟩
end
section
variable {X : Cx}
end
theorem cell_one {h : Heap} {c : Addr} {v u : Option Value} (a : h.IsCell c v) (b : h.IsCell c u) : v = u := by
  obtain ⟨o, e1, e2⟩ := a
  obtain ⟨o', e3, e4⟩ := b
  rw [e1] at e3
  cases e3
  rw [e2] at e4
  cases e4
  rfl
section
variable {X : Cx} {pins : List (Addr × Obj)} {σ : L2.St} {H : Hp} {s : Shared} {cl : List (Str × Addr)} {fr : List Str} {js : List Nat}
end
end SoC
set_option Elab.async false
set_option linter.all false
set_option maxRecDepth 100000
set_option maxHeartbeats 4000000
namespace SoC
open PySem PySem.Spec PyProof.Rows L2 LamX NdefX So
structure FnS (Pg : Program) (w : World) (K : PySem.W.Frag) (mg : Str → Option Value) (base : Heap) (CX : CXT) (k : Nat) (f : Addr) (fd : FuncData) (ps : List Str) (sp : Shared → Sp) : Prop where
  len : ∀ s vs H Q E, sp s vs H Q E → vs.length = ps.length
  run : ∀ (A : Around) (outer : List Env) (s : Shared) (H : Hp) (args : Args) (us : List Value) (vs : List V) (Q : VK) (E : XK), Room k A → A.guards = some [] → Env0 Pg w K mg base A outer s H → BindsTo s fd args (ps.zip us) → Vals vs us → sp s vs H Q E →
    codeAny (model Pg w) A (.call (.ref f) args) (CR CX outer Pg w H s Q E) s
section
variable {Pg : Program} {w : World} {K : PySem.W.Frag} {mg : Str → Option Value} {base : Heap} {CX : CXT}
theorem FnS.of {k : Nat} {f : Addr} {fd : FuncData} {ps : List Str} {sp : Sp} (F : FnOk Pg w K mg base CX k f fd ps sp) : FnS Pg w K mg base CX k f fd ps (fun _ => sp) :=
  ⟨fun _ vs H Q E h => F.len vs H Q E h, fun A outer s H args us vs Q E hr _ e0 hb r h => F.run A outer s H args us vs Q E hr e0 hb r h⟩
theorem FnS.imp {k : Nat} {f : Addr} {fd : FuncData} {ps : List Str} {sp sp' : Shared → Sp} (F : FnS Pg w K mg base CX k f fd ps sp) (h : ∀ s vs H Q E, sp' s vs H Q E → sp s vs H Q E) : FnS Pg w K mg base CX k f fd ps sp' :=
  ⟨fun s vs H Q E q => F.len s vs H Q E (h s vs H Q E q), fun A outer s H args us vs Q E hr hg e0 hb r q => F.run A outer s H args us vs Q E hr hg e0 hb r (h s vs H Q E q)⟩
/-- .. whose code object is known -/
theorem okC {x : Str} {st : Stmt} {f c : Addr} {fd : FuncData} {N ps : List Str} {k : Nat} {sp : Shared → Sp} (F : DfC K mg x st ps f fd c) (S : FnScope N ps (defScope st)) (len : ∀ s vs H Q E, sp s vs H Q E → vs.length = ps.length)
    (body : ∀ (A : Around) (outer : List Env) (s : Shared) (H : Hp) (vs : List V) (Q : VK) (E : XK), Room k (A.deeper (envOfC x (defScope st) s.heap.objs.size f (.ref c))) → (A.deeper (envOfC x (defScope st) s.heap.objs.size f (.ref c))).guards = some [] → sp s vs H Q E →
      ∃ t, PSs (cxOf CX Pg w K mg base N x (defScope st) f (.ref c) A outer s H E) (defBody st) t ∧ t { nx := fun _ H' => Q .non H', rt := Q } (start N vs) H) : FnS Pg w K mg base CX (k + 1) f fd ps sp := by
  obtain ⟨oc, od, kV, doc, pm, an, ct, osl, rfl, lk, hcd⟩ := F.ex
  exact ⟨len, fun A outer s H args us vs Q E hr hg e0 hb r hsp => run_ofS lk hcd S hr e0 hb r (len _ _ _ _ _ hsp) fun hr' => body A outer s H vs Q E hr' hg hsp⟩
end
section
variable {X : Cx} {CX : CXT} {k j : Nat} {f : Addr} {fd : FuncData} {ps : List Str} {sp : Shared → Sp} {E : XK} {x : Str} {p pos : Pos} {e : Expr} {es : List Expr} {t : TA} {pre : L2.St → List V → Hp → VK → Prop}
end
end SoC
set_option Elab.async false
set_option linter.all false
set_option maxRecDepth 100000
set_option maxHeartbeats 4000000
namespace SoC
open PySem PySem.Spec PyProof.Rows L2 LamX NdefX So
structure IsC (K : PySem.W.Frag) (D : Addr) : Prop where
  cl : (PySem.W.clsIn K D).isSome = true
  ga : PySem.W.findIn K (.ref D) "__getattribute__" = some (some (.builtin "BaseException.__getattribute__"))
  gg : PySem.W.findIn K (.ref D) "__getattr__" = some none
  be : PySem.W.subIn K (.ref D) (.type "BaseException") = some true
  ca : PySem.W.findIn K (.ref D) "__class__" = some (some (.builtin "object.__class__"))
  cg : PySem.W.specialIn K (.builtin "object.__class__") "__get__" = some (some (.builtin "getset_descriptor.__get__"))
  ct : PySem.W.takesIn K (.builtin "object.__class__") = some true
  mo : PySem.W.mroIn K D (.type "object") = some true
def rIsD (K : PySem.W.Frag) (a : Addr) (cls : Value) (d : Option Addr) : List V → Hp → VK → Prop := fun xs H Q => ∃ (D O dd : Addr) (fs : List (Str × V)) (b : Bool), xs = [.ref a, .ref O] ∧ cls = .ref D ∧ d = some dd ∧ IsC K D ∧ H dd = some (.xd fs) ∧ PySem.W.kitOne K (.ref D) (.ref O) = some b ∧ Q (.bl b) H
theorem call_isD {X : Cx} {a : Addr} {oe : Obj} {cls : Value} {d : Option Addr} {pn : List (Addr × Obj)} (hz : Zc cls d oe) (hf : ∃ vs, oe.data = .fields vs) : CallR (X.suite a ((a, oe) :: pn)) (.builtin "isinstance") (rIsD X.K a cls d) := by
  intro pins s σ H xs us Q I r h
  obtain ⟨D, O, dd, fs, b, rfl, rfl, rfl, C, hx, e, q⟩ := h
  match us, r with
  | [u1, u2], .cons r1 (.cons r2 .nil) =>
    obtain rfl : u1 = Value.ref a := r1
    obtain rfl : u2 = Value.ref O := r2
    have get := (I.pin (a, oe) (List.mem_append_left _ List.mem_cons_self)).1
    obtain ⟨mA, ns, _⟩ := (show ∃ mA, s.heap.Ns1 dd mA ∧ ∀ f, RelO (fs.lookup f) (mA f) from I.hok dd _ hx)
    obtain ⟨od, ho, _⟩ := lookIn_ns ns
    obtain ⟨vs, hv⟩ := hf
    have J : PySem.W.InstAt s.heap a oe D (some od) := by
      refine ⟨get, hz.1, ?_, ?_⟩
      · unfold PySem.W.notCls
        rw [hv] <;> rfl
      · rw [hz.2]
        exact ho
    exact PySem.W.kia_one (PySem.W.kitx_exc C.cl C.ga C.gg C.be C.ca C.cg C.ct C.mo) I.kIn J e (fun z => nomatch z) fun tk => ⟨.bl b, H, I.tok tk, rfl, q⟩
/-- a clause: its class, its name's slot, its suite's reading -/
abbrev Cls := Value × Nat × (Addr → Value → Option Addr → TS)
/-- all ends of a suite forget the name -/
def offN (i : Nat) (D : Ends) : Ends := { nx := fun σ H => D.nx (σ.set i none) H, rt := D.rt, bk := fun σ H => D.bk (σ.set i none) H, ct := fun σ H => D.ct (σ.set i none) H }
def wEach (K : PySem.W.Frag) (out : WX) (D : Ends) : List Cls → WX
  | [] => out
  | (c, i, ts) :: r => fun cls d σ H => ∃ b, PySem.W.exmOne K cls c = some b ∧ (b = true → ∀ a, H a = none → ts a cls d (offN i D) (σ.set i (some (.ref a))) H) ∧ (b = false → wEach K out D r cls d σ H)
inductive Clauses (X : Cx) : List ExceptHandler → List Cls → Prop
  | none : Clauses X [] []
  | more {x n : Str} {c : Value} {i : Nat} {ts : Addr → Value → Option Addr → TS} {st : Stmt} {sts : List Stmt} {np p : Pos} {hs : List ExceptHandler} {cs : List Cls} (hx : Names X x c) (hi : X.N[i]? = some n) (hl : X.env.kindOf n = some .local)
      (suite : ∀ (a : Addr) (oe : Obj) (cls : Value) (d : Option Addr) (pn : List (Addr × Obj)), Zc cls d oe → (∃ vs, oe.data = .fields vs) → PSs (X.suite a ((a, oe) :: pn)) (st :: sts) (ts a cls d)) (rest : Clauses X hs cs) :
      Clauses X (.ExceptHandler (some (.Name x np)) (some n) (st :: sts) p :: hs) ((c, i, ts) :: cs)
section
variable {X : Cx} {body : List Stmt} {h0 : ExceptHandler} {hds : List ExceptHandler} {cs : List Cls} {pos : Pos} {tb : WX → TS} {out : WX}
theorem ps_tryEach (hs : X.stack = X.env :: X.outer) (hf : X.env.frame = some X.env.locals) (hN : X.N.Nodup) (tk : Takes X out)
    (hb : ∀ (W : WX) (pn : List (Addr × Obj)) (xe : Value → Shared → Prop), Takes (X.tr pn xe) W → PassesOwn (model X.prog X.w) X.A X.env xe → PSs (X.tr pn xe) body (tb W)) (hh : Clauses X (h0 :: hds) cs) :
    PS X (.Try body (h0 :: hds) [] [] pos) (fun D σ H => tb (wEach X.K out D cs) D σ H) := by
  constructor
  intro pins s σ H D I h
  have okX := I.ok
  have fr : X.A.frames = some (X.env :: X.outer) := okX.frames.trans (congrArg some hs)
  -- what is done with an error: the clauses, from the first on
  let wish : Value → Shared → Prop := fun e s1 => wpAny (model X.prog X.w) X.A (noteFrame e X.env) (fun _ s2 => wpAny (model X.prog X.w) X.A (setFlight e none) (fun _ s3 => wpAny (model X.prog X.w) X.A (handleBy e X.env (h0 :: hds)) (SP X pins D) X.xe s3) X.xe s2) X.xe s1
  have caught : Takes (X.tr (X.pn ++ pins) wish) (wEach X.K out D cs) := by
    rintro u s' ⟨a, B, sI, pins', σ1, H1, cls, d, rfl, J1, nb, up, sky, na, os, ag, w⟩
    have J := J1.ofTry okX
    refine Sky.land Zc.steady fr hf (hs ▸ sky) fun g3 fl3 up3 => ?_
    have J3 : Inv X pins σ1 H1 { s' with heap := g3 } := J.landed nb fl3.1 (up.trans up3) os ag
    obtain ⟨o3, ws, get3, z3, dat3⟩ := fl3.there
    have out1 : a ∉ frs (X.env :: X.outer) := by
      intro m
      obtain ⟨_, o, e, no⟩ := (fl3.2.2.1).mem m
      cases get3.symm.trans e
      exact no _ dat3
    have aL : a ≠ X.env.locals := by
      rintro rfl
      exact out1 (List.mem_filterMap.mpr ⟨X.env, .head _, hf⟩)
    have aF : a ∉ X.fs := by
      intro m
      obtain ⟨v, hv, q⟩ := List.mem_filterMap.mp m
      exact out1 (List.mem_filterMap.mpr ⟨v, .tail _ hv, q⟩)
    have K3 := J3.suite get3 dat3 na aL aF
    suffices go : ∀ {l : List ExceptHandler} {m : List Cls}, Clauses X l m → wEach X.K out D m cls d σ1 H1 → wpAny (model X.prog X.w) X.A (handleBy (.ref a) X.env l) (SP X pins D) X.xe { s' with heap := g3 } from go hh w
    intro l m hc
    induction hc with
    | none =>
      intro hw
      refine wpAny_handleBy_nil ?_
      have fl := fl3
      obtain ⟨_, _, _, o, vs, T, _, _, e, _, dt, at1, _⟩ := fl
      unfold PySem.passOn
      refine wpAny_bind (wpAny_field e dt at1 ?_)
      have nn : ¬ (Value.ref T == Value.none) = true := by simp
      rw [if_neg nn]
      have last : wpAny (model X.prog X.w) X.A (setFlight (.ref a) X.env.frame) (fun _ s4 => wpAny (model X.prog X.w) X.A (throw (.ref a) : Sem Flow) (SP X pins D) X.xe s4) X.xe { s' with heap := g3 } := by
        rw [hf]
        exact HandSPX.setFlight_upZ fl3 fun g4 hh4 up4 => wpAny_throw (tk _ _ ⟨a, B, sI, pins, σ1, H1, cls, d, rfl, J, nb, (up.trans up3).trans up4, .inr (.inr (hs ▸ hh4)), na, os, ag, hw⟩)
      first
        | exact wpAny_bind last
        | exact wpAny_bind (wpAny_pure (wpAny_bind last))
    | @more x n c i ts st sts np p l2 m2 hx hi hl suite rest ih =>
      rintro ⟨b, eb, yes, no⟩
      refine wpAny_handleBy_cons (codeAny_handlers_test ?_) (fun q => nomatch q)
      have isC := PySem.W.exm_one (M := model X.prog X.w) J3.kIn (show PySem.W.Looks (model X.prog X.w) g3 (typeOf (.ref a)) cls from fun A Q E s k q => wpAny_typeOf_ref (k _ _ get3) (z3.1.symm ▸ q)) eb
      have asked : ∀ {Q : Value → Shared → Prop} {E : Value → Shared → Prop}, Q c { s' with heap := g3 } → wpAny (model X.prog X.w) (X.A.mark (some (.ref a))) (eval (.Name x np) X.env) Q E { s' with heap := g3 } := by
        intro Q E q
        rcases hx with ⟨gl, db, mm | ⟨mm, bv, hnn⟩⟩
        · exact ld_glob (X := X.suite a ((a, o3) :: (X.pn ++ pins))) K3 gl mm q db
        · exact ld_blt (X := X.suite a ((a, o3) :: (X.pn ++ pins))) K3 gl mm bv q hnn db
      refine asked (isC.here ?_)
      cases b with
      | false => exact ih (no rfl)
      | true =>
        refine codeAny_handlers_suite_as (HandSPX.lands_againZ fl3 fun g4 fl4 up4 => ?_)
        have J4 : Inv X pins σ1 H1 { s' with heap := g4 } := J.landed nb fl4.1 ((up.trans up3).trans up4) os ag
        obtain ⟨o4, _, get4, z4, dat4⟩ := fl4.there
        refine store_ok (X := X.suite a ((a, o4) :: (X.pn ++ pins))) (v := .ref a) (J4.suite get4 dat4 na aL aF) hN hi (.inl hl) rfl (fun s5 S5 => ?_) (.inr hl)
        refine wpAny_mono ((suite a o4 cls d (X.pn ++ pins) z4 ⟨_, dat4⟩).run [] s5 _ H1 _ S5 (yes rfl a na)) (fun fl s6 hsp => ?_) (fun _ _ z => z.elim)
        have off : ∀ {σ6 : L2.St} {H6 : Hp} {R : Shared → Prop}, Inv (X.suite a ((a, o4) :: (X.pn ++ pins))) [] σ6 H6 s6 → (∀ s7, Inv X pins (σ6.set i none) H6 s7 → R s7) → wpAny (model X.prog X.w) X.A (do bindName X.env n .none; unbindBehindTheSuite X.env n p) (fun _ s7 => R s7) X.xe s6 :=
          fun S hR => gone_ok (S.unsuite okX) hN hi hl hR
        match fl, hsp with
        | .ret u, ⟨v, σ6, H6, S6, rv, q⟩ => exact off S6 fun s7 J7 => ⟨v, _, H6, J7, rv, q⟩
        | .next, ⟨σ6, H6, S6, q⟩ => exact off S6 fun s7 J7 => ⟨_, H6, J7, q⟩
        | .brk, ⟨σ6, H6, S6, q⟩ => exact off S6 fun s7 J7 => ⟨_, H6, J7, q⟩
        | .cont, ⟨σ6, H6, S6, q⟩ => exact off S6 fun s7 J7 => ⟨_, H6, J7, q⟩
  refine wpAny_Try_except (wpAny_mono ((hb (wEach X.K out D cs) (X.pn ++ pins) wish caught PassesOwn.looking).run [] s σ H D (I.toTry _) h) (fun fl s1 hsp => ?_) (fun _ _ he => he))
  match fl, hsp with
  | .next, ⟨σ', H', J', q⟩ => exact wpAny_execs_nil ⟨σ', H', J'.ofTry okX, q⟩
  | .brk, ⟨σ', H', J', q⟩ => exact ⟨σ', H', J'.ofTry okX, q⟩
  | .cont, ⟨σ', H', J', q⟩ => exact ⟨σ', H', J'.ofTry okX, q⟩
  | .ret u, ⟨v, σ', H', J', rv, q⟩ => exact ⟨v, σ', H', J'.ofTry okX, rv, q⟩
end
end SoC
set_option Elab.async false
set_option linter.all false
set_option maxRecDepth 100000
set_option maxHeartbeats 4000000
namespace Dl
open PySem PySem.Spec PyProof PyProof.Rows L2 So Da SoC
section
variable {K : Zw} {F : List (Addr × HO)} {G G' H H' : Hp} {ρ : Sto} {σ : L2.St}
theorem Rep.noF (R : Rep K F G ρ σ H) : Rep K [] G ρ σ H := ⟨R.len, R.sh, R.ob, R.exc, R.ask, R.uniq, fun m => absurd m List.not_mem_nil, R.sub, R.nt⟩
/-- behind a call that was given no object of one's own -/
theorem Rep.past {vs : List V} {rs : List Rv} (t : Tg G K.T) (R : Rep K F G ρ σ H) (va : RvAll K G σ vs rs) (no : obSlots ρ rs = []) (s : Ex K.T G G') (sub : Sub G' H') (nt : NT G') (gone : ∀ b ∈ hidL F ρ (argsOf ρ rs), H' b = none) :
    Rep K F G' ρ σ (bak (hidL F ρ (argsOf ρ rs)) H H') := by
  have nob : ∀ {a : Addr}, ¬ Owns (argsOf ρ rs) a := fun {a} z => by
    obtain ⟨k, i, c, h1, h2⟩ := own_arg z
    have : ∀ {rs : List Rv}, rs[k]? = some (.slot i) → obSlots ρ rs = [] → False := by
      clear h1 va no gone z
      induction k with
      | zero =>
        intro rs h n
        cases rs with
        | nil => simp at h
        | cons r rs =>
          have h : some r = some (Rv.slot i) := h
          cases h
          unfold obSlots at n
          rw [h2] at n
          cases n
      | succ k ih =>
        intro rs h n
        cases rs with
        | nil => simp at h
        | cons r rs =>
          refine ih (rs := rs) (by simpa using h) ?_
          cases r with
          | val D => exact n
          | slot j =>
            unfold obSlots at n
            split at n
            · cases n
            · exact n
    exact this h1 no
  have hidden : ∀ {i : Nat} {a : Addr} {c : Oc}, ρ[i]? = some (Lc.ob a c) → a ∈ hidL F ρ (argsOf ρ rs) := fun {i a c} e => mem_hidL.mpr (.inl ⟨⟨i, c, e⟩, nob⟩)
  have free : ∀ {b}, b ∈ hidL F ρ (argsOf ρ rs) → G' b = none := fun {b} m => by
    cases e : G' b with
    | none => rfl
    | some u =>
      have := sub b u e
      rw [gone b m] at this
      cases this
  refine ⟨R.len, fun {i D} e => ?_, fun {i a c} e => ?_, fun {i a C d D} e => ?_, fun {i O} e => ?_, R.uniq, fun {a o} m => ?_, fun b u e => ?_, nt⟩
  · obtain ⟨v, h1, h2⟩ := R.sh e
    exact ⟨v, h1, h2.mono s⟩
  · obtain ⟨h1, h2, o, h3, h4⟩ := R.ob e
    exact ⟨h1, free (hidden e), o, by rw [bak_in (hidden e)]; exact h3, h4.mono s⟩
  · obtain ⟨h1, v, h2, h3⟩ := R.exc e
    exact ⟨h1, v, s.1 _ _ h2 (fun _ z => nomatch z), h3.mono s⟩
  · obtain ⟨f, h1, h2⟩ := R.ask e
    exact ⟨f, h1, h2.mono s⟩
  · obtain ⟨h1, h2, h3, h4⟩ := R.ex m
    have mm : a ∈ hidL F ρ (argsOf ρ rs) := mem_hidL.mpr (.inr ⟨o, m⟩)
    exact ⟨by rw [bak_in mm]; exact h1, free mm, h3, h4⟩
  · rw [bak_out fun m => ?_]
    · exact sub b u e
    · rw [free m] at e
      cases e
end
abbrev DTEW := Sto → (PyData → Sto → Prop) → (Sto → EK) → Prop
/-- what is wished of errors, by the store in which they come -/
def ErrW (K : Zw) (n : Nat) (W : WX) (ρ : Sto) (G : Hp) (ex : Sto → EK) : Prop := ∀ ρ' σ' G' H' C Dv d v, ex ρ' (C, Dv) → Ex K.T G G' → Alike n ρ ρ' → Rep K [] G' ρ' σ' H' → Xd K C G' d v → Dw K G' v Dv → W (.ref C) (some d) σ' H'
def rdEW (K : Zw) (G0 : Hp) (n : Nat) (W : WX) (u : DTEW) : TE := fun σ H Q => ∃ ρ G Q0 ex, Ex K.T G0 G ∧ Rep K [] G ρ σ H ∧ u ρ Q0 ex ∧ Kn K [] n Q0 ρ G σ Q ∧ ErrW K n W ρ G ex
def DEW (P : Tb) (G0 : Hp) (n : Nat) (X : Cx) (W : WX) (e : Expr) (u : DTEW) : Prop := PE X e (rdEW (zOf X P) G0 n W u)
section
variable {P : Tb} {G0 : Hp} {n : Nat} {X : Cx} {W : WX} {e : Expr} {es : List Expr} {T : TD} {k : Nat} {f : Addr} {fd : FuncData} {ps ks : List Str} {x : Str} {p pos kpos : Pos} {t : DTRs} {kws : List Keyword} {g : List Value → List Value → List Value} {gV : List V → List V → List V}
theorem FnT.at {K : PySem.W.Frag} {Pg : Program} {w : World} {H : Hp} {h : Heap} {f : Addr} (x : FnT K H f) (hok : HOk Pg w H h) (kin : K.In h) : PySem.W.FnAt f h := by
  obtain ⟨φ, e, q⟩ | x := x
  case inr => exact x h kin
  obtain ⟨z, _, _⟩ := hok f _ e
  exact q h z
theorem FnT.sub {K : PySem.W.Frag} {G H : Hp} {f : Addr} (x : FnT K G f) (s : Sub G H) : FnT K H f := x.ext (LamX.ExtN.of s)
theorem Room.le {k j : Nat} {A : Around} (h : Room k A) (l : j ≤ k) : Room j A := h.mono l
theorem ask_run {E : L2.St → XK} {j : Nat} {W : LW} {G : Hp} {ρ : Sto} {σ : L2.St} {H : Hp} {F : List (Addr × HO)} {pins : List (Addr × Obj)} {s : Shared} {us : List Value} {vs : List V} {Ds : List PyData} {Q : VK} {R0 : Out → Prop} (hl : ∀ σ, PassesAt (L2.CX X.prog X.w) X σ (E σ)) (hr : Room j X.A) (hgd : X.A.guards = some [])
    (A : AskOk (zOf X P) G f j W) (I : Inv X pins σ H s) (R : Rep (zOf X P) F G ρ σ H) (t : Tg G P) (r : Vals vs us) (d : DwAll (zOf X P) G vs Ds) (w : W Ds R0)
    (hQ : ∀ o, R0 o → match o with
      | .told D => ∀ v G' H', Ex P G G' → Rep (zOf X P) F G' ρ σ H' → Dw (zOf X P) G' v D → Q v H'
      | .err C D => ∀ d v G' H', Ex P G G' → Rep (zOf X P) F G' ρ σ H' → Xd (zOf X P) C G' d v → Dw (zOf X P) G' v D → E σ (.ref C) (some d) H') :
    wpAny (model X.prog X.w) X.A (call (.ref f) us) (EP X pins σ Q) X.xe s := by
  obtain ⟨L, Rc⟩ := R.call (vs := []) (rs := []) trivial List.nodup_nil
  have M : Msk (frs X.stack) (hidL F ρ (argsOf ρ [])) noCo H s.heap := ⟨L, fun b ob e => nomatch e⟩
  have e0 := I.env0
  refine wpAny_call (codeAny_mono (A.run X.A X.stack s (mask (hidL F ρ (argsOf ρ [])) noCo H) G us vs Ds R0 (fun v H2 => Bck (hidL F ρ (argsOf ρ [])) noCo H2 → Q v (unmask (hidL F ρ (argsOf ρ [])) noCo H H2))
    (fun cls d H2 => Bck (hidL F ρ (argsOf ρ [])) noCo H2 → E σ cls d (unmask (hidL F ρ (argsOf ρ [])) noCo H H2)) hr hgd (mask_env M (fun b ob e => nomatch e) e0) (Ex.refl t) Rc.sub R.nt r d w fun o ho => ?_) fun z s' hq => ?_)
  · have h := hQ o ho
    cases o with
    | told D => exact fun v G2 H2 s2 sub2 nt2 d bk => h _ _ _ s2 (R.past t (vs := []) (rs := []) trivial rfl s2 sub2 nt2 bk.gone) d
    | err C D => exact fun d v G2 H2 s2 sub2 nt2 xd dv bk => h _ _ _ _ s2 (R.past t (vs := []) (rs := []) trivial rfl s2 sub2 nt2 bk.gone) xd dv
  · match z, hq with
    | .error e, hq => exact hl σ pins H s e s' I (cx_unmask M e0.hok e0.frf hq fun cls d H2 q g => q g)
    | .ok (.ret u), ⟨v, H2, os, bare, un, hok, rv, z⟩ =>
      have bk := bck_of M e0.hok un
      exact I.after ⟨v, unmask _ noCo H H2, os, bare, unmask_un M e0.hok un hok, unmask_ok M e0.hok bk hok fun c m o g => un.keep c o g (mask_in m) (fun m2 => by
        obtain ⟨o, e, _⟩ := L c m
        rw [e0.frf c m2] at e
        cases e) (fun z => nomatch z), rv, z bk⟩
/-- x(..) within a try -/
def dAsk (i j : Nat) (t : DTA) : DTEW := fun ρ Q ex => match ρ[i]? with
  | some (.ask (.fn k W)) => k ≤ j ∧ t ρ fun Ds ρ1 => ∃ R, W Ds R ∧ ∀ o, R o → match o with
    | .told D => Q D ρ1
    | .err C D => ex ρ1 (C, D)
  | _ => False
/-- .. elsewhere -/
def dAskE (i j : Nat) (t : DTA) (er : EK) : DTE := fun ρ Q => match ρ[i]? with
  | some (.ask (.fn k W)) => k ≤ j ∧ t ρ fun Ds ρ1 => ∃ R, W Ds R ∧ ∀ o, R o → match o with
    | .told D => Q D ρ1
    | .err C D => er (C, D)
  | _ => False
theorem pe_ask0 {te : TE} (i : Nat) (hN : X.N[i]? = some x) (hv : Vis X.env.scope x) (hd : (x == ("__debug__" : Str)) = false) (hcd : (x == ("__classdict__" : Str)) = false)
    (h : ∀ (pins : List (Addr × Obj)) (σ : L2.St) (H : Hp) (s : Shared) (Q : VK), Inv X pins σ H s → te σ H Q → ∃ f, σ[i]? = some (some (.ref f)) ∧ FnT X.K H f ∧ wpAny (model X.prog X.w) X.A (call (.ref f) []) (EP X pins σ Q) X.xe s) : PE X (.Call (.Name x p) [] [] pos) te := by
  refine ⟨fun pins s σ H Q I hq => ?_⟩
  obtain ⟨f, hs, _, _⟩ := h pins σ H s Q I hq
  refine wpAny_Call_Name_kw (thn ((pe_var (pos := p) hN hv hd hcd).run pins s σ H (fun v H1 => v = .ref f ∧ H1 = H) I ⟨.ref f, hs, rfl, rfl⟩) fun u s1 ⟨v, H1, I1, r1, q1⟩ => ?_)
  obtain ⟨rfl, rfl⟩ := q1
  obtain rfl : u = Value.ref f := r1
  obtain ⟨f', hs', hf, w⟩ := h pins σ H1 s1 Q I1 hq
  rw [hs] at hs'
  cases hs'
  exact PySem.W.callWith_F0 (first := []) (hf.at I1.hok I1.kIn) w
theorem dew_ask {j : Nat} (tk : Takes X W) (hr : Room j X.A) (hgd : X.A.guards = some []) (i : Nat) (hN : X.N[i]? = some x := by rfl) (hv : Vis X.env.scope x := by first | exact Or.inl rfl | exact Or.inr (Or.inl rfl) | exact Or.inr (Or.inr rfl)) (hd : (x == ("__debug__" : Str)) = false := by decide)
    (hcd : (x == ("__classdict__" : Str)) = false := by decide) : DEW P G0 n X W (.Call (.Name x p) [] [] pos) (dAsk i j fun ρ Q => Q [] ρ) := pe_ask0 i hN hv hd hcd fun pins σ H s Q I ⟨ρ, G, Q0, ex, s0, R, h, kk, ee⟩ => by
  unfold dAsk at h
  split at h
  case h_2 => exact h.elim
  rename_i k2 W2 q
  obtain ⟨f, hs, A⟩ := R.ask q
  obtain ⟨hk, R0, w, h⟩ := h
  refine ⟨f, hs, A.fnT.sub R.sub, ask_run (E := WE W) (Ds := []) (vs := []) (fun σ => passAt tk σ) (hr.mono hk) hgd A I R s0.2 .nil .nil w fun o ho => ?_⟩
  have ho := h o ho
  cases o with
  | told D => exact fun v G2 H2 s2 R2 d => kk _ _ _ _ _ ho s2 .refl R2 d
  | err C D => exact fun d v G2 H2 s2 R2 xd dv => ee _ _ _ _ _ _ _ _ ho s2 .refl R2 xd dv
end
abbrev DTSW := EndsD → Sto → (Sto → EK) → Prop
def rdSW (K : Zw) (G0 : Hp) (n : Nat) (W : WX) (t : DTSW) : TS := fun D σ H => ∃ ρ G D0 ex, Ex K.T G0 G ∧ Rep K [] G ρ σ H ∧ t D0 ρ ex ∧ Lk K n D0 ρ G D ∧ ErrW K n W ρ G ex
def DSW (P : Tb) (G0 : Hp) (n : Nat) (X : Cx) (W : WX) (st : Stmt) (t : DTSW) : Prop := PS X st (rdSW (zOf X P) G0 n W t)
section
variable {P : Tb} {G0 : Hp} {n : Nat} {X : Cx} {W : WX} {e : Expr} {u : DTEW} {pos tp : Pos}
theorem dsw_expr (he : DEW P G0 n X W e u) (hs : swapsWith e none pos.line X.env = pure false := by rfl) : DSW P G0 n X W (.Expr e pos) (fun D ρ ex => u ρ (fun _ ρ' => D.nx ρ') ex) := ps_weak (ps_expr he hs) fun D σ H ⟨ρ, G, D0, ex, s, R, h, k, ee⟩ =>
  ⟨ρ, G, _, ex, s, R, h, fun Dv ρ' v G' H' q s' al R' d => k.nx _ _ _ _ q s' al R', ee⟩
end
section
variable {P : Tb} {G0 : Hp} {n : Nat} {X : Cx} {a C : Addr} {oe : Obj} {cls : Value} {d : Option Addr} {pn : List (Addr × Obj)} {pos p p2 p3 : Pos} {x nm : Str}
def dFlt (a C : Addr) (cls : Value) (d : Option Addr) (i : Nat) : (DTE) := fun ρ Q => match ρ[i]? with
  | some (.exc a' C' d' D) => a' = a ∧ C' = C ∧ cls = .ref C' ∧ d = some d' ∧ Q D ρ
  | _ => False
/-- fault.at -/
theorem de_flt (hn : P.an C = nm) (T : XfC X.K C) (hno : PySem.W.findIn X.K (.ref C) nm = some none) (hz : Zc cls d oe) (hf : ∃ vs, oe.data = .fields vs) (i : Nat) (hN : X.N[i]? = some x := by rfl)
    (hv : Vis X.env.scope x := by first | exact Or.inl rfl | exact Or.inr (Or.inl rfl) | exact Or.inr (Or.inr rfl)) (hd : (x == ("__debug__" : Str)) = false := by decide) (hcd : (x == ("__classdict__" : Str)) = false := by decide)
    (hb : attributeBase (.Name x p) nm X.env (eval (.Name x p) X.env) = eval (.Name x p) X.env := by rfl) : DE P G0 n (X.suite a ((a, oe) :: pn)) (.Attribute (.Name x p) nm pos) (dFlt a C cls d i) :=
  pe_weak (pe_xf T hno hz hf (pe_var (X := X.suite a ((a, oe) :: pn)) hN hv hd hcd) hb) fun σ H Q ⟨F, ρ, G, Q0, s, R, h, k⟩ => by
    unfold dFlt at h
    split at h
    · rename_i a' C' d' D q
      obtain ⟨rfl, rfl, rfl, rfl, h⟩ := h
      obtain ⟨h1, v, h2, h3⟩ := R.exc q
      refine ⟨_, h1, rfl, rfl, d', _, v, rfl, R.sub _ _ h2, ?_, k.here s.2 R h3 h⟩
      show List.lookup nm [(P.an C', v)] = some v
      rw [hn, List.lookup_cons_self]
    · exact h.elim
def dFlI (a C : Addr) (cls : Value) (d : Option Addr) (b : Bool) (i : Nat) : (DTE) := fun ρ Q => match ρ[i]? with
  | some (.exc a' C' d' D) => a' = a ∧ C' = C ∧ cls = .ref C' ∧ d = some d' ∧ Q (.bool b) ρ
  | _ => False
/-- isinstance(fault, O) -/
theorem de_fltI {O : Addr} {o : Str} {b : Bool} (T : IsC X.K C) (hk : PySem.W.kitOne X.K (.ref C) (.ref O) = some b) (hz : Zc cls d oe) (hf : ∃ vs, oe.data = .fields vs) (hgi : Gl X "isinstance") (hmi : X.mg "isinstance" = none) (hgo : Gl X o) (hmo : X.mg o = some (.ref O)) (i : Nat) (hN : X.N[i]? = some x := by rfl)
    (hv : Vis X.env.scope x := by first | exact Or.inl rfl | exact Or.inr (Or.inl rfl) | exact Or.inr (Or.inr rfl)) (hd : (x == ("__debug__" : Str)) = false := by decide) (hcd : (x == ("__classdict__" : Str)) = false := by decide) (hdo : (o == ("__debug__" : Str)) = false := by decide)
    (hs : starEach [.Name x p2, .Name o p3] X.env = (false, eval (.Name x p2) X.env) :: starEach [.Name o p3] X.env := by rfl) (hs2 : starEach [.Name o p3] X.env = (false, eval (.Name o p3) X.env) :: starEach [] X.env := by rfl) (hpl : (backTo pos (starEach [.Name o p3] X.env)).any (·.1) = false := by rfl) :
    DE P G0 n (X.suite a ((a, oe) :: pn)) (.Call (.Name "isinstance" p) [.Name x p2, .Name o p3] [] pos) (dFlI a C cls d b i) :=
  pe_weak (pe_callB (X := X.suite a ((a, oe) :: pn)) (call_isD hz hf) hgi hmi (by decide +kernel) (pa_cons (X := X.suite a ((a, oe) :: pn)) (pe_var (X := X.suite a ((a, oe) :: pn)) hN hv hd hcd) (pa_cons (X := X.suite a ((a, oe) :: pn)) (pe_glob (X := X.suite a ((a, oe) :: pn)) (v := .ref O) hgo hmo rfl hdo) pa_nil hs2) hs) (by decide) (by decide) hs hpl) fun σ H Q ⟨F, ρ, G, Q0, s, R, h, k⟩ => by
    unfold dFlI at h
    split at h
    · rename_i a' C' d' D q
      obtain ⟨rfl, rfl, rfl, rfl, h⟩ := h
      obtain ⟨h1, v, h2, h3⟩ := R.exc q
      exact ⟨_, h1, C', O, d', _, b, rfl, rfl, rfl, T, R.sub _ _ h2, hk, k.here s.2 R (.bl _) h⟩
    · exact h.elim
end
/-- a clause by data: its class, its name's slot, its suite's reading -/
abbrev ClsD := Addr × Nat × (Addr → Value → Option Addr → DTS)
def offD (i : Nat) (D : EndsD) : EndsD := { nx := fun ρ => noOb ρ i ∧ D.nx (ρ.set i .un), rt := D.rt, bk := fun ρ => noOb ρ i ∧ D.bk (ρ.set i .un), ct := fun ρ => noOb ρ i ∧ D.ct (ρ.set i .un), ro := D.ro }
def hearD (K : PySem.W.Frag) (D : EndsD) : List ClsD → Sto → EK
  | [], _ => fun _ => False
  | (c, i, t) :: r, ρ => fun er => ∃ b, PySem.W.exmOne K (.ref er.1) (.ref c) = some b ∧ (b = true → noOb ρ i ∧ ∀ a d, t a (.ref er.1) (some d) (offD i D) (ρ.set i (.exc a er.1 d er.2))) ∧ (b = false → hearD K D r ρ er)
inductive HdsD (P : Tb) (G0 : Hp) (n : Nat) (X : Cx) : List ExceptHandler → List ClsD → Prop
  | none : HdsD P G0 n X [] []
  | more {x nm : Str} {c : Addr} {i : Nat} {t : Addr → Value → Option Addr → DTS} {st : Stmt} {sts : List Stmt} {np p : Pos} {hs : List ExceptHandler} {cs : List ClsD} (hx : Names X x (.ref c)) (hi : X.N[i]? = some nm) (hl : X.env.kindOf nm = some .local)
      (suite : ∀ (a : Addr) (oe : Obj) (cls : Value) (d : Option Addr) (pn : List (Addr × Obj)), Zc cls d oe → (∃ vs, oe.data = .fields vs) → DSs P G0 n (X.suite a ((a, oe) :: pn)) (st :: sts) (t a cls d)) (rest : HdsD P G0 n X hs cs) :
      HdsD P G0 n X (.ExceptHandler (some (.Name x np)) (some nm) (st :: sts) p :: hs) ((c, i, t) :: cs)
section
variable {P : Tb} {G0 : Hp} {n : Nat} {X : Cx} {st : Stmt} {h0 : ExceptHandler} {hds : List ExceptHandler} {cs : List ClsD} {pos : Pos} {tb : DTSW}
def clsT (K : Zw) (G0 : Hp) (n : Nat) (c : ClsD) : SoC.Cls := (.ref c.1, c.2.1, fun a cls d => rdS K G0 n (c.2.2 a cls d))
theorem HdsD.cl : ∀ {hs : List ExceptHandler} {cs : List ClsD}, HdsD P G0 n X hs cs → Clauses X hs (cs.map (clsT (zOf X P) G0 n))
  | _, _, .none => .none
  | _, _, .more hx hi hl su r => .more hx hi hl su r.cl
theorem exc_fresh {K : Zw} {F : List (Addr × HO)} {G H : Hp} {ρ : Sto} {σ : L2.St} {i : Nat} {a C d : Addr} {v : V} {D : PyData} (R : Rep K F G ρ σ H) (n : ∀ a c, ρ[i]? ≠ some (.ob a c)) (x : Xd K C G d v) (dv : Dw K G v D) : Rep K F G (ρ.set i (.exc a C d D)) (σ.set i (some (.ref a))) H := R.setLc n ⟨rfl, v, x, dv⟩
theorem hear_read {D : Ends} {D0 : EndsD} {ρ : Sto} {G : Hp} (k : Lk (zOf X P) n D0 ρ G D) (s0 : Ex P G0 G) : ∀ (cs : List ClsD), ErrW (zOf X P) n (wEach X.K (fun _ _ _ _ => False) D (cs.map (clsT (zOf X P) G0 n))) ρ G (hearD X.K D0 cs)
  | [] => fun ρ' σ' G' H' C Dv d v q _ _ _ _ _ => q.elim
  | (c, i, t) :: r => fun ρ' σ' G' H' C Dv d v ⟨b, hb, hy, hn⟩ s al R x dv => by
    refine ⟨b, hb, fun e a ha => ?_, fun e => hear_read k s0 r ρ' σ' G' H' C Dv d v (hn e) s al R x dv⟩
    obtain ⟨no, hy⟩ := hy e
    have k2 := k.after s (al.trans (Alike.set (lc := .exc a C d Dv) no))
    have off : ∀ {Q0 : Sto → Prop} {Q : L2.St → Hp → Prop}, LkN (zOf X P) n Q0 (ρ'.set i (.exc a C d Dv)) G' Q → LkN (zOf X P) n (fun ρ2 => noOb ρ2 i ∧ Q0 (ρ2.set i .un)) (ρ'.set i (.exc a C d Dv)) G' fun σ2 H2 => Q (σ2.set i none) H2 := fun kk ρ2 σ2 G2 H2 ⟨no2, q2⟩ s2 al2 R2 =>
      kk _ _ _ _ q2 s2 (al2.trans (.set no2)) (R2.forget (noOb_ne no2) none)
    show rdS (zOf X P) G0 n (t a (Value.ref C) (some d)) (offN i D) (σ'.set i (some (V.ref a))) H'
    exact ⟨ρ'.set i (.exc a C d Dv), G', offD i D0, s0.trans s, exc_fresh R (noOb_ne no) x dv, hy a d, ⟨off k2.nx, off k2.bk, off k2.ct, k2.rt, k2.ro⟩⟩
def dTry (K : PySem.W.Frag) (cs : List ClsD) (tb : DTSW) : DTS := fun D ρ => tb D ρ (hearD K D cs)
/-- try: one statement; except C as fault: .. -/
theorem ds_try {K : PySem.W.Frag} (hK : X.K = K) (hs : X.stack = X.env :: X.outer) (hf : X.env.frame = some X.env.locals) (hN : X.N.Nodup) (hb : ∀ (W : WX) (pn : List (Addr × Obj)) (xe : Value → Shared → Prop), Takes (X.tr pn xe) W → PassesOwn (model X.prog X.w) X.A X.env xe → DSW P G0 n (X.tr pn xe) W st tb)
    (hh : HdsD P G0 n X (h0 :: hds) cs) : DS P G0 n X (.Try [st] (h0 :: hds) [] [] pos) (dTry K cs tb) := by
  subst hK
  exact ps_weak (ps_tryEach (tb := fun W => rdSW (zOf X P) G0 n W tb) hs hf hN takes0 (fun W pn xe tk po => pss_one (hb W pn xe tk po)) hh.cl) fun D σ H ⟨ρ, G, D0, s, R, h, k⟩ => ⟨ρ, G, D0, _, s, R, h, k, hear_read k s cs⟩
end
abbrev ClsN := Addr × (Addr → Value → Option Addr → DTS)
inductive HdsN (P : Tb) (G0 : Hp) (n : Nat) (X : Cx) : List ExceptHandler → List ClsN → Prop
  | none : HdsN P G0 n X [] []
  | more {x : Str} {c : Addr} {t : Addr → Value → Option Addr → DTS} {st : Stmt} {sts : List Stmt} {np p : Pos} {hs : List ExceptHandler} {cs : List ClsN} (hx : Names X x (.ref c))
      (suite : ∀ (a : Addr) (oe : Obj) (cls : Value) (d : Option Addr) (pn : List (Addr × Obj)), Zc cls d oe → (∃ vs, oe.data = .fields vs) → DSs P G0 n (X.suite a ((a, oe) :: pn)) (st :: sts) (t a cls d)) (rest : HdsN P G0 n X hs cs) :
      HdsN P G0 n X (.ExceptHandler (some (.Name x np)) none (st :: sts) p :: hs) ((c, t) :: cs)
section
variable {P : Tb} {G0 : Hp} {n : Nat} {X : Cx} {st : Stmt} {h0 : ExceptHandler} {hds : List ExceptHandler} {cs : List ClsN} {pos : Pos} {tb : DTSW}
def clsN (K : Zw) (G0 : Hp) (n : Nat) (c : ClsN) : Value × (Addr → Value → Option Addr → TS) := (.ref c.1, fun a cls d => rdS K G0 n (c.2 a cls d))
theorem HdsN.cl : ∀ {hs : List ExceptHandler} {cs : List ClsN}, HdsN P G0 n X hs cs → HdsOk X hs (cs.map (clsN (zOf X P) G0 n))
  | _, _, .none => .nil
  | _, _, .more hx su r => .cons hx su r.cl
end
end Dl
set_option Elab.async false
set_option linter.all false
set_option maxRecDepth 100000
set_option maxHeartbeats 4000000
namespace SoC
open PySem PySem.Spec PyProof.Rows L2 LamX NdefX So
section
variable {X : Cx} {elt tg iter : Expr} {ifs : List Expr} {scope : Scope} {own : List (Str × Nat)} {pos : Pos} {wi : TI} {g : TG} {tt : L2.St → TT} {te : L2.St → TE}
/-- the block, begun at s -/
abbrev blkAt (X : Cx) (scope : Scope) (s : Shared) (H : Hp) (C : Addr) (cl : List (Str × Addr)) (fp : List Addr) : Cx := X.blk s H scope (compEnvC scope cl C X.env) fp
theorem pe_lcF (hc : X.calm = true) (hN : X.N.Nodup) (hi : PI X tg iter wi) (ok : BlkOk X.N X.env.scope scope own) (hg : ∀ (s : Shared) (H : Hp) (C : Addr) (cl : List (Str × Addr)) (fp : List Addr), PG (blkAt X scope s H C cl fp) tg g)
    (ht : ∀ (pins : List (Addr × Obj)) (σ : L2.St) (s : Shared) (H : Hp) (C : Addr) (cl : List (Str × Addr)) (fp : List Addr), Inv X pins σ H s → (∀ b ∈ fp, FpOk X pins H b) → PTs (blkAt X scope s H C cl fp) ifs (tt σ))
    (he : ∀ (pins : List (Addr × Obj)) (σ : L2.St) (s : Shared) (H : Hp) (C : Addr) (cl : List (Str × Addr)) (fp : List Addr), Inv X pins σ H s → (∀ b ∈ fp, FpOk X pins H b) → PE (blkAt X scope s H C cl fp) elt (te σ))
    (hs : ∀ x, foldedSetIterable iter X.env x = pure x := by intro _; rfl) : PE X (.ListComp elt [⟨tg, iter, ifs, 0⟩] scope pos) (fun σ H Q => tLc wi g (tt σ) (te σ) (own.map (·.2)) σ H Q) := by
  constructor
  intro pins s σ H Q I h
  rw [eval_ListComp]
  have clo : closureFor scope X.env = pure (cloFrom X.env.cells scope.names []) := closure_ok fun y hy e => (ok.free y hy e).elim (fun k => I.ok.has _ (.inl k)) fun k => I.ok.has _ (.inr k)
  refine wpAny_comprehension_free (use := none) rfl hs clo ok.kind (fun y hy e => (ok.uniq y hy).trans (congrArg some e)) (thn (hi.run pins s σ H _ I h) fun v1 s1 h1 => thn h1 fun v2 s2 h2 => ?_)
  obtain ⟨it, fp, tn, J, H2, rfl, I2, T, at2, fp2, walk⟩ := h2
  refine wpAny_newObj_type (newEnv_comp ?_) (Nat.zero_le _)
  obtain ⟨D, eD⟩ : ∃ D, D = s2.heap.objs.size := ⟨_, rfl⟩
  rw [← eD]
  have D0 : H2 D = none := I2.hok.fresh (Nat.le_of_eq eD.symm)
  obtain ⟨W, ⟨m0, w0⟩, turn⟩ := walk D D0
  -- the list stands
  obtain ⟨s3, e3⟩ : ∃ s3 : Shared, s3 = { s2 with heap := s2.heap.push { cls := .type "list", data := .seq ([] : List Value).toArray } } := ⟨_, rfl⟩
  have get3 : s3.heap.get? D = some { cls := .type "list", data := .seq ([] : List Value).toArray } := by
    rw [e3, eD]
    exact Heap.get?_push_size _ rfl
  have up3 : ∀ b o, s2.heap.get? b = some o → s3.heap.get? b = some o := fun b o e => by
    rw [e3]
    exact Heap.get?_push_of_some _ e
  have size3 : s3.heap.objs.size = s2.heap.objs.size + 1 := by
    rw [e3]
    exact Heap.size_push ..
  have I3 : Inv X pins σ (upd H2 D (.lst [])) s3 := by
    have q := I2.laid (t' := s2.toks) (h' := s3.heap) (a := D) (o := .lst []) up3 (Nat.le_of_eq eD.symm) ⟨Nat.zero_le _, [], 0, .nil, get3⟩
    rw [e3] at q ⊢
    exact q
  have lt2 : ∀ b ∈ fp, b < s2.heap.objs.size := fun b hb => by
    obtain ⟨o, e, _⟩ := T.obj _ _ at2 b hb
    exact Heap.lt_size e
  obtain ⟨H3, eH3⟩ : ∃ H3, H3 = upd H2 D (.lst []) := ⟨_, rfl⟩
  rw [← eH3] at I3 w0
  have fp3 : ∀ b ∈ fp, FpOk X pins H3 b ∧ b < s3.heap.objs.size := by
    intro b hb
    have l := lt2 b hb
    have n : b ≠ D := fun z => Nat.lt_irrefl _ (eD ▸ z ▸ l)
    obtain ⟨z, rest⟩ := fp2 b hb
    refine ⟨⟨?_, rest⟩, size3 ▸ Nat.lt_succ_of_lt l⟩
    rw [eH3, upd_ne n]
    exact z
  have at3 : tn 0 s3.heap := T.keep _ _ _ at2 fun b _ o e => up3 b o e
  obtain ⟨cl, ecl⟩ : ∃ cl, cl = cellsFrom (s3.heap.objs.size + 1) scope.names (cloFrom X.env.cells scope.names []) := ⟨_, rfl⟩
  obtain ⟨s4, e4⟩ : ∃ s4 : Shared, s4 = { s3 with heap := pushCells (s3.heap.push { cls := .type "dict", data := .dict #[] }) scope.names } := ⟨_, rfl⟩
  have B4 : Inv (blkAt X scope s3 H3 s3.heap.objs.size cl fp) [] (wipe σ (own.map (·.2))) H3 s4 := by
    rw [ecl, e4]
    exact block_start I3 ok hN fp3
  have PGs := hg s3 H3 s3.heap.objs.size cl fp
  have PTt := ht pins σ s3 H3 s3.heap.objs.size cl fp I3 fun b hb => (fp3 b hb).1
  have PEe := he pins σ s3 H3 s3.heap.objs.size cl fp I3 fun b hb => (fp3 b hb).1
  have at4 : tn 0 s4.heap := T.keep _ _ _ at3 fun b _ o e => by
    rw [e4]
    exact pushCells_keeps _ _ _ _ (Heap.get?_push_of_some _ e)
  have none3 : ∀ b ∈ fp, H3 b = none := fun b hb => (fp3 b hb).1.1
  have env1 : (blkAt X scope s3 H3 s3.heap.objs.size cl fp).env.locals = s3.heap.objs.size := rfl
  -- in the block an iterator's records are its own
  have recs : ∀ {σ' : L2.St} {H' : Hp} {s' : Shared}, Inv (blkAt X scope s3 H3 s3.heap.objs.size cl fp) [] σ' H' s' → (∀ b ∈ fp, H' b = none) → ∀ b ∈ fp, FpOk (blkAt X scope s3 H3 s3.heap.objs.size cl fp) [] H' b := by
    intro σ' H' s' J' n b hb
    obtain ⟨x1, x2⟩ := J'.ok.exf b hb
    exact ⟨n b hb, x1, J'.ok.exfs b hb, .inl hb, x2, fun p hp => nomatch (show p ∈ ([] : List (Addr × Obj)) ++ [] from hp)⟩
  have loop : codeAny (model X.prog X.w) X.A (.compLoop (.ListComp elt [⟨tg, iter, ifs, 0⟩] scope pos) 0 (.ref it) (.ref D) (compEnvC scope cl s3.heap.objs.size X.env)) (compPost (model X.prog X.w) X.A X.xe none (EP X pins σ Q) (.ref D) s3.heap.objs.size) s4 := by
    refine compLoop_any (fun n s' => ∃ i H', Inv (blkAt X scope s3 H3 s3.heap.objs.size cl fp) [] (wipe σ (own.map (·.2))) H' s' ∧ tn i s'.heap ∧ (∀ b ∈ fp, H' b = none) ∧ W i n H') (fun n s5 hyp => ?_) m0 ⟨0, H3, B4, at4, none3, w0⟩
    obtain ⟨i, H5, B5, at5, n5, w5⟩ := hyp
    rcases turn i n H5 w5 with ⟨halt, q⟩ | ⟨go, Nx, hNx, step⟩
    · refine thnF (T.done (blkAt X scope s3 H3 s3.heap.objs.size cl fp) rfl rfl rfl hc i [] s5 _ H5 (fun _ _ => False) B5 (recs B5 n5) at5 halt) fun r s6 h6 => ?_
      obtain ⟨rfl, B6⟩ := h6
      have I6 : Inv X pins σ H5 s6 := I3.call' (ch := fp) B6.os B6.base B6.hok B6.bare fun b hb => by
        obtain ⟨⟨_, y1, _, y2, y3, y4⟩, _⟩ := fp3 b hb
        exact ⟨y2, y1, y3, y4⟩
      have free6 : H5 s3.heap.objs.size = none := env1 ▸ B6.free
      obtain ⟨m, ns6, _⟩ := B6.loc
      obtain ⟨f0, f1, f2, f3, f4, f5⟩ := I3.fpOk (Nat.le_refl _) free6
      exact ⟨m, ns6, fun g' same => ⟨.ref D, H5, I6.turned (t' := s6.toks) (fun b o nb e => (same.2 b nb).trans e) f0 f1 f3 f4 f5, rfl, q⟩⟩
    · refine thnF (T.item (blkAt X scope s3 H3 s3.heap.objs.size cl fp) rfl rfl rfl hc i [] s5 _ H5 (fun _ _ => False) B5 (recs B5 n5) at5 go) fun r s6 h6 => ?_
      obtain ⟨u, rfl, h6⟩ := h6
      refine thnF h6 fun _ s7 h7 => ?_
      obtain ⟨x, H7, B7, rx, yx, at7, n7⟩ := h7
      have B7' := B7.pinned (recs B7 n7) (T.obj _ _ at7)
      refine thnF (PGs.run _ s7 _ H7 x u _ B7' rx (step x H7 yx)) fun _ s8 h8 => ?_
      obtain ⟨σ8, H8, B8, wp8, q8⟩ := h8
      refine thnF (PTt.run _ s8 σ8 H8 _ B8 q8) fun b s9 h9 => ?_
      obtain ⟨H9, B9, q9⟩ := h9
      have len8 : (wipe σ (own.map (·.2))).length = σ8.length := by rw [← wp8, wipe_length]
      have next : ∀ {s' : Shared} {H' : Hp}, Inv (blkAt X scope s3 H3 s3.heap.objs.size cl fp) ([] ++ pinsAt fp s7.heap) σ8 H' s' → Nx H' →
          ∃ m, m < n ∧ ∃ i H', Inv (blkAt X scope s3 H3 s3.heap.objs.size cl fp) [] (wipe σ (own.map (·.2))) H' s' ∧ tn i s'.heap ∧ (∀ b ∈ fp, H' b = none) ∧ W i m H' := by
        intro s' H' B' nx
        obtain ⟨m', lt, w'⟩ := hNx H' nx
        have pins' : ∀ b ∈ fp, ∀ o, s7.heap.get? b = some o → s'.heap.get? b = some o ∧ H' b = none := fun b hb o e => by
          obtain ⟨z1, z2, _⟩ := B'.pin (b, o) (List.mem_append_right _ (List.mem_append_right _ (mem_pinsAt hb e)))
          exact ⟨z1, z2⟩
        refine ⟨m', lt, i + 1, H', (B'.unpinned (pins := [])).weak len8 (fun j v e => (wipe_some (wp8 ▸ e)).1), T.keep _ _ _ at7 (fun b hb o e => (pins' b hb o e).1), fun b hb => ?_, w'⟩
        obtain ⟨o, e, _⟩ := T.obj _ _ at7 b hb
        exact (pins' b hb o e).2
      cases b with
      | true =>
        simp only [if_true] at q9 ⊢
        refine thnF (PEe.run _ s9 σ8 H9 _ B9 q9) fun z s10 h10 => ?_
        obtain ⟨y, H10, B10, r10, acc, hD, room, nx⟩ := h10
        exact app_ok (X := blkAt X scope s3 H3 s3.heap.objs.size cl fp) B10 hD room r10 fun s11 B11 => next B11 nx
      | false =>
        simp only [Bool.false_eq_true, if_false] at q9 ⊢
        exact next B9 q9
  have fin := codeAny_compStart_list loop (T.self X.A 0 _ _ _ at4 loop)
  subst ecl
  subst e4
  subst e3
  exact fin
end
end SoC
set_option Elab.async false
set_option linter.all false
set_option maxRecDepth 100000
set_option maxHeartbeats 4000000
namespace Dl
open PySem PySem.Spec PyProof PyProof.Rows L2 So Da SoC LamX NdefX
structure LamUp (P : Addr) (G H G1 H1 : Hp) : Prop where
  sub : Sub G1 H1
  ext : ExtN G G1
  keep : ∀ b o, b ≠ P → H b = some o → H1 b = some o
  keepG : ∀ b o, b ≠ P → G b = some o → G1 b = some o
  new : ∀ b o, G1 b = some o → G b ≠ none ∨ H b = none
  nt : ∀ b o, G1 b = some o → G b = some o ∨ NTo o
def tLamG (P : Addr) (L : List NTab) (mk : Addr → NF) (body : Expr) : TE := fun _ H Q => ∃ G, Sub G H ∧ TabsN L G ∧ ∀ f c G1 H1, LamUp P G H G1 H1 → TabsN L G1 → H f = none → G1 f = some (LmO f (mk c) body) → G1 c = some (CodeO c (mk c).qual) → Q (.ref f) H1
section
variable {X : Cx}
theorem pe_lamG {L : List NTab} {nm : Nat → Nat → Str} {c P : Addr} {params : Arguments} {body : Expr} {scope : Scope} {pos : Pos} (TB : TabB X.base X.mg c P) (hcode : X.env.code = .ref c) (hm : (P, nm) ∈ L) (hn : nm pos.line pos.col = X.env.qual ++ "<lambda>") (hu : ∀ p ∈ L, p.1 = P → p.2 = nm)
    (hfree : ∀ y ∈ scope.names, y.2 = .free → X.env.scope.names.lookup y.1 = some .cell ∨ X.env.scope.names.lookup y.1 = some .free) (hdef : defaultsOf params X.env = ([], [])) : PE X (.Lambda params body scope pos) (tLamG P L (lamF X params scope) body) := by
  refine ⟨fun pins s σ H Q I hw => PySem.W.kla_eval hdef ?_⟩
  obtain ⟨G, sub, hT, k⟩ := hw
  obtain ⟨ps, tG, tps, tc⟩ := (show TabN G P nm from hT _ hm)
  have tP := sub _ _ tG
  have tP' : s.heap.get? P = some { cls := .none, data := .fields ps } := I.hok P _ tP
  have cl : closureFor scope X.env = pure (cloFrom X.env.cells scope.names []) := closure_ok fun y hy e => (hfree y hy e).elim (fun z => I.ok.has _ (.inl z)) fun z => I.ok.has _ (.inr z)
  have gn : ∀ {b}, H b = none → G b = none := fun {b} n => by
    cases e : G b with
    | none => rfl
    | some o => rw [sub b o e] at n; cases n
  have fin : ∀ {c' : Addr} {pm ctv : Value} {G1 H1 : Hp} {h' : Heap} {t1 t2 : Nat}, Inv X pins σ H1 { s with heap := h', toks := t1 } → s.heap.objs.size ≤ h'.objs.size → LamUp P G H G1 H1 → TabsN L G1 → G1 c' = some (CodeO c' (X.env.qual ++ "<lambda>")) →
      EP X pins σ Q (.ref h'.objs.size) { s with heap := h'.push (PySem.W.kla_obj "<lambda>" (X.env.qual ++ "<lambda>") params body scope (cloFrom X.env.cells scope.names []) pm c' ctv), toks := t2 } := by
    intro c' pm ctv G1 H1 h' t1 t2 J hs up hTs hc
    have f0 : H1 h'.objs.size = none := J.hok.fresh (Nat.le_refl _)
    have fH : H h'.objs.size = none := I.hok.fresh hs
    have g0 : G1 h'.objs.size = none := by
      cases e : G1 h'.objs.size with
      | none => rfl
      | some o => rw [up.sub _ _ e] at f0; cases f0
    have sm : ∀ b o, H1 b = some o → upd H1 h'.objs.size (LmO h'.objs.size (lamF X params scope c') body) b = some o := fun b o e => by
      rw [upd_ne (ne_of_none e f0)]
      exact e
    have smG : ∀ b o, G1 b = some o → upd G1 h'.objs.size (LmO h'.objs.size (lamF X params scope c') body) b = some o := fun b o e => by
      rw [upd_ne (ne_of_none e g0)]
      exact e
    refine ⟨.ref h'.objs.size, _, lay_lam (F := lamF X params scope c') (body := body) (pm := pm) (ctv := ctv) (t2 := t2) J, rfl, k _ c' (upd G1 h'.objs.size (LmO h'.objs.size (lamF X params scope c') body)) _ ⟨fun b o e => ?_, fun b o e n => smG b o (up.ext b o e n), fun b o n e => sm b o (up.keep b o n e), fun b o n e => smG b o (up.keepG b o n e), fun b o e => ?_, fun b o e => ?_⟩ (hTs.ext smG) fH upd_same (smG _ _ hc)⟩
    · by_cases z : b = h'.objs.size
      · rw [z, upd_same] at e ⊢
        exact e
      · rw [upd_ne z] at e ⊢
        exact up.sub b o e
    · by_cases z : b = h'.objs.size
      · rw [z]
        exact .inr fH
      · rw [upd_ne z] at e
        exact up.new b o e
    · by_cases z : b = h'.objs.size
      · rw [z, upd_same] at e
        cases e
        exact .inr trivial
      · rw [upd_ne z] at e
        exact up.nt b o e
  cases hc : codeAmong pos ps.toList with
  | some cv =>
    obtain ⟨c', rfl, hco⟩ := tc pos cv hc
    rw [hn] at hco
    refine PySem.W.kla_makeFunctionHit (mg := X.mg) (c := c) (P := P) (ps := ps) cl I.ok.glob (I.mod.glob.keeps I.bk) hcode (TB.code.keeps I.bk) tP' tps hc (TB.bm.keeps I.bk) fun ctv h' tk kp hs => ?_
    exact fin (t1 := tk) (I.kept kp) hs ⟨sub, ExtN.refl G, fun _ _ _ e => e, fun _ _ _ e => e, fun b o e => .inl (by rw [e]; exact fun z => nomatch z), fun b o e => .inl e⟩ hT hco
  | none =>
    refine PySem.W.kla_makeFunction (mg := X.mg) (c := c) (P := P) (ps := ps) cl I.ok.glob (I.mod.glob.keeps I.bk) hcode (TB.code.keeps I.bk) tP' tps hc TB.gP (TB.bm.keeps I.bk) fun c' ctv h' tk kp hge hlt hrec htb => ?_
    obtain ⟨c2, oc, vs, t, e2, hoc, hd, hv⟩ := hrec
    cases e2
    have nC : H c' = none := I.hok.fresh hge
    have nCG : G c' = none := gn nC
    have nPC : P ≠ c' := ne_of_none tP nC
    have J := inv_table (t' := tk) (more := #[rawInt pos.line, rawInt pos.col, .ref c']) (h' := h') I tP (fun b o hb e => kp b o hb e) htb hge ⟨oc, vs, t, hoc, hd, hv⟩
    have keepO : ∀ (H : Hp), H c' = none → ∀ b o, b ≠ P → H b = some o → upd (upd H P (.tbl (ps ++ #[rawInt pos.line, rawInt pos.col, .ref c']))) c' (CodeO c' (X.env.qual ++ "<lambda>")) b = some o := fun H nC b o hb e => by
      rw [upd_ne (ne_of_none e nC), upd_ne hb]
      exact e
    have codeK : ∀ d q, G d = some (CodeO d q) → upd (upd G P (.tbl (ps ++ #[rawInt pos.line, rawInt pos.col, .ref c']))) c' (CodeO c' (X.env.qual ++ "<lambda>")) d = some (CodeO d q) := fun d q e =>
      keepO G nCG d _ (fun z => by
        rw [z, tG] at e
        exact codeO_ne ps (Option.some.inj e).symm) e
    refine fin (G1 := upd (upd G P (.tbl (ps ++ #[rawInt pos.line, rawInt pos.col, .ref c']))) c' (CodeO c' (X.env.qual ++ "<lambda>"))) (t1 := tk) J (Nat.le_trans hge (Nat.le_of_lt hlt)) ⟨fun b o e => ?_, fun b o e n => keepO G nCG b o (fun z => by
      rw [z, tG] at e
      exact n ps (Option.some.inj e).symm) e, keepO H nC, keepO G nCG, fun b o e => ?_, fun b o e => ?_⟩ (fun p hp => ?_) upd_same
    · by_cases z : b = c'
      · rw [z, upd_same] at e ⊢
        exact e
      · rw [upd_ne z] at e ⊢
        by_cases z2 : b = P
        · rw [z2, upd_same] at e ⊢
          exact e
        · rw [upd_ne z2] at e ⊢
          exact sub b o e
    · by_cases z : b = c'
      · rw [z]
        exact .inr nC
      · rw [upd_ne z] at e
        by_cases z2 : b = P
        · rw [z2, tG]
          exact .inl fun z => nomatch z
        · rw [upd_ne z2] at e
          exact .inl (by rw [e]; exact fun z => nomatch z)
    · by_cases z : b = c'
      · rw [z, upd_same] at e
        cases e
        exact .inr trivial
      · rw [upd_ne z] at e
        by_cases z2 : b = P
        · rw [z2, upd_same] at e
          cases e
          exact .inr trivial
        · rw [upd_ne z2] at e
          exact .inl e
    · by_cases hb : p.1 = P
      · rw [hu p hp hb, hb]
        refine ⟨ps ++ #[rawInt pos.line, rawInt pos.col, .ref c'], by rw [upd_ne nPC, upd_same], by rw [Array.toList_append]; exact PySem.TriplesOk_snoc _ _ _ _ tps, fun p' cv hcv => ?_⟩
        rw [Array.toList_append] at hcv
        rcases among_app2 _ tps hcv with z | ⟨z, z1, z2⟩
        · obtain ⟨d, e1, e3⟩ := tc p' cv z
          exact ⟨d, e1, codeK d _ e3⟩
        · refine ⟨c', z, ?_⟩
          rw [← z1, ← z2, hn]
          exact upd_same
      · obtain ⟨qs, a1, a2, a3⟩ := hT p hp
        refine ⟨qs, keepO G nCG _ _ hb a1, a2, fun p' cv hcv => ?_⟩
        obtain ⟨d, e1, e3⟩ := a3 p' cv hcv
        exact ⟨d, e1, codeK d _ e3⟩
end
section
variable {K : Zw} {F : List (Addr × HO)} {G G' H H' : Hp} {ρ : Sto} {σ : L2.St} {P : Addr}
/-- what is known of all but objects of one's own has grown; these stay -/
theorem Rep.pastC (R : Rep K F G ρ σ H) (s : Ex K.T G G') (sub : Sub G' H') (nt : NT G') (keep : ∀ b, (Owns ρ b ∨ ∃ o, (b, o) ∈ F) → H' b = H b ∧ G' b = none) : Rep K F G' ρ σ H' := by
  refine ⟨R.len, fun {i D} e => ?_, fun {i a c} e => ?_, fun {i a C d D} e => ?_, fun {i O} e => ?_, R.uniq, fun {a o} m => ?_, sub, nt⟩
  · obtain ⟨v, h1, h2⟩ := R.sh e
    exact ⟨v, h1, h2.mono s⟩
  · obtain ⟨h1, h2, o, h3, h4⟩ := R.ob e
    obtain ⟨k1, k2⟩ := keep a (.inl ⟨i, c, e⟩)
    exact ⟨h1, k2, o, by rw [k1]; exact h3, h4.mono s⟩
  · obtain ⟨h1, v, h2, h3⟩ := R.exc e
    exact ⟨h1, v, s.1 _ _ h2 (fun _ z => nomatch z), h3.mono s⟩
  · obtain ⟨f, h1, h2⟩ := R.ask e
    exact ⟨f, h1, h2.mono s⟩
  · obtain ⟨h1, h2, h3, h4⟩ := R.ex m
    obtain ⟨k1, k2⟩ := keep a (.inr ⟨o, m⟩)
    exact ⟨by rw [k1]; exact h1, k2, h3, h4⟩
theorem LamUp.ex {T : Tb} {G H G1 H1 : Hp} (u : LamUp P G H G1 H1) (t : Tg G T) (hP : P ≠ T.P) (tn : TabsN T.L G1) : Ex T G G1 := ⟨u.ext, by
  obtain ⟨⟨ps, h1, h2⟩, _⟩ := t
  exact ⟨ps, u.keepG _ _ (Ne.symm hP) h1, h2⟩, tn⟩
theorem LamUp.rep {G1 H1 : Hp} (u : LamUp P G H G1 H1) (t : Tg G K.T) (hm : ∃ nm, (P, nm) ∈ K.T.L) (hP : P ≠ K.T.P) (tn : TabsN K.T.L G1) (R : Rep K F G ρ σ H) : Rep K F G1 ρ σ H1 := by
  obtain ⟨nm, hm⟩ := hm
  obtain ⟨ps, tG, _⟩ := (show TabN G P nm from t.2 _ hm)
  have go : ∀ {b o}, H b = some o → G b = none → H1 b = H b ∧ G1 b = none := fun {b o} e g => by
    have nP : b ≠ P := fun z => by rw [z, tG] at g; cases g
    refine ⟨by rw [e, u.keep b o nP e], ?_⟩
    cases q : G1 b with
    | none => rfl
    | some x =>
      rcases u.new b x q with z | z
      · exact absurd g z
      · rw [e] at z; cases z
  refine R.pastC (u.ex t hP tn) u.sub (fun b o e => (u.nt b o e).elim (R.nt b o) id) fun b w => ?_
  rcases w with ⟨i, c, e⟩ | ⟨o, m⟩
  · obtain ⟨_, h2, o, h3, _⟩ := R.ob e
    exact go h3 h2
  · obtain ⟨h1, h2, _⟩ := R.ex m
    exact go h1 h2
end
section
variable {Z : Zw} {T : Tb} {G G' H H' : Hp} {as : List Addr} {v : V} {D : PyData}
theorem dels_out {b : Addr} (h : b ∉ as) : dels as G b = G b := if_neg h
theorem cell_nt {ob : Obj} (ps : Array Value) : CellF ob ≠ .tbl ps := fun z => nomatch z
/-- cells stand at as -/
def CellsP (G : Hp) (as : List Addr) : Prop := ∀ a ∈ as, ∃ ob, G a = some (CellF ob)
theorem CellsP.ext (h : CellsP G as) (x : ExtN G G') : CellsP G' as := fun a m => by
  obtain ⟨ob, e⟩ := h a m
  exact ⟨ob, x a _ e cell_nt⟩
theorem CellsP.keep {b : Addr} {o : HO} (h : CellsP G as) (e : G b = some o) (n : ∀ ob, o ≠ CellF ob) : dels as G b = some o := by
  rw [dels_out fun m => ?_]
  · exact e
  · obtain ⟨ob, e2⟩ := h b m
    rw [e] at e2
    exact n ob (Option.some.inj e2)
theorem Tg.dels (t : Tg G T) (h : CellsP G as) : Tg (dels as G) T := by
  obtain ⟨⟨ps, h1, h2⟩, t2⟩ := t
  refine ⟨⟨ps, h.keep h1 (fun ob z => nomatch z), h2⟩, fun p hp => ?_⟩
  obtain ⟨qs, a, b, c⟩ := t2 p hp
  refine ⟨qs, h.keep a (fun ob z => nomatch z), b, fun pos cv hc => ?_⟩
  obtain ⟨d, e1, e2⟩ := c pos cv hc
  exact ⟨d, e1, h.keep e2 (fun ob z => nomatch z)⟩
mutual
/-- where no functions are data: cells may be taken away -/
theorem Dw.but (hst : ∀ s, Z.T.st s = none) : ∀ {G G' : Hp} {v : V} {D : PyData}, (∀ b o, G b = some o → (∀ ob, o ≠ CellF ob) → G' b = some o) → Dw Z G v D → Dw Z G' v D
  | _, _, _, _, _, .non => .non
  | _, _, _, _, _, .bl b => .bl b
  | _, _, _, _, _, .int b => .int b
  | _, _, _, _, _, .str b => .str b
  | _, _, _, _, x, .lst a b => .lst (a.imp (fun q => q.imp (fun q => x _ _ q fun _ z => nomatch z) fun ⟨o, q⟩ => ⟨o, x _ _ q fun _ z => nomatch z⟩) _root_.id) (DwAll.but hst x b)
  | _, _, _, _, x, .tup a b => .tup (a.imp (fun q => q.imp (fun q => x _ _ q fun _ z => nomatch z) fun ⟨o, q⟩ => ⟨o, x _ _ q fun _ z => nomatch z⟩) _root_.id) (DwAll.but hst x b)
  | _, _, _, _, x, .dic a b => .dic (x _ _ a (fun _ z => nomatch z)) (DwKV.but hst x b)
  | _, _, _, _, x, .clo a b => by
    obtain ⟨sc, cl, c, h, _⟩ := a.ex
    rw [hst] at h
    cases h
theorem DwAll.but (hst : ∀ s, Z.T.st s = none) : ∀ {G G' : Hp} {vs : List V} {Ds : List PyData}, (∀ b o, G b = some o → (∀ ob, o ≠ CellF ob) → G' b = some o) → DwAll Z G vs Ds → DwAll Z G' vs Ds
  | _, _, _, _, _, .nil => .nil
  | _, _, _, _, x, .cons a b => .cons (Dw.but hst x a) (DwAll.but hst x b)
theorem DwKV.but (hst : ∀ s, Z.T.st s = none) : ∀ {G G' : Hp} {es : List DictEntry} {kvs : List (PyData × PyData)}, (∀ b o, G b = some o → (∀ ob, o ≠ CellF ob) → G' b = some o) → DwKV Z G es kvs → DwKV Z G' es kvs
  | _, _, _, _, _, .nil => .nil
  | _, _, _, _, x, .cons r1 r2 h a b n c => .cons r1 r2 h (Dw.but hst x a) (Dw.but hst x b) n (DwKV.but hst x c)
end
end
/-- what is told of a lambda by its words alone: its names N, its parameters, what it captured fr from the slots js, its reading -/
structure LamIs (P : Tb) (X : Cx) (k : Nat) (N ps fr : List Str) (js : List Nat) (t : EK → DTE) (params : Arguments) (body : Expr) (scope : Scope) : Prop where
  S : NScope N ps fr scope
  free : ∀ y ∈ scope.names, y.2 = .free → X.env.scope.names.lookup y.1 = some .cell
  sup : ∀ y, y ∈ fr → (y, NameKind.free) ∈ scope.names
  at_ : js.map (fun j => X.N[j]?) = fr.map some
  hb : ∀ (q : Str) (cl : List (Str × Addr)) (pm cv ctv : Value) (us : List Value), us.length = ps.length → bindArgs (PySem.W.kla_fn "<lambda>" q params body scope cl pm cv ctv) ⟨us, []⟩ = pure (ps.zip us)
  body : ∀ (c f : Addr) (A : Around) (outer : List Env) (s1 : Shared) (H1 : Hp) (E : XK) (G0 : Hp) (er : EK), ErrL (zOf X P) G0 E er → Room k (A.deeper (envF (lamF X params scope c) f s1.heap.objs.size)) → (A.deeper (envF (lamF X params scope c) f s1.heap.objs.size)).guards = some [] →
    DE P G0 0 (ncx (L2.CX X.prog X.w) X.prog X.w X.K X.mg X.base N (lamF X params scope c) f A outer s1 H1 E) body (t er)
def cpLc : Cp → Lc
  | .dat D => .sh D
  | .fn k W => .ask (.fn k W)
  | .bx => .ask .bx
def lamSto (N : List Str) (Ds : List PyData) (cs : List Cp) : Sto := Ds.map .sh ++ (cs.map cpLc ++ List.replicate (N.length - Ds.length - cs.length) .un)
/-- what a lambda comes to -/
def lamW (N : List Str) (m : Nat) (t : EK → DTE) : LW2 := fun cs Ds R => Ds.length = m ∧ t (fun er => R (.err er.1 er.2)) (lamSto N Ds cs) (fun D _ => R (.told D))
theorem dwAll_len {Z : Zw} : ∀ {G : Hp} {vs : List V} {Ds : List PyData}, DwAll Z G vs Ds → vs.length = Ds.length
  | _, _, _, .nil => rfl
  | _, _, _, .cons _ b => congrArg Nat.succ (dwAll_len b)
theorem dwAll_at {Z : Zw} : ∀ {G : Hp} {vs : List V} {Ds : List PyData} {i : Nat} {D : PyData}, DwAll Z G vs Ds → Ds[i]? = some D → ∃ v, vs[i]? = some v ∧ Dw Z G v D
  | _, _, _, _, _, .nil, e => by simp at e
  | _, _, _, 0, _, .cons a _, e => by cases e; exact ⟨_, rfl, a⟩
  | _, _, _, i + 1, _, .cons _ b, e => by
    obtain ⟨v, h1, h2⟩ := dwAll_at (i := i) b (by simpa using e)
    exact ⟨v, by simpa using h1, h2⟩
theorem paired_len {α β : Type} {p : α → β → Prop} : ∀ {l : List α} {m : List β}, Paired p l m → l.length = m.length
  | _, _, .nil => rfl
  | _, _, .cons _ b => congrArg Nat.succ (paired_len b)
theorem paired_get {α β : Type} {p : α → β → Prop} : ∀ {l : List α} {m : List β} {i : Nat} {b : β}, Paired p l m → m[i]? = some b → ∃ a, l[i]? = some a ∧ p a b
  | _, _, _, _, .nil, e => by simp at e
  | _, _, 0, _, .cons h _, e => by cases e; exact ⟨_, rfl, h⟩
  | _, _, i + 1, _, .cons _ t, e => by
    obtain ⟨a, h1, h2⟩ := paired_get (i := i) t (by simpa using e)
    exact ⟨a, by simpa using h1, h2⟩
theorem cellsU_len {K : Zw} {G : Hp} {h : Heap} {H : Hp} : ∀ {as : List Addr} {cs : List Cp}, CellsU K G h H as cs → as.length = cs.length
  | [], [], _ => rfl
  | _ :: _, _ :: _, q => congrArg Nat.succ (cellsU_len q.2)
theorem cellsU_at {K : Zw} {G : Hp} {h : Heap} {H : Hp} : ∀ {as : List Addr} {cs : List Cp}, CellsU K G h H as cs → ∃ ws : List V, Paired (CpOk K G) ws cs ∧ ∀ (i : Nat) (a : Addr), as[i]? = some a → H a = none ∧ ∃ v u, ws[i]? = some v ∧ h.IsCell a (some u) ∧ RelV v u
  | [], [], _ => ⟨[], .nil, fun i a e => by simp at e⟩
  | a :: as, c :: cs, ⟨⟨n, v, u, ic, r, cp⟩, q⟩ => by
    obtain ⟨ws, p, k⟩ := cellsU_at q
    refine ⟨v :: ws, .cons cp p, fun i b e => ?_⟩
    cases i with
    | zero =>
      have e : some a = some b := e
      cases e
      exact ⟨n, v, u, rfl, ic, r⟩
    | succ i => simpa using k i b (by simpa using e)
section
variable {P : Tb} {X : Cx} {k : Nat} {N ps fr : List Str} {js : List Nat} {t : EK → DTE} {params : Arguments} {body : Expr} {scope : Scope}
theorem js_at {X : Cx} {fr : List Str} {js : List Nat} (h : js.map (fun j => X.N[j]?) = fr.map some) {i : Nat} {y : Str} (e : fr[i]? = some y) : ∃ j, js[i]? = some j ∧ X.N[j]? = some y := by
  have e2 : (js.map fun j => X.N[j]?)[i]? = some (some y) := by
    rw [h, List.getElem?_map, e] <;> rfl
  rw [List.getElem?_map] at e2
  cases ej : js[i]? with
  | none => rw [ej] at e2; cases e2
  | some j =>
    rw [ej] at e2
    exact ⟨j, rfl, Option.some.inj (show some (X.N[j]?) = some (some y) from e2)⟩
theorem ca_at {X : Cx} {j : Nat} {y : Str} {c : Addr} (h : X.N[j]? = some y) (e : X.env.cells.lookup y = some c) : caOf X j = c := by
  unfold caOf
  rw [h]
  show ((X.env.cells.lookup y).getD 0) = c
  rw [e]
  rfl
theorem lamOk_of (LI : LamIs P X k N ps fr js t params body scope) (ok : X.Ok) {c f : Addr} {G : Hp} (h1 : G f = some (LmO f (lamF X params scope c) body)) (h2 : G c = some (CodeO c (X.env.qual ++ "<lambda>"))) : LamOk (zOf X P) G f (k + 1) (js.map (caOf X)) (lamW N ps.length t) := by
  refine ⟨.inl ⟨_, h1, fun h ⟨pm, ctv, z⟩ => ⟨_, _, _, _, z⟩⟩, fun A outer s H G1 us vs Ds cs R Q E hr hg e0 x sub nt cu r dw w hR => ?_⟩
  have h1 := sub _ _ (x.1 _ _ h1 (fun ps z => nomatch z))
  have h2 := sub _ _ (x.1 _ _ h2 (fun ps z => nomatch z))
  have cp : Caps X (cloFrom X.env.cells scope.names []) fr js := Caps.made ok (fun y hy e => .inl (LI.free y hy e)) LI.sup LI.at_
  obtain ⟨ws, pc, cw⟩ := cellsU_at cu
  have lj : js.length = fr.length := by
    have q := congrArg List.length LI.at_
    rwa [List.length_map, List.length_map] at q
  have lc : ws.length = cs.length := paired_len pc
  have lcs : cs.length = fr.length := by rw [← cellsU_len cu, List.length_map, lj]
  have C : CellsAt (lamF X params scope c).cl fr (ws.map some) s.heap H := by
    have one : ∀ (i : Nat) (y : Str), fr[i]? = some y → ∃ a v u, (cloFrom X.env.cells scope.names []).lookup y = some a ∧ H a = none ∧ ws[i]? = some v ∧ s.heap.IsCell a (some u) ∧ RelV v u := fun i y e => by
      obtain ⟨j, hj, hy⟩ := js_at LI.at_ e
      have ky : X.env.scope.names.lookup y = some .cell := LI.free (y, .free) (LI.sup y (List.mem_of_getElem? e)) rfl
      obtain ⟨a, ha⟩ := ok.has y (.inl ky)
      obtain ⟨n, v, u, g1, g2, g3⟩ := cw i a (by rw [List.getElem?_map, hj]; exact congrArg some (ca_at hy ha))
      exact ⟨a, v, u, cp.sup y (List.mem_of_getElem? e) a ha, n, g1, g2, g3⟩
    refine ⟨by rw [List.length_map]; omega, fun y a e => ?_, fun x y a e1 e2 => ok.inj x y a (cp.sub x a e1) (cp.sub y a e2), fun i y e => ?_⟩
    · have m : y ∈ fr := by
        rcases cloFrom_mem (PySem.mem_of_lookup e) with hm | ⟨h1, _⟩
        · cases hm
        · exact LI.S.free _ h1 rfl
      obtain ⟨i, hi⟩ := List.mem_iff_getElem?.mp m
      obtain ⟨a', v, u, g1, g2, g3, g4, g5⟩ := one i y hi
      have e' : (cloFrom X.env.cells scope.names []).lookup y = some a := e
      rw [g1] at e'
      cases e'
      exact ⟨g2, _, g4⟩
    · obtain ⟨a', v, u, g1, g2, g3, g4, g5⟩ := one i y e
      refine ⟨a', g1, fun v' ev => ?_⟩
      rw [List.getElem?_map, g3] at ev
      cases ev
      exact ⟨u, g5, g4⟩
  have hE : ErrL (zOf X P) G1 E (fun er => R (.err er.1 er.2)) := fun C2 D d v G' H' q s2 sb n2 xd dv => hR _ q d v G' H' s2 sb n2 xd dv
  obtain ⟨lm, w⟩ := w
  have ld := dwAll_len dw
  have lu : us.length = ps.length := by rw [← r.length, ld, lm]
  have lim : s.heap.NoLimit := e0.mod.nolimit.keeps fun b o e => (e0.bs b o e).1
  obtain ⟨⟨pm, ctv, ho⟩, _, _⟩ := e0.hok f _ h1
  obtain ⟨⟨oc, wv, tk, c1, c2, c3⟩, _, _⟩ := e0.hok c _ h2
  refine PySem.W.kla_callFunE hr.depth ho rfl LI.S.co LI.S.gen rfl ⟨c, oc, wv, tk, rfl, c1, c2, c3⟩ ?_
  rw [LI.hb _ _ pm _ ctv us lu]
  refine wpAny_pure (wpAny_newFunctionEnv LI.S.nocell (fun y hy => LI.S.par y.1 (List.of_mem_zip hy).1) (fun h1 hns hsb => ⟨lim.fresh _ hsb, ?_⟩) LI.S.kind)
  have kp : ∀ b o, s.heap.get? b = some o → h1.get? b = some o := fun b o e => hsb.extBut b o (Nat.ne_of_lt (Heap.lt_size e)) (Heap.get?_push_of_some _ e)
  have I := inv_startN (CX := L2.CX X.prog X.w) (E := E) (f := f) (tk := s.toks + (ps.zip us).length) LI.S hr.hd e0 (ld.trans lm) r C hns kp
  have pe := LI.body c f A outer s H E G1 _ hE (hr.deeper _) hg
  have at_ : ∀ {i : Nat} {lc : Lc}, (lamSto N Ds cs)[i]? = some lc → lc ≠ .un → (∃ D, lc = .sh D ∧ Ds[i]? = some D) ∨ (∃ c, lc = cpLc c ∧ Ds.length ≤ i ∧ cs[i - Ds.length]? = some c) := fun {i lc} e n => by
    unfold lamSto at e
    rw [← List.append_assoc] at e
    have e2 := un_of e n
    by_cases z : i < Ds.length
    · rw [List.getElem?_append_left (by rw [List.length_map]; exact z), List.getElem?_map] at e2
      cases e3 : Ds[i]? with
      | none => rw [e3] at e2; cases e2
      | some D => rw [e3] at e2; exact .inl ⟨D, (Option.some.inj e2).symm, rfl⟩
    · rw [List.getElem?_append_right (by rw [List.length_map]; omega), List.length_map, List.getElem?_map] at e2
      cases e3 : cs[i - Ds.length]? with
      | none => rw [e3] at e2; cases e2
      | some D => rw [e3] at e2; exact .inr ⟨D, (Option.some.inj e2).symm, by omega, rfl⟩
  have sl : ∀ {i : Nat} {v : V}, vs[i]? = some v → (startF N vs (ws.map some))[i]? = some (some v) := fun {i v} e => by
    unfold startF
    rw [List.getElem?_append_left (by rw [List.length_map]; exact (List.getElem?_eq_some_iff.mp e).1), List.getElem?_map, e]
    rfl
  have sr : ∀ {i : Nat} {v : V}, Ds.length ≤ i → ws[i - Ds.length]? = some v → (startF N vs (ws.map some))[i]? = some (some v) := fun {i v} l e => by
    have lt := (List.getElem?_eq_some_iff.mp e).1
    have e1 : (vs.map some).length = Ds.length := by rw [List.length_map, ld]
    unfold startF
    rw [List.getElem?_append_right (by rw [e1]; exact l), e1, List.getElem?_append_left (by rw [List.length_map]; exact lt), List.getElem?_map, e]
    rfl
  refine PySem.W.kla_codeExpr (wpAny_mono (pe.run [] _ _ H Q I ⟨[], lamSto N Ds cs, G1, _, Ex.refl x.2, ⟨?_, fun {i D} e => ?_, fun {i a c} e => ?_, fun {i a C d D} e => ?_, fun {i O} e => ?_, fun {i j a c c'} e => ?_, fun m => absurd m List.not_mem_nil, sub, nt⟩, w, fun D ρ' v G' H' q2 s2 al R d => hR _ q2 v G' H' s2 R.sub R.nt d⟩) (fun v s' h => ?_) fun e s' h => h)
  · unfold startF lamSto
    rw [List.length_append, List.length_append, List.length_append, List.length_append, List.length_map, List.length_map, List.length_map, List.length_map, List.length_replicate, List.length_replicate]
    omega
  · rcases at_ e (fun z => nomatch z) with ⟨D', z, e2⟩ | ⟨c', z, l, e2⟩
    · cases z
      obtain ⟨v, h3, h4⟩ := dwAll_at dw e2
      exact ⟨v, sl h3, h4⟩
    · cases c' with
      | fn _ _ => cases z
      | bx => cases z
      | dat D' =>
        cases z
        obtain ⟨v, h3, h4⟩ := paired_get pc e2
        exact ⟨v, sr l h3, h4⟩
  · rcases at_ e (fun z => nomatch z) with ⟨D', z, e2⟩ | ⟨c', z, l, e2⟩
    · cases z
    · cases c' <;> cases z
  · rcases at_ e (fun z => nomatch z) with ⟨D', z, e2⟩ | ⟨c', z, l, e2⟩
    · cases z
    · cases c' <;> cases z
  · rcases at_ e (fun z => nomatch z) with ⟨D', z, e2⟩ | ⟨c', z, l, e2⟩
    · cases z
    · cases c' with
      | dat _ => cases z
      | fn k2 W2 =>
        cases z
        obtain ⟨v, h3, f2, rfl, h4⟩ := paired_get pc e2
        exact ⟨f2, sr l h3, h4⟩
      | bx =>
        cases z
        obtain ⟨v, h3, f2, rfl, h4⟩ := paired_get pc e2
        exact ⟨f2, sr l h3, h4⟩
  · rcases at_ e (fun z => nomatch z) with ⟨D', z, e2⟩ | ⟨c', z, l, e2⟩
    · cases z
    · cases c' <;> cases z
  obtain ⟨v', H', J, rv, q⟩ := h
  exact ⟨v', H', J.os, J.bare, J.base, J.hok, rv, q⟩
end
end Dl
set_option Elab.async false
set_option linter.all false
set_option maxRecDepth 100000
set_option maxHeartbeats 4000000
namespace Dl
open PySem PySem.Spec PyProof PyProof.Rows L2 So Da SoC LamX NdefX
/-- cells that are known hold this -/
def CellsK (G : Hp) (as : List Addr) (vs : List V) : Prop := as.length = vs.length ∧ ∀ (i : Nat) (a : Addr), as[i]? = some a → ∃ v u ob, vs[i]? = some v ∧ G a = some (CellF ob) ∧ ob.data = .cell (some u) ∧ RelV v u
theorem CellsK.cp {G : Hp} {as : List Addr} {vs : List V} (C : CellsK G as vs) : CellsP G as := fun a m => by
  obtain ⟨i, hi⟩ := List.mem_iff_getElem?.mp m
  obtain ⟨v, u, ob, _, h, _⟩ := C.2 i a hi
  exact ⟨ob, h⟩
theorem cellsU_of {K : Zw} {G : Hp} {h : Heap} {H : Hp} : ∀ {as : List Addr} {vs : List V} {cs : List Cp}, as.length = vs.length → Paired (CpOk K G) vs cs → (∀ (i : Nat) (a : Addr), as[i]? = some a → H a = none ∧ ∃ v u, vs[i]? = some v ∧ h.IsCell a (some u) ∧ RelV v u) → CellsU K G h H as cs
  | [], [], [], _, _, _ => trivial
  | a :: as, v :: vs, c :: cs, l, .cons p q, k => by
    obtain ⟨n, v', u, e1, e2, e3⟩ := k 0 a rfl
    have e1 : some v = some v' := e1
    cases e1
    exact ⟨⟨n, v, u, e2, e3, p⟩, cellsU_of (Nat.succ.inj l) q fun i b e => by simpa using k (i + 1) b (by simpa using e)⟩
  | [], _ :: _, _, l, _, _ => nomatch l
  | _ :: _, [], _, l, _, _ => nomatch l
  | [], [], _ :: _, _, q, _ => nomatch q
  | _ :: _, _ :: _, [], _, q, _ => nomatch q
section
variable {Z : Zw}
/-- a function whose cells are known stands for good -/
theorem askOk_of {f : Addr} {k : Nat} {G Gc : Hp} {as : List Addr} {vs : List V} {cs : List Cp} {W : LW2} (L : LamOk Z G f k as W) (x : Ex Z.T G Gc) (C : CellsK Gc as vs) (nG : ∀ a ∈ as, G a = none) (cp : Paired (CpOk Z (dels as Gc)) vs cs) (hst : ∀ s, Z.T.st s = none) : AskOk Z Gc f k (W cs) := by
  refine ⟨L.fn.ext x.1, fun A outer s H G1 us ws Ds R Q E hr hg e0 x1 sub nt r dw w hR => ?_⟩
  have cp1 : CellsP G1 as := C.cp.ext x1.1
  have cH : ∀ a ∈ as, ∃ ob, H a = some (CellF ob) := fun a m => by
    obtain ⟨ob, e⟩ := cp1 a m
    exact ⟨ob, sub _ _ e⟩
  have M : Msk (frs outer) as noCo H s.heap := ⟨fun b m => by
    obtain ⟨ob, e⟩ := cH b m
    exact ⟨_, e, lcl_frz lcl_ext⟩, fun b ob e => nomatch e⟩
  have e0' : Env0 Z.Pg Z.w Z.K Z.mg Z.base A outer s (mask as noCo H) := mask_env M (fun b ob e => nomatch e) e0
  have t1 : Tg (dels as G1) Z.T := x1.2.dels cp1
  have exD : Ex Z.T (dels as Gc) (dels as G1) := ⟨dels_ext x1.1, t1⟩
  have exG : Ex Z.T G (dels as G1) := ⟨(fun b o e n => by
    rw [dels_out fun m => ?_]
    · exact x1.1 b o (x.1 b o e n) n
    · rw [nG b m] at e
      exact nomatch e), t1⟩
  have subD : Sub (dels as G1) (mask as noCo H) := fun b o e => by
    unfold dels at e
    split at e
    · cases e
    · rename_i m
      rw [mask_out m rfl]
      exact sub b o e
  have ntD : NT (dels as G1) := fun b o e => by
    unfold dels at e
    split at e
    · cases e
    · exact nt b o e
  have cu : CellsU Z (dels as G1) s.heap (mask as noCo H) as cs := cellsU_of C.1 (paired_imp (fun a b h => CpOk.mono exD h) cp) fun i a e => by
    obtain ⟨v, u, ob, g1, g2, g3, g4⟩ := C.2 i a e
    have e2 := sub _ _ (x1.1 a _ g2 cell_nt)
    exact ⟨mask_in (List.mem_of_getElem? e), v, u, g1, ⟨ob, (e0.hok a _ e2).1, g3⟩, g4⟩
  have nn : ∀ {G' H2 : Hp}, Sub G' H2 → Bck as noCo H2 → ∀ b ∈ as, G' b = none := fun {G' H2} sb bk b m => by
    cases e : G' b with
    | none => rfl
    | some o =>
      have := sb b o e
      rw [bk.gone b m] at this
      cases this
  let back : Hp → Hp := fun G' b => if b ∈ as then G1 b else G' b
  have bin : ∀ {G' : Hp} {b}, b ∈ as → back G' b = G1 b := fun m => if_pos m
  have bout : ∀ {G' : Hp} {b}, b ∉ as → back G' b = G' b := fun m => if_neg m
  have bext : ∀ {G' H2 : Hp}, Sub G' H2 → Bck as noCo H2 → ∀ b o, G' b = some o → back G' b = some o := fun {G' H2} sb bk b o e => by
    rw [bout fun m => ?_]
    · exact e
    · rw [nn sb bk b m] at e
      cases e
  have bEx : ∀ {G' H2 : Hp}, Ex Z.T (dels as G1) G' → Sub G' H2 → Bck as noCo H2 → Ex Z.T G1 (back G') := fun {G' H2} s2 sb bk => ⟨fun b o e n => by
    by_cases m : b ∈ as
    · rw [bin m]
      exact e
    · rw [bout m]
      exact s2.1 b o (by rw [dels_out m]; exact e) n, s2.2.ext (bext sb bk)⟩
  have bSub : ∀ {G' H2 : Hp}, Sub G' H2 → Sub (back G') (unmask as noCo H H2) := fun {G' H2} sb b o e => by
    by_cases m : b ∈ as
    · rw [bin m] at e
      rw [unmask_in m]
      exact sub b o e
    · rw [bout m] at e
      rw [unmask_out m rfl]
      exact sb b o e
  have bNt : ∀ {G' : Hp}, NT G' → NT (back G') := fun {G'} n b o e => by
    by_cases m : b ∈ as
    · rw [bin m] at e
      exact nt b o e
    · rw [bout m] at e
      exact n b o e
  refine codeAny_mono (L.run A outer s (mask as noCo H) (dels as G1) us ws Ds cs R (fun v H2 => Bck as noCo H2 → Q v (unmask as noCo H H2)) (fun cls d H2 => Bck as noCo H2 → E cls d (unmask as noCo H H2)) hr hg e0' exG subD ntD cu r (DwAll.but hst (fun b o e n => cp1.keep e n) dw) w fun o ho => ?_) fun z s' hq => ?_
  · have h := hR o ho
    cases o with
    | told D => exact fun v G' H' s2 sb n2 d bk => h v (back G') _ (bEx s2 sb bk) (bSub sb) (bNt n2) (d.ext (ExtN.of (bext sb bk)))
    | err C2 D => exact fun d v G' H' s2 sb n2 xd dv bk => h d v (back G') _ (bEx s2 sb bk) (bSub sb) (bNt n2) (bext sb bk _ _ xd) (dv.ext (ExtN.of (bext sb bk)))
  · match z, hq with
    | .error e, hq => exact cx_unmask M e0.hok e0.frf hq fun cls d H2 q g => q g
    | .ok (.ret u), ⟨v, H2, os, bare, un, hok, rv, z⟩ =>
      have bk := bck_of M e0.hok un
      exact ⟨v, unmask as noCo H H2, os, bare, unmask_un M e0.hok un hok, unmask_ok M e0.hok bk hok fun c m o g => un.keep c o g (mask_in m) (fun m2 => by
        obtain ⟨o, e, _⟩ := M.hid c m
        rw [e0.frf c m2] at e
        cases e) (fun z => nomatch z), rv, z bk⟩
end
/-- a def that calls what it is given, without arguments, once, and answers by what that comes to -/
def heardT (j : Nat) (TH : Out → (PyData → Prop) → Prop) : TD := fun as Q _ => ∃ k W R, as = [.ask (.fn k W)] ∧ k ≤ j ∧ W [] R ∧ ∀ o, R o → TH o fun D => Q D [.ask (.fn k W)]
def slotsD (ρ : Sto) : List Nat → (List PyData → Prop) → Prop
  | [], k => k []
  | j :: js, k => match ρ[j]? with
    | some (.sh D) => slotsD ρ js fun Ds => k (D :: Ds)
    | _ => False
/-- what the slots js hold, as a lambda sees it; js0: all that it captured, ja: all slots that are cells -/
def capsD (ca : Nat → Addr) (js0 ja : List Nat) (ρ : Sto) : List Nat → (List Cp → Prop) → Prop
  | [], k => k []
  | j :: js, k => match ρ[j]? with
    | some (.sh D) => capsD ca js0 ja ρ js fun cs => k (.dat D :: cs)
    | some (.ask (.fn i W)) => capsD ca js0 ja ρ js fun cs => k (.fn i W :: cs)
    | some (.ask .bx) => capsD ca js0 ja ρ js fun cs => k (.bx :: cs)
    | some (.ask (.lam ca2 js2 W)) => (ca2 = ca ∧ ∀ j ∈ js2, j ∈ ja ∧ j ∉ js0) ∧ slotsD ρ js2 fun Ds => capsD ca js0 ja ρ js fun cs => k (.fn aL (W (Ds.map .dat)) :: cs)
    | _ => False
def dHeard (ca : Nat → Addr) (js ja : List Nat) (W : LW2) (TH : Out → (PyData → Prop) → Prop) : DTE := fun ρ Q => capsD ca js ja ρ js fun cs => W cs [] fun o => TH o fun D => Q D ρ
theorem slotsD_of {K : Zw} {F : List (Addr × HO)} {G H : Hp} {ρ : Sto} {σ : L2.St} (R : Rep K F G ρ σ H) : ∀ {js : List Nat} {k : List PyData → Prop}, slotsD ρ js k → ∃ Ds vs, k Ds ∧ vs.length = js.length ∧ DwAll K G vs Ds ∧ ∀ (i j : Nat), js[i]? = some j → ∃ v, vs[i]? = some v ∧ σ[j]? = some (some v)
  | [], k, h => ⟨[], [], h, rfl, .nil, fun i j e => by simp at e⟩
  | j :: js, k, h => by
    unfold slotsD at h
    split at h
    · rename_i D e
      obtain ⟨Ds, vs, h1, h2, h3, h4⟩ := slotsD_of R h
      obtain ⟨v, e1, e2⟩ := R.sh e
      refine ⟨D :: Ds, v :: vs, h1, congrArg Nat.succ h2, .cons e2 h3, fun i j' e' => ?_⟩
      cases i with
      | zero =>
        have e' : some j = some j' := e'
        cases e'
        exact ⟨v, rfl, e1⟩
      | succ i =>
        obtain ⟨v', g1, g2⟩ := h4 i j' (by simpa using e')
        exact ⟨v', by simpa using g1, g2⟩
    · exact h.elim
theorem nd_at {α : Type} : ∀ {l : List α} {i j : Nat} {x : α}, l.Nodup → l[i]? = some x → l[j]? = some x → i = j
  | [], _, _, _, _, e, _ => by simp at e
  | _ :: _, 0, 0, _, _, _, _ => rfl
  | a :: l, 0, j + 1, x, nd, e, e' => by
    have e : some a = some x := e
    cases e
    have e' : l[j]? = some a := by simpa using e'
    exact absurd (List.mem_of_getElem? e') (List.nodup_cons.mp nd).1
  | a :: l, i + 1, 0, x, nd, e, e' => by
    have e' : some a = some x := e'
    cases e'
    have e : l[i]? = some a := by simpa using e
    exact absurd (List.mem_of_getElem? e) (List.nodup_cons.mp nd).1
  | a :: l, i + 1, j + 1, x, nd, e, e' => congrArg Nat.succ (nd_at (List.nodup_cons.mp nd).2 (by simpa using e) (by simpa using e'))
theorem dat_paired {K : Zw} : ∀ {G : Hp} {vs : List V} {Ds : List PyData}, DwAll K G vs Ds → Paired (CpOk K G) vs (Ds.map .dat)
  | _, _, _, .nil => .nil
  | _, _, _, .cons a b => .cons a (dat_paired b)
section
variable {P : Tb} {X : Cx}
/-- the cells that are shown, among them those of the slots js -/
theorem shown_at {σ : L2.St} {ja : List Nat} {co : Addr → Option Obj} (sh : Shown X σ ja co) {j : Nat} {v : V} (hj : CellJ X ja) (m : j ∈ ja) (e : σ[j]? = some (some v)) : ∃ u ob, co (caOf X j) = some ob ∧ ob.data = .cell (some u) ∧ RelV v u := by
  obtain ⟨y, hy, _, _⟩ := hj j m
  obtain ⟨c, ob, h1, h2, x, h3, h4⟩ := sh.at_ j m y hy
  obtain ⟨u, rfl, r⟩ := h4 v e
  exact ⟨u, ob, by rw [ca_at hy h1]; exact h2, h3, r⟩
theorem cellsK_shown {σ : L2.St} {ja js : List Nat} {co : Addr → Option Obj} {Gc : Hp} {vs : List V} (sh : Shown X σ ja co) (hj : CellJ X ja) (sb : ∀ j ∈ js, j ∈ ja) (lv : vs.length = js.length) (hv : ∀ (i j : Nat), js[i]? = some j → ∃ v, vs[i]? = some v ∧ σ[j]? = some (some v)) (gco : ∀ b ob, co b = some ob → Gc b = some (CellF ob)) : CellsK Gc (js.map (caOf X)) vs := by
  refine ⟨by rw [List.length_map, lv], fun i a e => ?_⟩
  rw [List.getElem?_map] at e
  cases ej : js[i]? with
  | none => rw [ej] at e; cases e
  | some j =>
    rw [ej] at e
    cases e
    obtain ⟨v, h1, h2⟩ := hv i j ej
    obtain ⟨u, ob, h3, h4, h5⟩ := shown_at sh hj (sb j (List.mem_of_getElem? ej)) h2
    exact ⟨v, u, ob, h1, gco _ _ h3, h4, h5⟩
/-- what is captured, as it stands where the cells are known -/
theorem caps_of (ok : X.Ok) (hN : X.N.Nodup) {σ : L2.St} {ja js0 : List Nat} {co : Addr → Option Obj} {F : List (Addr × HO)} {G Gc H : Hp} {ρ : Sto} {ca : Nat → Addr} (hca : ca = caOf X) (R : Rep (zOf X P) F G ρ σ H) (sh : Shown X σ ja co) (hj : CellJ X ja) (hst : ∀ s, P.st s = none) (s0 : ∀ j ∈ js0, j ∈ ja) (gco : ∀ b ob, co b = some ob → Gc b = some (CellF ob)) (nG : ∀ b ob, co b = some ob → G b = none)
    (x : Ex P G (dels (js0.map (caOf X)) Gc)) : ∀ {js : List Nat} {k : List Cp → Prop}, (∀ j ∈ js, j ∈ js0) → capsD ca js0 ja ρ js k → ∃ cs vs, k cs ∧ vs.length = js.length ∧ Paired (CpOk (zOf X P) (dels (js0.map (caOf X)) Gc)) vs cs ∧ ∀ (i j : Nat), js[i]? = some j → ∃ v, vs[i]? = some v ∧ σ[j]? = some (some v)
  | [], k, _, h => ⟨[], [], h, rfl, .nil, fun i j e => by simp at e⟩
  | j :: js, k, sb, h => by
    have go : ∀ {v : V} {c : Cp}, σ[j]? = some (some v) → CpOk (zOf X P) (dels (js0.map (caOf X)) Gc) v c → capsD ca js0 ja ρ js (fun cs => k (c :: cs)) → ∃ cs vs, k cs ∧ vs.length = (j :: js).length ∧ Paired (CpOk (zOf X P) (dels (js0.map (caOf X)) Gc)) vs cs ∧ ∀ (i j' : Nat), (j :: js)[i]? = some j' → ∃ v, vs[i]? = some v ∧ σ[j']? = some (some v) := fun {v c} ev cv q => by
      obtain ⟨cs, vs, h1, h2, h3, h4⟩ := caps_of ok hN hca R sh hj hst s0 gco nG x (fun j m => sb j (List.mem_cons_of_mem _ m)) q
      refine ⟨c :: cs, v :: vs, h1, congrArg Nat.succ h2, .cons cv h3, fun i j' e' => ?_⟩
      cases i with
      | zero =>
        have e' : some j = some j' := e'
        cases e'
        exact ⟨v, rfl, ev⟩
      | succ i =>
        obtain ⟨v', g1, g2⟩ := h4 i j' (by simpa using e')
        exact ⟨v', by simpa using g1, g2⟩
    unfold capsD at h
    split at h
    · rename_i D e
      obtain ⟨v, e1, e2⟩ := R.sh e
      exact go (c := .dat D) e1 (Dw.mono x e2) h
    · rename_i i W e
      obtain ⟨f, e1, e2⟩ := R.ask e
      exact go (c := .fn i W) e1 ⟨f, rfl, AskOk.mono x e2⟩ h
    · rename_i e
      obtain ⟨f, e1, e2⟩ := R.ask e
      exact go (c := .bx) e1 ⟨f, rfl, x.1 _ _ e2 (fun _ z => nomatch z)⟩ h
    · rename_i ca2 js2 W e
      obtain ⟨⟨rfl, hjs⟩, h⟩ := h
      obtain ⟨f, e1, e2⟩ := R.ask e
      obtain ⟨Ds, vs, h1, h2, h3, h4⟩ := slotsD_of R h
      refine go (c := .fn aL (W (Ds.map .dat))) e1 ⟨f, rfl, ?_⟩ h1
      have e2 : LamOk (zOf X P) G f aL (js2.map ca2) W := e2
      subst hca
      have cell : ∀ j ∈ ja, ∀ v, σ[j]? = some (some v) → ∃ u ob, co (caOf X j) = some ob ∧ ob.data = .cell (some u) ∧ RelV v u := fun j m v e => shown_at sh hj m e
      have inj : ∀ j ∈ ja, ∀ j' ∈ ja, caOf X j = caOf X j' → j = j' := fun j m j' m' e => by
        obtain ⟨y, hy, ky, _⟩ := hj j m
        obtain ⟨y', hy', ky', _⟩ := hj j' m'
        obtain ⟨c, hc⟩ := ok.has y (.inl ky)
        obtain ⟨c', hc'⟩ := ok.has y' (.inl ky')
        rw [ca_at hy hc, ca_at hy' hc'] at e
        subst e
        have := ok.inj y y' c hc hc'
        subst this
        exact nd_at hN hy hy'
      have hk : ∀ (i : Nat) (a : Addr), (js2.map (caOf X))[i]? = some a → ∃ j v u ob, js2[i]? = some j ∧ a = caOf X j ∧ vs[i]? = some v ∧ co a = some ob ∧ ob.data = .cell (some u) ∧ RelV v u := fun i a e => by
        rw [List.getElem?_map] at e
        cases ej : js2[i]? with
        | none => rw [ej] at e; cases e
        | some j =>
          rw [ej] at e
          cases e
          obtain ⟨v, g1, g2⟩ := h4 i j ej
          obtain ⟨u, ob, g3, g4, g5⟩ := cell j (hjs j (List.mem_of_getElem? ej)).1 v g2
          exact ⟨j, v, u, ob, rfl, rfl, g1, g3, g4, g5⟩
      have nin : ∀ a ∈ js2.map (caOf X), a ∉ js0.map (caOf X) := fun a m m2 => by
        obtain ⟨j, mj, rfl⟩ := List.mem_map.mp m
        obtain ⟨j', mj', ej⟩ := List.mem_map.mp m2
        have := inj j' (s0 j' mj') j (hjs j mj).1 ej
        subst this
        exact (hjs _ mj).2 mj'
      have CK : CellsK (dels (js0.map (caOf X)) Gc) (js2.map (caOf X)) vs := ⟨by rw [List.length_map, h2], fun i a e => by
        obtain ⟨j, v, u, ob, g1, rfl, g2, g3, g4, g5⟩ := hk i a e
        exact ⟨v, u, ob, g2, by rw [dels_out (nin _ (List.mem_of_getElem? e))]; exact gco _ _ g3, g4, g5⟩⟩
      have gn2 : ∀ a ∈ js2.map (caOf X), G a = none := fun a m => by
        obtain ⟨i, hi⟩ := List.mem_iff_getElem?.mp m
        obtain ⟨j, v, u, ob, g1, rfl, g2, g3, g4, g5⟩ := hk i a hi
        exact nG _ _ g3
      have exx : LamX.ExtN G (dels (js2.map (caOf X)) (dels (js0.map (caOf X)) Gc)) := fun b o e n => by
        rw [dels_out fun m => ?_]
        · exact x.1 b o e n
        · rw [gn2 b m] at e
          cases e
      have dwx : DwAll (zOf X P) (dels (js2.map (caOf X)) (dels (js0.map (caOf X)) Gc)) vs Ds := h3.ext exx
      exact askOk_of e2 x CK gn2 (dat_paired dwx) hst
    · exact h.elim
end
end Dl
set_option Elab.async false
set_option linter.all false
set_option maxRecDepth 100000
set_option maxHeartbeats 4000000
namespace Dl
open PySem PySem.Spec PyProof PyProof.Rows L2 So Da SoC LamX NdefX
section
variable {P : Tb} {G0 : Hp} {n : Nat} {X : Cx} {ja js : List Nat} {TH : Out → (PyData → Prop) → Prop} {k j : Nat} {f : Addr} {fd : FuncData} {ps : List Str} {x y : Str} {p pos lp : Pos}
/-- the ground with cells shown -/
def shG (co : Addr → Option Obj) (G : Hp) : Hp := fun b => match co b with
  | some ob => some (CellF ob)
  | none => G b
theorem shG_co {co : Addr → Option Obj} {G : Hp} {b : Addr} {ob : Obj} (e : co b = some ob) : shG co G b = some (CellF ob) := by unfold shG; rw [e]
theorem shG_no {co : Addr → Option Obj} {G : Hp} {b : Addr} (e : co b = none) : shG co G b = G b := by unfold shG; rw [e]
/-- the call, its function made or found: some cells shown -/
theorem heard_core {σ : L2.St} {F : List (Addr × HO)} {G H : Hp} {ρ : Sto} {fl : Addr} {kl : Nat} {W : LW2} {Q0 : PyData → Sto → Prop} {Q : VK} {co : Addr → Option Obj} (ok : X.Ok) (hN : X.N.Nodup) (hj : CellJ X ja) (hst : ∀ s, P.st s = none) (t : Tg G P) (R : Rep (zOf X P) F G ρ σ H) (L : LamOk (zOf X P) G fl kl (js.map (caOf X)) W)
    (kl_le : kl ≤ j) (s0 : ∀ i ∈ js, i ∈ ja) (h : dHeard (caOf X) js ja W TH ρ Q0) (kk : Kn (zOf X P) F n Q0 ρ G σ Q) (sh : Shown X σ ja co) (cN : ∀ b ob, co b = some ob → H b = none) :
    (∀ b ∈ hidL F ρ (argsOf ρ []), ∃ o, H b = some o ∧ Lcl o) ∧ spT (zOf X P) (heardT j TH) [.ref fl] (mask (hidL F ρ (argsOf ρ [])) co H) (fun v H2 => Bck (hidL F ρ (argsOf ρ [])) co H2 → Q v (unmask (hidL F ρ (argsOf ρ [])) co H H2)) (fun cls d H2 => Bck (hidL F ρ (argsOf ρ [])) co H2 → False) := by
  obtain ⟨Ls, Rc⟩ := R.call (vs := []) (rs := []) trivial List.nodup_nil
  refine ⟨Ls, ?_⟩
  have noG : ∀ b ob, co b = some ob → G b = none := fun b ob e => R.gnone (cN b ob e)
  have gext : ∀ b o, G b = some o → shG co G b = some o := fun b o e => by
    rw [shG_no]
    · exact e
    · cases q : co b with
      | none => rfl
      | some ob => rw [noG _ _ q] at e; cases e
  have sc : Ex P G (shG co G) := Ex.of t gext
  -- all cells that are shown
  have mem : ∀ a, a ∈ ja.map (caOf X) ↔ ∃ ob, co a = some ob := fun a => ⟨fun m => by
    obtain ⟨i, mi, rfl⟩ := List.mem_map.mp m
    obtain ⟨y, hy, _⟩ := hj i mi
    obtain ⟨c, ob, h1, h2, _⟩ := sh.at_ i mi y hy
    exact ⟨ob, by rw [ca_at hy h1]; exact h2⟩, fun ⟨ob, e⟩ => by
    obtain ⟨i, y, mi, hy, hc⟩ := sh.own a ob e
    exact List.mem_map.mpr ⟨i, mi, ca_at hy hc⟩⟩
  have memS : ∀ a, a ∈ js.map (caOf X) → ∃ ob, co a = some ob := fun a m => (mem a).mp (by
    obtain ⟨i, mi, e⟩ := List.mem_map.mp m
    exact List.mem_map.mpr ⟨i, s0 i mi, e⟩)
  have cpA : CellsP (shG co G) (ja.map (caOf X)) := fun a m => by
    obtain ⟨ob, q⟩ := (mem a).mp m
    exact ⟨ob, shG_co q⟩
  have cpS : CellsP (shG co G) (js.map (caOf X)) := fun a m => by
    obtain ⟨ob, q⟩ := memS a m
    exact ⟨ob, shG_co q⟩
  have xS : Ex P G (dels (js.map (caOf X)) (shG co G)) := ⟨(fun b o e n => by
    rw [dels_out fun m => ?_]
    · exact gext b o e
    · obtain ⟨ob, q⟩ := memS b m
      rw [noG _ _ q] at e
      cases e), sc.2.dels cpS⟩
  obtain ⟨cs, vs, hw, lv, pc, hv⟩ := caps_of ok hN rfl R sh hj hst s0 (fun b ob e => shG_co (G := G) e) noG xS (fun i m => m) h
  have CK := cellsK_shown (Gc := shG co G) sh hj s0 lv hv fun b ob e => shG_co e
  have A : AskOk (zOf X P) (shG co G) fl kl (W cs) := askOk_of L sc CK (fun a m => by
    obtain ⟨ob, q⟩ := memS a m
    exact noG _ _ q) pc hst
  have nhid : ∀ {b o}, G b = some o → b ∉ hidL F ρ (argsOf ρ []) := fun {b o} e m => by
    rcases mem_hidL.mp m with ⟨⟨i, c, z⟩, _⟩ | ⟨o, m⟩
    · rw [(R.ob z).2.1] at e
      cases e
    · rw [(R.ex m).2.1] at e
      cases e
  have M0 : ∀ {b ob}, co b = some ob → b ∉ hidL F ρ (argsOf ρ []) := fun {b ob} e m => by
    obtain ⟨o, q, _⟩ := Ls b m
    rw [cN b ob e] at q
    cases q
  have subc : Sub (shG co G) (mask (hidL F ρ (argsOf ρ [])) co H) := fun b o e => by
    cases q : co b with
    | some ob =>
      rw [shG_co q] at e
      rw [mask_co (M0 q) q]
      exact e
    | none =>
      rw [shG_no q] at e
      rw [mask_out (nhid e) q]
      exact R.sub b o e
  have ntc : NT (shG co G) := fun b o e => by
    cases q : co b with
    | some ob =>
      rw [shG_co q] at e
      cases e
      exact trivial
    | none =>
      rw [shG_no q] at e
      exact R.nt b o e
  refine ⟨shG co G, [.ask (.fn kl (W cs))], fun D _ => Q0 D ρ, fun _ => False, sc.2, ⟨rfl, fun {i D} e => ?_, fun {i a c} e => ?_, fun {i a C d D} e => ?_, fun {i O} e => ?_, fun {i j a c c'} e => ?_, fun m => absurd m List.not_mem_nil, subc, ntc⟩, ⟨kl, W cs, _, rfl, kl_le, hw, fun o ho => ho⟩, fun D as' v G2 H2 q2 sm s2 R2 d bk => ?_, fun _ _ _ _ _ _ z => z.elim⟩
  · rcases i with _ | i <;> simp at e
  · rcases i with _ | i <;> simp at e
  · rcases i with _ | i <;> simp at e
  · rcases i with _ | i
    · have e : some (Lc.ask (.fn kl (W cs))) = some (Lc.ask O) := e
      cases e
      exact ⟨fl, rfl, A⟩
    · simp at e
  · rcases i with _ | i <;> simp at e
  · have cp2 : CellsP G2 (ja.map (caOf X)) := cpA.ext s2.1
    have g2n : ∀ {b}, b ∈ hidL F ρ (argsOf ρ []) → G2 b = none := fun {b} m => by
      cases e : G2 b with
      | none => rfl
      | some o =>
        have := R2.sub b o e
        rw [bk.gone b m] at this
        cases this
    have keepD : ∀ b o, G2 b = some o → (∀ ob, o ≠ CellF ob) → dels (ja.map (caOf X)) G2 b = some o := fun b o e n => cp2.keep e n
    have s3 : Ex P G (dels (ja.map (caOf X)) G2) := ⟨(fun b o e n => by
      have e2 := s2.1 b o (gext b o e) n
      rw [dels_out fun m => ?_]
      · exact e2
      · obtain ⟨ob, q⟩ := (mem b).mp m
        rw [noG _ _ q] at e
        cases e), s2.2.dels cp2⟩
    have sub3 : Sub (dels (ja.map (caOf X)) G2) (unmask (hidL F ρ (argsOf ρ [])) co H H2) := fun b o e => by
      unfold dels at e
      split at e
      · cases e
      · rename_i m
        have nc : co b = none := by
          cases q : co b with
          | none => rfl
          | some ob => exact absurd ((mem b).mpr ⟨ob, q⟩) m
        rw [unmask_out (fun m2 => ?_) nc]
        · exact R2.sub b o e
        · rw [g2n m2] at e
          cases e
    have R3 : Rep (zOf X P) F (dels (ja.map (caOf X)) G2) ρ σ (unmask (hidL F ρ (argsOf ρ [])) co H H2) := R.pastC s3 sub3 (fun b o e => by
      unfold dels at e
      split at e
      · cases e
      · exact R2.nt b o e) fun b w => by
      have m : b ∈ hidL F ρ (argsOf ρ []) := mem_hidL.mpr (w.imp (fun z => ⟨z, fun ⟨i, c, e⟩ => by simp at e⟩) id)
      refine ⟨unmask_in m, ?_⟩
      unfold dels
      split
      · rfl
      · exact g2n m
    exact kk D ρ v (dels (ja.map (caOf X)) G2) _ q2 s3 .refl R3 (Dw.but hst keepD d)
theorem heard_run {σ : L2.St} {F : List (Addr × HO)} {G H : Hp} {ρ : Sto} {fl : Addr} {kl : Nat} {W : LW2} {ca : Nat → Addr} {Q0 : PyData → Sto → Prop} {Q : VK} (ok : X.Ok) (hN : X.N.Nodup) (hca : ca = caOf X) (hj : CellJ X ja) (hst : ∀ s, P.st s = none) (t : Tg G P) (R : Rep (zOf X P) F G ρ σ H) (L : LamOk (zOf X P) G fl kl (js.map ca) W)
    (kl_le : kl ≤ j) (s0 : ∀ i ∈ js, i ∈ ja) (h : dHeard ca js ja W TH ρ Q0) (kk : Kn (zOf X P) F n Q0 ρ G σ Q) : maskK X σ (spT (zOf X P) (heardT j TH)) (fun _ _ _ => False) [.ref fl] H Q := by
  subst hca
  unfold maskK
  obtain ⟨Ls, Rc⟩ := R.call (vs := []) (rs := []) trivial List.nodup_nil
  exact ⟨hidL F ρ (argsOf ρ []), ja, Ls, hj, fun co sh cN => (heard_core ok hN hj hst t R L kl_le s0 h kk sh cN).2⟩
/-- f(lambda: ..) -/
theorem de_heardL {N fr : List Str} {t : EK → DTE} {params : Arguments} {body : Expr} {scope : Scope} {nm : Nat → Nat → Str} {c Pl : Addr} {ca : Nat → Addr} {kb : Nat} (hN : X.N.Nodup) (hca : ca = caOf X) (hj : CellJ X ja) (LI : LamIs P X kb N [] fr js t params body scope) (hle : kb + 1 ≤ j) (s0 : ∀ i ∈ js, i ∈ ja) (hst : ∀ s, P.st s = none) (TB : LamX.TabB X.base X.mg c Pl) (hm : (Pl, nm) ∈ P.L) (hu : ∀ p ∈ P.L, p.1 = Pl → p.2 = nm) (hP : Pl ≠ P.P)
    (Fk : FnD X.prog X.w X.K X.mg X.base CX0 k f fd ps (spT (zOf X P) (heardT j TH))) (hr : Room k X.A) (hgd : X.A.guards = some []) (hg : Gl X x) (hmg : X.mg x = some (.ref f)) (hk : PySem.W.keepIn X.K (.ref f) = true) (hb : Binds X.K fd ps [])
    (hcode : X.env.code = .ref c := by rfl) (hn : nm lp.line lp.col = X.env.qual ++ "<lambda>" := by rfl) (hdef : defaultsOf params X.env = ([], []) := by rfl)
    (hdb : (x == ("__debug__" : Str)) = false := by decide) (he : starEach [.Lambda params body scope lp] X.env = (false, eval (.Lambda params body scope lp) X.env) :: starEach [] X.env := by rfl) (hpl : (backTo pos (starEach [] X.env)).any (·.1) = false := by rfl) :
    DE P G0 n X (.Call (.Name x p) [.Lambda params body scope lp] [] pos) (dHeard ca js ja (lamW N 0 t) TH) := by
  refine ⟨fun pins s σ H Q I h => (pe_callM (E := fun _ _ _ _ => False) Fk .non hr hgd hg hmg hk hb (pa_cons (pe_lamG (params := params) (body := body) (scope := scope) (pos := lp) TB hcode hm hn hu (fun y hy e => .inl (LI.free y hy e)) hdef) pa_nil he) hdb he hpl).run pins s σ H Q I ?_⟩
  obtain ⟨F, ρ, G, Q0, s1, R, h, kk⟩ := h
  refine ⟨G, R.sub, s1.2.2, fun fl cl G1 H1 up tn fH f1 c1 => ?_⟩
  have e1 : Ex P G G1 := up.ex s1.2 hP tn
  have R1 : Rep (zOf X P) F G1 ρ σ H1 := up.rep s1.2 ⟨nm, hm⟩ hP tn R
  have L := lamOk_of LI I.ok f1 c1
  rw [← hca] at L
  exact heard_run I.ok hN hca hj hst e1.2 R1 L hle s0 h (kk.after e1 .refl)
/-- f(ask), ask a lambda of one's own -/
def dHeardS (ca : Nat → Addr) (i j : Nat) (ja : List Nat) (TH : Out → (PyData → Prop) → Prop) : DTE := fun ρ Q => match ρ[i]? with
  | some (.ask (.lam ca2 js W)) => (ca2 = ca ∧ aL ≤ j ∧ ∀ i ∈ js, i ∈ ja) ∧ dHeard ca js ja W TH ρ Q
  | _ => False
end
end Dl
set_option Elab.async false
set_option linter.all false
set_option maxRecDepth 100000
set_option maxHeartbeats 4000000
namespace Dl
open PySem PySem.Spec PyProof PyProof.Rows L2 So Da SoC LamX NdefX
theorem Shown.congr {X : Cx} {σ σ' : L2.St} {js : List Nat} {co : Addr → Option Obj} (sh : Shown X σ js co) (h : ∀ j ∈ js, σ'[j]? = σ[j]?) : Shown X σ' js co :=
  ⟨sh.own, fun j m y ey => by
    obtain ⟨c, ob, h1, h2, x, h3, h4⟩ := sh.at_ j m y ey
    exact ⟨c, ob, h1, h2, x, h3, fun v e => h4 v (by rw [← h j m]; exact e)⟩⟩
def maskC (co : Addr → Option Obj) (sp : Sp) : List V → Hp → VK → Prop := fun vs H1 Q => ∃ ls : List Addr, (∀ b ∈ ls, ∃ o, H1 b = some o ∧ Lcl o) ∧ ((∀ b ob, co b = some ob → H1 b = none) →
  sp vs (mask ls co H1) (fun v H2 => Bck ls co H2 → Q v (unmask ls co H1 H2)) (fun cls d H2 => Bck ls co H2 → False))
section
variable {X : Cx} {k : Nat} {f : Addr} {fd : FuncData} {ps : List Str} {sp : Sp} {x : Str} {p pos : Pos} {e : Expr} {es : List Expr} {t : TA} {co : Addr → Option Obj}
theorem pe_callC (hco : ∀ (pins : List (Addr × Obj)) (σ : L2.St) (H : Hp) (s : Shared), Inv X pins σ H s → ∀ b ob, co b = some ob → H b = none ∧ s.heap.get? b = some ob ∧ b ∉ frs X.stack) (nb : ∀ b ob, co b = some ob → X.base.get? b = none)
    (F : FnD X.prog X.w X.K X.mg X.base CX0 k f fd ps sp) (hr : Room k X.A) (hgd : X.A.guards = some []) (hg : Gl X x) (hm : X.mg x = some (.ref f)) (hk : PySem.W.keepIn X.K (.ref f) = true) (hb : Binds X.K fd ps []) (ha : PA X (e :: es) t)
    (hdb : (x == ("__debug__" : Str)) = false := by decide) (he : starEach (e :: es) X.env = (false, eval e X.env) :: starEach es X.env := by rfl) (hpl : (backTo pos (starEach es X.env)).any (·.1) = false := by rfl) :
    PE X (.Call (.Name x p) (e :: es) [] pos) (fun σ H Q => t σ H fun vs H1 => maskC co sp vs H1 Q) := by
  refine ⟨fun pins s σ H Q I h => wpAny_Call_Name_kw (ld_glob I hg hm ?_ hdb)⟩
  refine PySem.W.callWith_K (h₀ := X.base) I.ok.mod.kin hk ?_ he hpl
  refine thn (ha.run pos pins s σ H _ I h) fun us s1 ⟨vs, H1, J, r, ls, L, q⟩ => ⟨J.kIn, ?_⟩
  have c1 := hco pins σ H1 s1 J
  have q := q fun b ob e => (c1 b ob e).1
  have M : Msk (frs X.stack) ls co H1 s1.heap := ⟨L, c1⟩
  have e0 := J.env0
  have B := hb s1 us J.kIn (by rw [List.append_nil]; exact r.length.symm.trans (F.len _ _ _ _ q))
  rw [List.append_nil] at B
  refine wpAny_call (codeAny_mono (F.run X.A X.stack s1 (mask ls co H1) ⟨us, []⟩ us vs _ _ hr hgd (mask_env M nb e0) B r q) fun z s' hq => ?_)
  match z, hq with
  | .error e, hq => exact hq.elim
  | .ok (.ret u), ⟨v, H2, os, bare, un, hok, rv, z⟩ =>
    have bk := bck_of M e0.hok un
    exact J.after ⟨v, unmask ls co H1 H2, os, bare, unmask_un M e0.hok un hok, unmask_ok M e0.hok bk hok fun c m o g => un.keep c o g (mask_in m) (fun m2 => by
      obtain ⟨o, e, _⟩ := L c m
      rw [e0.frf c m2] at e
      cases e) (fun z => nomatch z), rv, z bk⟩
/-- the cells as they stood when the block began -/
theorem blk_co {pins : List (Addr × Obj)} {σ0 : L2.St} {H0 : Hp} {s0 : Shared} {ja : List Nat} {scope : Scope} {C : Addr} {cl : List (Str × Addr)} {fp : List Addr} (I0 : Inv X pins σ0 H0 s0) (hj : CellJ X ja) (hfp : ∀ b ∈ fp, FpOk X pins H0 b) :
    ∃ co, Shown X σ0 ja co ∧ (∀ (pins' : List (Addr × Obj)) (σ : L2.St) (H : Hp) (s : Shared), Inv (blkAt X scope s0 H0 C cl fp) pins' σ H s → ∀ b ob, co b = some ob → H b = none ∧ s.heap.get? b = some ob ∧ b ∉ frs (blkAt X scope s0 H0 C cl fp).stack) ∧ ∀ b ob, co b = some ob → X.base.get? b = none := by
  obtain ⟨co, sh, c1, c2⟩ := shown_of I0 hj
  refine ⟨co, sh, fun pins' σ H s I b ob e => ?_, c2⟩
  obtain ⟨h1, h2, h3⟩ := c1 b ob e
  have nex : b ∉ fp := fun m => by
    obtain ⟨j, y, mj, hy, hc⟩ := sh.own b ob e
    obtain ⟨_, _, _, _, q, _⟩ := hfp b m
    exact q y b hc rfl
  exact ⟨I.base.free b ob h2 h1 nex, I.base.keep b ob h2 h1 h3 nex, h3⟩
end
def asksW (ca : Nat → Addr) (ja : List Nat) (TH : Out → (PyData → Prop) → Prop) (f : OpT) (tV : DTE) (ρw : Sto) (ik : Nat) : List (List Nat × LW2) → Prop
  | [] => True
  | l :: ls => ((∀ i ∈ l.1, i ∈ ja) ∧ dHeard ca l.1 ja l.2 TH (ρw.set ik (.ask (.lam ca l.1 l.2))) fun D ρ2 => tV ρ2 fun D2 ρ3 => f D D2 fun z => z = .bool false ∧ ρ3 = ρw.set ik (.ask (.lam ca l.1 l.2))) ∧ asksW ca ja TH f tV ρw ik ls
theorem asksW_at {ca : Nat → Addr} {ja : List Nat} {TH : Out → (PyData → Prop) → Prop} {f : OpT} {tV : DTE} {ρw : Sto} {ik : Nat} : ∀ {ls : List (List Nat × LW2)} {i : Nat} {l : List Nat × LW2}, asksW ca ja TH f tV ρw ik ls → ls[i]? = some l → (∀ i ∈ l.1, i ∈ ja) ∧ dHeard ca l.1 ja l.2 TH (ρw.set ik (.ask (.lam ca l.1 l.2))) fun D ρ2 => tV ρ2 fun D2 ρ3 => f D D2 fun z => z = .bool false ∧ ρ3 = ρw.set ik (.ask (.lam ca l.1 l.2))
  | [], _, _, _, e => by simp at e
  | _ :: _, 0, _, h, e => by cases e; exact h.1
  | _ :: _, i + 1, _, h, e => asksW_at (i := i) h.2 (by simpa using e)
def dAsks (ca : Nat → Addr) (ia ik j : Nat) (ja : List Nat) (TH : Out → (PyData → Prop) → Prop) (f : OpT) (tV : DTE) : DTF := fun ρ Q => match ρ[ia]? with
  | some (.ob _ (.lams ca2 ls)) => (ca2 = ca ∧ aL ≤ j ∧ ia ≠ ik ∧ noOb ρ ik ∧ ik ∉ ja ∧ ik < ρ.length) ∧ asksW ca ja TH f tV (ρ.set ik .un) ik ls ∧ Q [] ρ
  | _ => False
section
variable {P : Tb} {G0 : Hp} {n : Nat} {X : Cx} {ja : List Nat} {TH : Out → (PyData → Prop) → Prop} {k j : Nat} {f : Addr} {fd : FuncData} {ps : List Str} {x y xs : Str} {p cpos yp yp2 yp3 xp pos mpos : Pos} {V : Expr} {scope : Scope} {ia ik : Nat} {tV : DTE} {op : CmpOp} {r : R2} {fO : OpT}
theorem df_asks {ca : Nat → Addr} (hc : X.calm = true) (hN : X.N.Nodup) (hca : ca = caOf X) (hj : CellJ X ja) (hst : ∀ s, P.st s = none) (ok : BlkOk X.N X.env.scope scope [(y, ik)]) (hia : X.N[ia]? = some xs) (hva : Vis X.env.scope xs) (hda : (xs == ("__debug__" : Str)) = false) (hcda : (xs == ("__classdict__" : Str)) = false)
    (Fk : FnD X.prog X.w X.K X.mg X.base CX0 k f fd ps (spT (zOf X P) (heardT j TH))) (hr : Room k X.A) (hgd : X.A.guards = some []) (hmg : X.mg x = some (.ref f)) (hk : PySem.W.keepIn X.K (.ref f) = true) (hb : Binds X.K fd ps [])
    (hgl : ∀ (s : Shared) (H : Hp) (C : Addr) (cl : List (Str × Addr)) (fp : List Addr), Gl (blkAt X scope s H C cl fp) x)
    (hg : ∀ (s : Shared) (H : Hp) (C : Addr) (cl : List (Str × Addr)) (fp : List Addr), PG (blkAt X scope s H C cl fp) (.Name y yp) (gName ik))
    (hy : ∀ (s : Shared) (H : Hp) (C : Addr) (cl : List (Str × Addr)) (fp : List Addr), PA (blkAt X scope s H C cl fp) [.Name y yp2] (tCons (tVar ik) tNil))
    (ho : ∀ (s : Shared) (H : Hp) (C : Addr) (cl : List (Str × Addr)) (fp : List Addr), OpR (blkAt X scope s H C cl fp) (compareOp op) r) (od : ∀ (s : Shared) (H : Hp) (C : Addr) (cl : List (Str × Addr)) (fp : List Addr), OpD P n (blkAt X scope s H C cl fp) r fO)
    (hV : ∀ (s : Shared) (H : Hp) (C : Addr) (cl : List (Str × Addr)) (fp : List Addr), DE P G0 n (blkAt X scope s H C cl fp) V tV) (hm : behindInMarks op V = false)
    (hdb : (x == ("__debug__" : Str)) = false := by decide) (he : ∀ (s : Shared) (H : Hp) (C : Addr) (cl : List (Str × Addr)) (fp : List Addr), starEach [.Name y yp2] (blkAt X scope s H C cl fp).env = (false, eval (.Name y yp2) (blkAt X scope s H C cl fp).env) :: starEach [] (blkAt X scope s H C cl fp).env := by intro _ _ _ _ _; rfl)
    (hpl : ∀ (s : Shared) (H : Hp) (C : Addr) (cl : List (Str × Addr)) (fp : List Addr), (backTo pos (starEach [] (blkAt X scope s H C cl fp).env)).any (·.1) = false := by intro _ _ _ _ _; rfl) (hs : ∀ v, foldedSetIterable (.Name xs xp) X.env v = pure v := by intro _; rfl) :
    DF P G0 n X (.ListComp (.Name y yp3) [⟨.Name y yp, .Name xs xp, [.Compare (.Call (.Name x p) [.Name y yp2] [] pos) [op] [V] cpos], 0⟩] scope mpos) (dAsks ca ia ik j ja TH fO tV) := by
  let tC : L2.St → TE := fun σ0 σ H Q => (∀ i ∈ ja, σ[i]? = σ0[i]?) ∧ ∃ F ρ G Q0 fl js W, Tg G P ∧ Rep (zOf X P) F G ρ σ H ∧ σ[ik]? = some (some (.ref fl)) ∧ LamOk (zOf X P) G fl aL (js.map (caOf X)) W ∧ aL ≤ j ∧ (∀ i ∈ js, i ∈ ja) ∧ dHeard (caOf X) js ja W TH ρ Q0 ∧ Kn (zOf X P) F n Q0 ρ G σ Q
  refine pe_weak (pe_lcF (own := [(y, ik)]) (g := gName ik) (tt := fun σ0 => tTest (tOp r (tC σ0) (rdE (zOf X P) G0 n tV))) (te := fun _ _ _ _ => False) hc hN (pi_list (pe_var hia hva hda hcda)) ok hg (fun pins σ0 s H C cl fp I hfp => pts_one (pt_cmpR (ho s H C cl fp) ?_ (hV s H C cl fp) hm)) (fun pins σ s H C cl fp I hfp => ⟨fun _ _ _ _ _ _ h => h.elim⟩) hs) fun σ H Q ⟨F, ρ, G, Q0, s0, R, h, kk⟩ => ?_
  · obtain ⟨co, sh, c1, c2⟩ := blk_co (scope := scope) (C := C) (cl := cl) I hj hfp
    refine pe_weak (pe_callC (X := blkAt X scope s H C cl fp) c1 c2 Fk hr hgd (hgl s H C cl fp) hmg hk hb (hy s H C cl fp) hdb (he s H C cl fp) (hpl s H C cl fp)) fun σ H1 Q ⟨same, F, ρ, G, Q0, fl, js, W, t, R, e, L, le, sj, h, kk⟩ => ⟨.ref fl, e, ?_⟩
    show maskC co (spT (zOf X P) (heardT j TH)) [.ref fl] H1 Q
    refine ⟨hidL F ρ (argsOf ρ []), (R.call (vs := []) (rs := []) trivial List.nodup_nil).1, fun cN => (heard_core I.ok hN hj hst t R L le sj h kk (sh.congr same) cN).2⟩
  · unfold dAsks at h
    split at h
    case h_2 => exact h.elim
    rename_i a ca2 ls q
    obtain ⟨⟨rfl, le, nik, no, nja, lik⟩, hw, hq⟩ := h
    subst hca
    obtain ⟨h1, h2, o, h3, vs, rfl, h5⟩ := R.ob q
    refine ⟨.ref a, h1, a, rfl, ⟨vs, .inl (.inl h3)⟩, ?_⟩
    intro D hD
    have nF : ∀ o, (D, o) ∉ F := fun o m => by
      rw [(R.ex m).1] at hD
      cases hD
    have no1 : noObs ρ [ik] := ⟨no, trivial⟩
    have l5 := paired_len h5
    have wq : (wipeD ρ [ik])[ia]? = some (.ob a (.lams (caOf X) ls)) := by
      rw [wipeD_out fun m => nik (List.mem_singleton.mp m)]
      exact q
    refine ⟨fun i m H2 => m = ls.length - i ∧ i ≤ ls.length ∧ ∃ G2, Ex P G G2 ∧ Rep (zOf X P) ((D, .lst []) :: F) G2 (wipeD ρ [ik]) (L2.wipe σ [ik]) H2, ⟨_, by rw [Nat.sub_zero], Nat.zero_le _, G, Ex.refl s0.2, (R.wipe no1).push hD⟩, ?_⟩
    rintro i m H2 ⟨rfl, hi, G2, s2, R2⟩
    obtain ⟨k1, k2, o2, k3, vs2, rfl, k5⟩ := R2.ob wq
    have l6 := paired_len k5
    have sq2 : SqL X.K H2 a vs2 := .inl (.inl k3)
    by_cases hl : i < ls.length
    · refine .inr ⟨⟨vs2, vs2[i], sq2, List.getElem?_eq_getElem (by omega)⟩, fun H' => i + 1 ≤ ls.length ∧ ∃ G2, Ex P G G2 ∧ Rep (zOf X P) ((D, .lst []) :: F) G2 (wipeD ρ [ik]) (L2.wipe σ [ik]) H', fun H' z => ⟨_, by omega, rfl, z⟩, fun x' H3 ⟨eH, yx⟩ => ?_⟩
      subst eH
      have ex := yx vs2 sq2
      obtain ⟨v', e1, fl, rfl, L⟩ := paired_get k5 (List.getElem?_eq_getElem hl)
      rw [ex] at e1
      cases e1
      obtain ⟨sj, hd⟩ := asksW_at hw (List.getElem?_eq_getElem hl)
      have ikl : ik < (L2.wipe σ [ik]).length := by rw [wipe_length, R.len]; exact lik
      have un : (wipeD ρ [ik])[ik]? = some .un := by
        show (ρ.set ik .un)[ik]? = _
        rw [List.getElem?_set_self lik]
      have Rk : Rep (zOf X P) ((D, .lst []) :: F) G2 ((ρ.set ik .un).set ik (.ask (.lam (caOf X) ls[i].1 ls[i].2))) ((L2.wipe σ [ik]).set ik (some (.ref fl))) H3 := R2.setLc (fun a c e => by rw [un] at e; cases e) ⟨fl, rfl, L⟩
      have s02 := s0.trans s2
      have wch : L2.wipe ((L2.wipe σ [ik]).set ik (some (.ref fl))) [ik] = L2.wipe σ [ik] := wipe_chg (is := [ik]) ⟨List.length_set .., fun j hj => List.getElem?_set_ne (fun z => hj (List.mem_singleton.mpr z.symm))⟩ fun i m => m
      refine ⟨wch, ⟨fun i m => ?_, (D, .lst []) :: F, _, G2, _, fl, _, _, s02.2, Rk, List.getElem?_set_self ikl, L, le, sj, hd, fun D1 ρ3 v1 G3 H4 q3 s3 al3 R3 d3 => ?_⟩⟩
      · have ne : ik ≠ i := fun z => nja (z ▸ m)
        exact (List.getElem?_set_ne ne).trans (wipe_out fun m2 => ne (List.mem_singleton.mp m2).symm)
      · refine ⟨(D, .lst []) :: F, ρ3, G3, _, s02.trans s3, R3, q3, fun D2 ρ4 v2 G4 H5 q4 s4 al4 R4 d4 => ?_⟩
        refine od X.s_0 X.H_0 0 [] [] v1 v2 D1 D2 ((D, .lst []) :: F) G4 ρ4 _ H5 (fun z ρ5 => z = .bool false ∧ ρ5 = (ρ.set ik .un).set ik (.ask (.lam (caOf X) ls[i].1 ls[i].2))) _ ((s02.trans s3).trans s4).2 R4 (.inl (d3.mono s4)) (.inl d4) q4 fun z ρ5 v5 G5 H6 ⟨e5, e6⟩ s5 al5 R5 d5 => ?_
        subst e5 e6
        cases d5
        refine ⟨false, rfl, hl, G5, s2.trans ((s3.trans s4).trans s5), ?_⟩
        have R6 := R5.wipe (vs := [ik]) ⟨by
          show nbO ((ρ.set ik .un).set ik (Lc.ask (.lam (caOf X) ls[i].1 ls[i].2)))[ik]?
          rw [List.getElem?_set_self (by rw [List.length_set]; exact lik)]
          trivial, trivial⟩
        have e7 : wipeD ((ρ.set ik .un).set ik (Lc.ask (.lam (caOf X) ls[i].1 ls[i].2))) [ik] = wipeD ρ [ik] := by
          show ((ρ.set ik .un).set ik _).set ik .un = ρ.set ik .un
          rw [List.set_set, List.set_set]
        rw [e7] at R6
        rw [← wch]
        exact R6
    · have e : i = ls.length := by omega
      subst e
      exact .inl ⟨⟨vs2, sq2, by omega⟩, kk [] ρ [] G2 H2 D hq s2 .refl (Rep.unwipe no1 R s2 R2) nF .nil⟩
end
end Dl
set_option Elab.async false
set_option linter.all false
set_option maxRecDepth 100000
set_option maxHeartbeats 4000000
namespace Dl
open PySem PySem.Spec PyProof PyProof.Rows L2 So Da SoC LamX NdefX
def LamsOk (K : Zw) (G : Hp) (ca : Nat → Addr) : List V → List (List Nat × LW2) → Prop := Paired fun v l => ∃ f, v = V.ref f ∧ LamOk K G f aL (l.1.map ca) l.2
theorem LamsOk.mono {K : Zw} {G G' : Hp} {ca : Nat → Addr} (s : Ex K.T G G') {vs : List V} {ls : List (List Nat × LW2)} (h : LamsOk K G ca vs ls) : LamsOk K G' ca vs ls := paired_imp (fun _ _ ⟨f, e, m⟩ => ⟨f, e, m.mono s⟩) h
def rdL (K : Zw) (G0 : Hp) (ca : Nat → Addr) (ls : List (List Nat × LW2)) : TA := fun σ H Q => ∃ F ρ G, Ex K.T G0 G ∧ Rep K F G ρ σ H ∧ ∀ vs G' H', Ex K.T G G' → Rep K F G' ρ σ H' → LamsOk K G' ca vs ls → Q vs H'
def DLs (P : Tb) (G0 : Hp) (X : Cx) (ca : Nat → Addr) (es : List Expr) (ls : List (List Nat × LW2)) : Prop := PA X es (rdL (zOf X P) G0 ca ls)
section
variable {P : Tb} {G0 : Hp} {n : Nat} {X : Cx} {N ps fr : List Str} {js : List Nat} {t : EK → DTE} {params : Arguments} {body : Expr} {scope : Scope} {es : List Expr} {ls : List (List Nat × LW2)} {lp pos mp ap np cp lp2 : Pos} {ca : Nat → Addr} {st : Stmt} {xs : Str}
theorem dl_nil : DLs P G0 X ca [] [] := pa_weak pa_nil fun σ H Q ⟨F, ρ, G, s, R, k⟩ => k _ G H (Ex.refl s.2) R .nil
theorem dl_cons {nm : Nat → Nat → Str} {c Pl : Addr} (hca : ca = caOf X) (LI : LamIs P X 59 N ps fr js t params body scope) (TB : LamX.TabB X.base X.mg c Pl) (hm : (Pl, nm) ∈ P.L) (hu : ∀ p ∈ P.L, p.1 = Pl → p.2 = nm) (hP : Pl ≠ P.P) (h : DLs P G0 X ca es ls)
    (hcode : X.env.code = .ref c := by rfl) (hn : nm lp.line lp.col = X.env.qual ++ "<lambda>" := by rfl) (hdef : defaultsOf params X.env = ([], []) := by rfl) (hs : starEach (.Lambda params body scope lp :: es) X.env = (false, eval (.Lambda params body scope lp) X.env) :: starEach es X.env := by rfl) :
    DLs P G0 X ca (.Lambda params body scope lp :: es) ((js, lamW N ps.length t) :: ls) := by
  refine ⟨fun pos pins s σ H Q I h0 => (pa_cons (pe_lamG (params := params) (body := body) (scope := scope) (pos := lp) TB hcode hm hn hu (fun y hy e => .inl (LI.free y hy e)) hdef) h hs).run pos pins s σ H Q I ?_⟩
  obtain ⟨F, ρ, G, s1, R, k⟩ := h0
  refine ⟨G, R.sub, s1.2.2, fun fl cl G1 H1 up tn fH f1 c1 => ?_⟩
  have e1 : Ex P G G1 := up.ex s1.2 hP tn
  have R1 : Rep (zOf X P) F G1 ρ σ H1 := up.rep s1.2 ⟨nm, hm⟩ hP tn R
  have L := lamOk_of LI I.ok f1 c1
  rw [← hca] at L
  exact ⟨F, ρ, G1, s1.trans e1, R1, fun vs G2 H2 s2 R2 l2 => k _ G2 H2 (e1.trans s2) R2 (.cons ⟨fl, rfl, L.mono s2⟩ l2)⟩
/-- asks = [lambda: .., ..] -/
theorem ds_lams {i : Nat} {x : Str} (hN : X.N.Nodup) (hi : X.N[i]? = some x) (hx : Loc X.env.scope x) (h : DLs P G0 X ca es ls) (hs : swapsWith (.List es mp) (some (.Name x np)) pos.line X.env = pure false := by rfl) (hf : X.fn x = true ∨ X.env.scope.names.lookup x = some .local := by first | exact .inl rfl | exact .inr rfl | assumption) :
    DS P G0 n X (.Assign [.Name x np] (.List es mp) pos) (fun D ρ => (i < ρ.length ∧ ls.length ≤ sizeLine) ∧ noOb ρ i ∧ ∀ a, D.nx (ρ.set i (.ob a (.lams ca ls)))) := ps_weak (ps_set hN hi hx (pe_lst h) hs hf) fun D σ H ⟨ρ, G, D0, s, R, ⟨⟨l1, l2⟩, no, q⟩, k⟩ =>
  ⟨[], ρ, G, s, R, fun vs G' H' s' R' l => ⟨by rw [paired_len l]; exact l2, fun p hp => k.nx _ _ _ _ (q p) s' (.set no) (R'.own l1 (noOb_ne no) hp ⟨vs, rfl, l⟩)⟩⟩
/-- asks.append(lambda: ..) -/
theorem ds_appLam {i : Nat} {l : List Nat × LW2} (hps : PS X st (tDrop (tBM X.K "list" rAppend (tVar i) (rdL (zOf X P) G0 ca [l])))) : DS P G0 n X st (fun D ρ => match ρ[i]? with
    | some (.ob a (.lams ca2 ls)) => (ca2 = ca ∧ ls.length < sizeLine) ∧ D.nx (ρ.set i (.ob a (.lams ca (ls ++ [l]))))
    | _ => False) := ps_weak hps fun D σ H ⟨ρ, G, D0, s, R, h, k⟩ => by
  dsimp only at h
  split at h
  case h_2 => exact h.elim
  rename_i a ca2 ls q
  obtain ⟨⟨rfl, len⟩, h⟩ := h
  obtain ⟨h1, h2, o, h3, vs, rfl, h5⟩ := R.ob q
  refine ⟨_, h1, .inl ⟨rfl, vs, .inl (.inl h3)⟩, [], ρ, G, s, R, fun ws G' H' s' R' l1 => ?_⟩
  obtain ⟨k1, k2, o, k3, us, rfl, k5⟩ := R'.ob q
  have app : ∀ {us : List V} {ms : List (List Nat × LW2)}, LamsOk (zOf X P) G' ca2 us ms → LamsOk (zOf X P) G' ca2 (us ++ ws) (ms ++ [l]) := by
    intro us ms h
    unfold LamsOk at h l1 ⊢
    induction h with
    | nil => exact l1
    | cons a b ih => exact .cons a ih
  have l1' := l1
  cases l1 with
  | cons x1 r1 =>
    cases r1
    rename_i w
    refine ⟨a, us, w, rfl, rfl, k3, ?_, k.nx _ _ _ _ h s' (put_alike q) (R'.put q ⟨_, rfl, app k5⟩)⟩
    rw [paired_len k5]
    exact len
/-- for ask in asks: .. -/
def forLW (ca : Nat → Addr) (ik : Nat) (tb : DTS) (D : EndsD) : List (List Nat × LW2) → Sto → Prop
  | [], ρ => D.nx ρ
  | l :: ls, ρ => noOb ρ ik ∧ tb { D with nx := forLW ca ik tb D ls, ct := forLW ca ik tb D ls, bk := D.nx } (ρ.set ik (.ask (.lam ca l.1 l.2)))
def dForL (n : Nat) (ca : Nat → Addr) (ia ik : Nat) (tb : DTS) : DTS := fun D ρ => match ρ[ia]? with
  | some (.ob _ (.lams ca2 ls)) => (ca2 = ca ∧ n ≤ ia) ∧ forLW ca ik tb D ls (ρ.set ia .un)
  | _ => False
end
end Dl
set_option Elab.async false
set_option linter.all false
set_option maxRecDepth 100000
set_option maxHeartbeats 4000000
namespace Dl
open PySem PySem.Spec PyProof PyProof.Rows L2 So Da
theorem cj_nil {X : Cx} : CellJ X [] := fun j m => absurd m List.not_mem_nil
theorem cj_cons {X : Cx} {j : Nat} {js : List Nat} (h : ∃ y, X.N[j]? = some y ∧ X.env.scope.names.lookup y = some .cell ∧ X.fn y = true) (r : CellJ X js) : CellJ X (j :: js) := fun i m => by
  rcases List.mem_cons.mp m with z | m
  · rw [z]
    exact h
  · exact r i m
section
variable {Pg : Program} {w : World} {K : PySem.W.Frag} {mg : Str → Option Value} {base : Heap} {CX : CXT} {k : Nat} {f c : Addr} {fd : FuncData} {ps : List Str} {sp : Sp} {x : Str} {st : Stmt} {N : List Str}
theorem FnD.okC (F : DfC K mg x st ps f fd c) (S : FnScope N ps (defScope st)) (len : ∀ vs H Q E, sp vs H Q E → vs.length = ps.length)
    (body : ∀ (A : Around) (outer : List Env) (s : Shared) (H : Hp) (vs : List V) (Q : VK) (E : XK), Room k (A.deeper (envOfC x (defScope st) s.heap.objs.size f (.ref c))) → (A.deeper (envOfC x (defScope st) s.heap.objs.size f (.ref c))).guards = some [] → sp vs H Q E →
      ∃ t, PSs (cxOf CX Pg w K mg base N x (defScope st) f (.ref c) A outer s H E) (defBody st) t ∧ t { nx := fun _ H' => Q .non H', rt := Q } (start N vs) H) : FnD Pg w K mg base CX (k + 1) f fd ps sp := by
  obtain ⟨oc, od, kV, doc, pm, an, ct, osl, rfl, lk, hcd⟩ := F.ex
  refine ⟨len, ?_⟩
  intro A outer s H args us vs Q E hr hg e0 hb r hsp
  have hl := len _ _ _ _ hsp
  have kp : ∀ b o, base.get? b = some o → s.heap.get? b = some o := fun b o z => (e0.bs b o z).1
  have pk : ∀ y ∈ ps.zip us, (defScope st).names.lookup y.1 = some .local ∨ ((defScope st).names.lookup y.1 = some .cell ∧ ((cellsFrom (s.heap.objs.size + 1) (defScope st).names []).lookup y.1).isSome = true) := fun y hy =>
    (S.par y.1 (List.of_mem_zip hy).1).imp id fun q => ⟨q, PySem.W.cellsFrom_some _ _ _ (.inl q)⟩
  have KX := e0.mod.kin.keeps kp
  refine codeAny_call_function hr.depth (KX _ _ lk) rfl S.co S.gen rfl (PySem.W.codeRec_of KX hcd) (hb _ _ _ _ (wpAny_newFunctionEnv_cells S.kind pk fun env he s1 x1 => ?_))
  subst he
  obtain ⟨t, ht, hq⟩ := body A outer s H vs Q E (hr.deeper _) hg hsp
  have I := inv_start (CX := CX) (E := E) (cd := .ref c) (f := f) (qual := x) (us := us) S hr.hd e0 hl r x1
  refine ⟨(e0.mod.nolimit.keeps kp).keeps x1.toInCall.keep, codeAny_func (wpAny_mono (ht.run [] s1 _ H _ I hq) (fun fl s' hs => ?_) fun _ _ z => z)⟩
  match fl, hs with
  | .ret u, ⟨v, σ', H', J, rv, q⟩ => exact ⟨v, H', J.os, J.bare, J.base, J.hok, rv, q⟩
  | .next, ⟨σ', H', J, q⟩ => exact ⟨V.non, H', J.os, J.bare, J.base, J.hok, rfl, q⟩
  | .brk, ⟨_, _, _, q⟩ => exact q.elim
  | .cont, ⟨_, _, _, q⟩ => exact q.elim
theorem FnD.okC0 (F : DfC K mg x st ps f fd c) (S : FnScope N ps (defScope st)) (len : ∀ vs H Q E, sp vs H Q E → vs.length = ps.length)
    (body : ∀ (A : Around) (outer : List Env) (s : Shared) (H : Hp) (vs : List V) (Q : VK) (E : XK), Room k (A.deeper (envOfC x (defScope st) s.heap.objs.size f (.ref c))) → (A.deeper (envOfC x (defScope st) s.heap.objs.size f (.ref c))).guards = some [] → sp vs H Q E →
      ∃ t, PSs (cxOf CX0 Pg w K mg base N x (defScope st) f (.ref c) A outer s H E).nox (defBody st) t ∧ t { nx := fun _ H' => Q .non H', rt := Q } (start N vs) H) : FnD Pg w K mg base CX0 (k + 1) f fd ps sp :=
  FnD.okC F S len fun A outer s H vs Q E hr hg hsp => by
    obtain ⟨t, h, q⟩ := body A outer s H vs Q E hr hg hsp
    exact ⟨t, h.nox, q⟩
end
section
variable {Z : Zw} {x : Str} {st : Stmt} {f c : Addr} {fd : FuncData} {N ps : List Str} {k : Nat} {T : TD}
/-- a def that makes functions, and lets nothing out -/
theorem okDC {t : (Nat → Addr) → DTS} (F : DfC Z.K Z.mg x st ps f fd c) (S : FnScope N ps (defScope st)) (len : ∀ as Q er, T as Q er → as.length = ps.length)
    (h : ∀ (A : Around) (outer : List Env) (s : Shared) (H : Hp) (E : XK) (G0 : Hp) (ca : Nat → Addr), Room k (A.deeper (envOfC x (defScope st) s.heap.objs.size f (.ref c))) → (A.deeper (envOfC x (defScope st) s.heap.objs.size f (.ref c))).guards = some [] → ca = caOf (cxOf CX0 Z.Pg Z.w Z.K Z.mg Z.base N x (defScope st) f (.ref c) A outer s H E).nox →
      DSs Z.T G0 ps.length (cxOf CX0 Z.Pg Z.w Z.K Z.mg Z.base N x (defScope st) f (.ref c) A outer s H E).nox (defBody st) (t ca))
    (hq : ∀ ca as Q er, T as Q er → t ca (endsOf as Q) (start0 (N.length - ps.length) as)) : FnD Z.Pg Z.w Z.K Z.mg Z.base CX0 (k + 1) f fd ps (spT Z T) :=
  FnD.okC0 F S (spT_len len) fun A outer s H vs Q E hr hg ⟨G, as, Q0, er, tb, R, hT, hQ, _⟩ => ⟨_, h A outer s H E G _ hr hg rfl, body_read tb R (by
    have := R.len
    rw [List.length_map] at this
    exact this.trans (len _ _ _ hT)) (hq _ _ _ _ hT) hQ⟩
end
/-- what is told of an error that is caught -/
structure ErC (K : PySem.W.Frag) (mg : Str → Option Value) (x an : Str) (C : Addr) : Prop where
  xf : XfC K C
  is : SoC.IsC K C
  na : PySem.W.findIn K (.ref C) an = some none
  te : PySem.W.exmOne K (.ref C) (.ref C) = some true
  g : mg x = some (.ref C)
def kdIn (K : PySem.W.Frag) : Bool := K.all fun p => p.2.dict.isNone || !(p.2.cls == Value.type "tuple")
theorem kd_of : ∀ {K : PySem.W.Frag}, kdIn K = true → ∀ (p : Addr) (ob : Obj), K.lookup p = some ob → ob.cls = .type "tuple" → ob.dict = none
  | [], _, p, ob, h, _ => nomatch h
  | (a, o) :: K, k, p, ob, h, hc => by
    unfold kdIn at k
    rw [List.all_cons, Bool.and_eq_true] at k
    rw [List.lookup_cons] at h
    split at h
    · cases h
      have k1 := k.1
      rw [hc] at k1
      cases e : o.dict with
      | none => rfl
      | some d =>
        dsimp only at k1
        rw [e] at k1
        rw [show (Value.type "tuple" == Value.type "tuple") = true by decide] at k1
        exact nomatch k1
    · exact kd_of (K := K) k.2 p ob h hc
theorem one_arg {vs : List V} {lc : Lc} {Z : Zw} {F : List (Addr × HO)} {G H : Hp} (R : Rep Z F G [lc] (vs.map some) H) : ∃ v, vs = [v] := by
  have := R.len
  rw [List.length_map] at this
  match vs, this with
  | [v], _ => exact ⟨v, rfl⟩
theorem two_args {vs : List V} {a b : Lc} {Z : Zw} {F : List (Addr × HO)} {G H : Hp} (R : Rep Z F G [a, b] (vs.map some) H) : ∃ v w, vs = [v, w] := by
  have := R.len
  rw [List.length_map] at this
  match vs, this with
  | [v, w], _ => exact ⟨v, w, rfl⟩
def spBx (K : PySem.W.Frag) : Sp := fun vs H Q _ => ∃ (a : Addr) (ns : List Int) (k : Nat), vs = [.ref a, .int (k : Int)] ∧ SqL K H a (ns.map V.int) ∧ ns.length ≤ 1000000 ∧ k < 1000000000 ∧ ∀ (q : Addr) (g s : Int), 0 ≤ g → 0 ≤ s → s ≤ 2147483648 → H q = none → Q (.ref q) (upd H q (.lst [.int g, .int s]))
/-- a box of the draws' from a script of whole numbers -/
def Tbox : TDO := fun as Q _ => ∃ (ns : List Int) (k : Nat), as = [.sh (.list (ns.map .int)), .sh (.int (k : Int))] ∧ ns.length ≤ 1000000 ∧ k < 1000000000 ∧ Q .box as
theorem box_T {Z : Zw} {CX : CXT} {k : Nat} {f : Addr} {fd : FuncData} {ps : List Str} (F : FnD Z.Pg Z.w Z.K Z.mg Z.base CX k f fd ps (spBx Z.K)) : FnD Z.Pg Z.w Z.K Z.mg Z.base CX k f fd ps (spO Z Tbox) :=
  F.imp fun vs H Q E ⟨G, as, Q0, er, t, R, ⟨ns, m, e, l, lm, q⟩, hQ, _⟩ => by
    subst e
    obtain ⟨v1, v2, rfl⟩ := two_args R
    obtain ⟨u1, e1, d1⟩ := R.sh (i := 0) rfl
    obtain ⟨u2, e2, d2⟩ := R.sh (i := 1) rfl
    cases e1
    cases e2
    cases d2
    cases d1 with
    | @lst _ a xs ds sq da =>
      have ex := dpa_ints da
      subst ex
      refine ⟨a, ns, m, rfl, (R.sm t).lst sq, l, lm, fun p g s h1 h2 h3 hp => hQ .box _ p _ G _ q (.sh (.sh .nil)) (Ex.refl t) (R.push (o := .lst [.int g, .int s]) hp).noF upd_same (R.gnone hp) (fun ⟨i, c, e⟩ => ?_) ⟨g, s, rfl, h1, h2, h3⟩⟩
      match i, e with
      | 0, e => cases e
      | 1, e => cases e
      | i + 2, e => simp at e
def spTak : Sp := fun vs H Q _ => ∃ (b : Addr) (n g s : Int), vs = [.ref b, .int n] ∧ (H b = some (.lst [.int g, .int s]) ∧ 0 ≤ g ∧ 0 ≤ s ∧ s ≤ 2147483648) ∧ 0 < n ∧ n < 1000000000 ∧ ∀ (r g' s' : Int), 0 ≤ r → r < n → 0 ≤ g' → 0 ≤ s' → s' ≤ 2147483648 → Q (.int r) (upd H b (.lst [.int g', .int s']))
/-- a number that is drawn -/
def Ttake : TD := fun as Q _ => match as with
  | [.ob b .box, .sh (.int n)] => 0 < n ∧ n < 1000000000 ∧ ∀ r : Int, 0 ≤ r → r < n → Q (.int r) [.ob b .box, .sh (.int n)]
  | _ => False
theorem take_T {Z : Zw} {CX : CXT} {k : Nat} {f : Addr} {fd : FuncData} {ps : List Str} (F : FnD Z.Pg Z.w Z.K Z.mg Z.base CX k f fd ps spTak) : FnD Z.Pg Z.w Z.K Z.mg Z.base CX k f fd ps (spT Z Ttake) :=
  F.imp fun vs H Q E ⟨G, as, Q0, er, t, R, h, k, _⟩ => by
    unfold Ttake at h
    split at h
    · rename_i b n
      obtain ⟨h1, h2, h⟩ := h
      obtain ⟨u, v, rfl⟩ := two_args R
      obtain ⟨e1, gb, o, eo, g, s, rfl, g0, s0, s1⟩ := R.ob (i := 0) rfl
      obtain ⟨x, e2, d⟩ := R.sh (i := 1) rfl
      cases e1
      cases e2
      cases d
      refine ⟨b, n, g, s, rfl, ⟨eo, g0, s0, s1⟩, h1, h2, fun r g' s' r0 r1 a0 b0 b1 => ?_⟩
      exact k (.int r) _ _ G _ (h r r0 r1) (.ob (.sh .nil)) (Ex.refl t) (R.put (i := 0) rfl ⟨g', s', rfl, a0, b0, b1⟩) (.int _)
    · exact h.elim
theorem Sub.refl (H : Hp) : Sub H H := fun _ _ e => e
theorem Sub.trans {H H1 H2 : Hp} (a : Sub H H1) (b : Sub H1 H2) : Sub H H2 := fun c o e => b c o (a c o e)
theorem Sub.new {H : Hp} {p : Addr} {o : HO} (h : H p = none) : Sub H (upd H p o) := fun c u e => by rw [upd_ne (ne_of_none e h)]; exact e
theorem Sub.mut {H H1 : Hp} {p : Addr} {o : HO} (s : Sub H H1) (h : H p = none) : Sub H (upd H1 p o) := fun c u e => by rw [upd_ne (ne_of_none e h)]; exact s c u e
theorem Sub.tup {K : PySem.W.Frag} {H H1 : Hp} {a : Addr} {xs : List V} (s : Sub H H1) (h : SqT K H a xs) : SqT K H1 a xs := sqt_ext (LamX.ExtN.of s) h
theorem Rep.sup {Z : Zw} {G H H' : Hp} {as : List Lc} {σ : L2.St} (R : Rep Z [] G as σ H) (no : ∀ (i : Nat) (a : Addr) (c : Oc), as[i]? ≠ some (.ob a c)) (t : Tg G Z.T) (s : Sub H H') : Rep Z [] G as σ H' := R.pastC (Ex.refl t) (R.sub.trans s) R.nt fun b w => by
  rcases w with ⟨i, c, e⟩ | ⟨o, m⟩
  · exact absurd e (no i b c)
  · exact absurd m List.not_mem_nil
theorem no_sh1 {D : PyData} : ∀ (i : Nat) (a : Addr) (c : Oc), [Lc.sh D][i]? ≠ some (.ob a c) := fun i a c e => by
  match i, e with
  | 0, e => cases e
  | i + 1, e => simp at e
end Dl
set_option Elab.async false
set_option linter.all false
set_option maxRecDepth 100000
set_option maxHeartbeats 4000000
namespace Dl
open PySem PySem.Spec PyProof PyProof.Rows L2 So Da
def lsF (L : List Addr) (cv : Addr → List V) : List (Addr × HO) := L.map fun a => (a, .lst (cv a))
def setF (cv : Addr → List V) (a : Addr) (ys : List V) : Addr → List V := fun b => if b = a then ys else cv b
theorem setF_same {cv : Addr → List V} {a : Addr} {ys : List V} : setF cv a ys a = ys := if_pos rfl
theorem setF_ne {cv : Addr → List V} {a b : Addr} {ys : List V} (h : b ≠ a) : setF cv a ys b = cv b := if_neg h
section
variable {K : Zw} {G H : Hp} {ρ : Sto} {σ : L2.St} {L : List Addr} {cv : Addr → List V} {a p : Addr} {ys : List V}
theorem mem_lsF {o : HO} : (a, o) ∈ lsF L cv ↔ a ∈ L ∧ o = .lst (cv a) := by
  unfold lsF
  rw [List.mem_map]
  exact ⟨fun ⟨b, m, e⟩ => by cases e; exact ⟨m, rfl⟩, fun ⟨m, e⟩ => ⟨a, m, by rw [e]⟩⟩
theorem Rep.subF {F F' : List (Addr × HO)} (R : Rep K F G ρ σ H) (s : ∀ x ∈ F', x ∈ F) : Rep K F' G ρ σ H := ⟨R.len, R.sh, R.ob, R.exc, R.ask, R.uniq, fun m => R.ex (s _ m), R.sub, R.nt⟩
theorem Rep.at_ls (R : Rep K (lsF L cv) G ρ σ H) (m : a ∈ L) : H a = some (.lst (cv a)) := (R.ex (mem_lsF.mpr ⟨m, rfl⟩)).1
theorem Rep.no_ls (R : Rep K (lsF L cv) G ρ σ H) (m : a ∈ L) : G a = none := (R.ex (mem_lsF.mpr ⟨m, rfl⟩)).2.1
/-- one of them changes -/
theorem Rep.mutF (R : Rep K (lsF L cv) G ρ σ H) (m : a ∈ L) : Rep K (lsF L (setF cv a ys)) G ρ σ (upd H a (.lst ys)) := by
  have ga := R.no_ls m
  refine ⟨R.len, R.sh, fun {i b c} e => ?_, R.exc, R.ask, R.uniq, fun {b u} mb => ?_, fun b u e => ?_, R.nt⟩
  · obtain ⟨h1, h2, o, h3, h4⟩ := R.ob e
    have ne : b ≠ a := fun z => (R.ex (mem_lsF.mpr ⟨m, rfl⟩)).2.2.1 ⟨i, c, z ▸ e⟩
    exact ⟨h1, h2, o, by rw [upd_ne ne]; exact h3, h4⟩
  · obtain ⟨m2, rfl⟩ := mem_lsF.mp mb
    by_cases z : b = a
    · subst z
      rw [setF_same]
      exact ⟨upd_same, ga, (R.ex (mem_lsF.mpr ⟨m2, rfl⟩)).2.2.1, lcl_lst⟩
    · rw [setF_ne z]
      obtain ⟨h1, h2, h3, h4⟩ := R.ex (mem_lsF.mpr ⟨m2, rfl⟩)
      exact ⟨by rw [upd_ne z]; exact h1, h2, h3, h4⟩
  · rw [upd_ne (fun z => by rw [z, ga] at e; cases e)]
    exact R.sub b u e
/-- a new one -/
theorem Rep.newF (R : Rep K (lsF L cv) G ρ σ H) (h : H p = none) : p ∉ L ∧ Rep K (lsF (p :: L) (setF cv p ys)) G ρ σ (upd H p (.lst ys)) := by
  have np : p ∉ L := fun m => by
    rw [R.at_ls m] at h
    cases h
  refine ⟨np, (R.push (o := .lst ys) h).subF fun ⟨b, u⟩ m => ?_⟩
  obtain ⟨m2, rfl⟩ := mem_lsF.mp m
  by_cases z : b = p
  · subst z
    rw [setF_same]
    exact List.mem_cons_self
  · rw [setF_ne z]
    exact List.mem_cons_of_mem _ (mem_lsF.mpr ⟨(List.mem_cons.mp m2).resolve_left z, rfl⟩)
end
/-- nothing need be known of slots -/
theorem Rep.less {K : Zw} {F : List (Addr × HO)} {G H : Hp} {ρ ρ' : Sto} {σ : L2.St} (R : Rep K F G ρ σ H) (l : ρ'.length = ρ.length) (h : ∀ (i : Nat) (lc : Lc), ρ'[i]? = some lc → lc = .un ∨ ρ[i]? = some lc) : Rep K F G ρ' σ H :=
  ⟨R.len.trans l.symm, fun e => R.sh ((h _ _ e).resolve_left fun z => nomatch z), fun e => R.ob ((h _ _ e).resolve_left fun z => nomatch z), fun e => R.exc ((h _ _ e).resolve_left fun z => nomatch z), fun e => R.ask ((h _ _ e).resolve_left fun z => nomatch z),
    fun e e' => R.uniq ((h _ _ e).resolve_left fun z => nomatch z) ((h _ _ e').resolve_left fun z => nomatch z), fun m => ⟨(R.ex m).1, (R.ex m).2.1, fun ⟨i, c, e⟩ => (R.ex m).2.2.1 ⟨i, c, (h _ _ e).resolve_left fun z => nomatch z⟩, (R.ex m).2.2.2⟩, R.sub, R.nt⟩
end Dl
set_option Elab.async false
set_option linter.all false
set_option maxRecDepth 100000
set_option maxHeartbeats 4000000
namespace Dl
open PySem PySem.Spec PyProof PyProof.Rows L2 So Da
theorem errL_no {K : Zw} {G : Hp} : ErrL K G (fun _ _ _ => False) (fun _ => False) := fun _ _ _ _ _ _ q _ _ _ _ _ => q
theorem passes_no {X : Cx} : Passes (L2.CX X.prog X.w) X (fun _ _ _ => False) := fun _ _ _ _ _ _ _ ⟨_, _, _, _, _, _, _, _, _, _, _, _, q⟩ => q.elim
theorem free_by {X : Cx} {scope sc : Scope} (h : X.env.scope = sc) (b : (scope.names.all fun y => !decide (y.2 = .free) || decide (sc.names.lookup y.1 = some .cell)) = true) : ∀ y ∈ scope.names, y.2 = .free → X.env.scope.names.lookup y.1 = some .cell := fun y hy e => by
  have := List.all_eq_true.mp b y hy
  rw [e, decide_eq_true rfl, Bool.not_true, Bool.false_or] at this
  rw [h]
  exact of_decide_eq_true this
/-- what stood in slot i is given up -/
theorem ds_drop {P : Tb} {G0 : Hp} {n : Nat} {X : Cx} {st : Stmt} {t : DTS} (i : Nat) (hi : n ≤ i) (h : DS P G0 n X st t) : DS P G0 n X st (fun D ρ => t D (ρ.set i .un)) := ps_weak h fun D σ H ⟨ρ, G, D0, s, R, h, k⟩ => by
  have R' : Rep (zOf X P) [] G (ρ.set i .un) σ H := R.less (List.length_set ..) fun j lc e => by
    rcases set_get e with ⟨_, z, _⟩ | ⟨_, e⟩
    · exact .inl z
    · exact .inr e
  exact ⟨_, G, D0, s, R', h, k.after (Ex.refl s.2) fun j a c hj e => ⟨c, by rw [List.getElem?_set_ne (by omega)]; exact e⟩⟩
theorem dSeq_go {t u : DTS} {nx bk ct : Sto → Prop} {rt : PyData → Sto → Prop} {ro : Oc → Sto → Prop} {ρ : Sto} (h : ∀ N : Sto → Prop, N = u ⟨nx, rt, bk, ct, ro⟩ → t ⟨N, rt, bk, ct, ro⟩ ρ) : dSeq t u ⟨nx, rt, bk, ct, ro⟩ ρ := h _ rfl
theorem dSeq_for {ti : DTI} {g : DTG} {tb u : DTS} {nx bk ct : Sto → Prop} {rt : PyData → Sto → Prop} {ro : Oc → Sto → Prop} {ρ : Sto} (h : ∀ (B : DTS) (N : Sto → Prop), B = tb → N = u ⟨nx, rt, bk, ct, ro⟩ → ti ρ fun ds ρ1 => forW g B ⟨N, rt, bk, ct, ro⟩ ds ρ1) : dSeq (dFor ti g tb) u ⟨nx, rt, bk, ct, ro⟩ ρ := h _ _ rfl rfl
/-- a loop by what holds at its head; a turn's end is K -/
theorem forW_go {g : DTG} {tb : DTS} {D : EndsD} (J : List PyData → Sto → Prop) (hn : ∀ ρ, J [] ρ → D.nx ρ)
    (hc : ∀ (K : Sto → Prop) d ds ρ, J (d :: ds) ρ → (∀ ρ', J ds ρ' → K ρ') → g d ρ fun ρ' => tb ⟨K, D.rt, D.nx, K, D.ro⟩ ρ') : ∀ ds ρ, J ds ρ → forW g tb D ds ρ
  | [], ρ, h => hn ρ h
  | d :: ds, ρ, h => hc (forW g tb D ds) d ds ρ h fun ρ' j => forW_go J hn hc ds ρ' j
end Dl
set_option Elab.async false
set_option linter.all false
set_option maxRecDepth 100000
set_option maxHeartbeats 4000000
namespace Dl
open PySem PySem.Spec PyProof PyProof.Rows L2 So Da
theorem cut_n0 (ds : List PyData) (a : Nat) : cutD ds (some (a : Int)) none = ds.drop a := by
  unfold cutD
  rw [HT.sIx_nat, HT.sIx_none]
  by_cases h : a ≤ ds.length
  · rw [Nat.min_eq_left h, List.take_of_length_le (by rw [List.length_drop]; omega)]
  · rw [Nat.min_eq_right (by omega), List.drop_of_length_le (by omega), List.drop_of_length_le (by omega), List.take_nil]
theorem ix_nat {ds : List PyData} {j : Nat} {d : PyData} {Q : PyData → Prop} (e : ds[j]? = some d) : ixD (.list ds) (.int (j : Nat)) Q = Q d := by
  unfold ixD
  simp only [atI_nat e]
theorem ix_natT {ds : List PyData} {j : Nat} {d : PyData} {Q : PyData → Prop} (e : ds[j]? = some d) : ixD (.tuple ds) (.int (j : Nat)) Q = Q d := by
  unfold ixD
  simp only [atI_nat e]
theorem ix_L0 {a : PyData} {l : List PyData} {Q : PyData → Prop} : ixD (.list (a :: l)) (.int 0) Q = Q a := by
  unfold ixD
  simp only [at_0]
theorem ix_L1 {a b : PyData} {l : List PyData} {Q : PyData → Prop} : ixD (.list (a :: b :: l)) (.int 1) Q = Q b := by
  unfold ixD
  simp only [at_1]
theorem ix_L2 {a b c : PyData} {l : List PyData} {Q : PyData → Prop} : ixD (.list (a :: b :: c :: l)) (.int 2) Q = Q c := by
  unfold ixD
  simp only [at_2]
theorem lay_all {ds : List PyData} (h : ∀ d ∈ ds, d.canLay0 = true) : PyData.canLayAll0 ds = true := by
  induction ds with
  | nil => rfl
  | cons d ds ih =>
    unfold PyData.canLayAll0
    rw [h d List.mem_cons_self, ih fun x m => h x (List.mem_cons_of_mem _ m)]
    rfl
theorem lay_tup {ds : List PyData} (h : ∀ d ∈ ds, d.canLay0 = true) : (PyData.tuple ds).canLay0 = true := by
  unfold PyData.canLay0
  exact lay_all h
theorem eqD_int {i j : Int} {Q : PyData → Prop} : eqD (.int i) (.int j) Q = Q (.bool (decide (i = j))) := rfl
theorem eqD_str {i j : Str} {Q : PyData → Prop} : eqD (.str i) (.str j) Q = Q (.bool (decide (i = j))) := rfl
theorem eqD_bl {i j : Bool} {Q : PyData → Prop} : eqD (.bool i) (.bool j) Q = Q (.bool (decide (i = j))) := rfl
theorem eqD_tuple {ds : List PyData} {y : PyData} {Q : PyData → Prop} : eqD (.tuple ds) y Q = (SeqAt.shaped (.tuple ds) = true ∧ SeqAt.shaped y = true ∧ Q (.bool (PyData.eqv (.tuple ds) y))) := rfl
theorem eqD_tupleR {ds : List PyData} {x : PyData} {Q : PyData → Prop} : eqD x (.tuple ds) Q = (SeqAt.shaped x = true ∧ SeqAt.shaped (.tuple ds) = true ∧ Q (.bool (PyData.eqv x (.tuple ds)))) := by cases x <;> rfl
theorem eqD_list {ds : List PyData} {y : PyData} {Q : PyData → Prop} : eqD (.list ds) y Q = (SeqAt.shaped (.list ds) = true ∧ SeqAt.shaped y = true ∧ Q (.bool (PyData.eqv (.list ds) y))) := rfl
theorem eqD_listR {ds : List PyData} {x : PyData} {Q : PyData → Prop} : eqD x (.list ds) Q = (SeqAt.shaped x = true ∧ SeqAt.shaped (.list ds) = true ∧ Q (.bool (PyData.eqv x (.list ds)))) := by cases x <;> rfl
theorem eqD_non {y : PyData} {Q : PyData → Prop} : eqD .none y Q = (SeqAt.shaped .none = true ∧ SeqAt.shaped y = true ∧ Q (.bool (PyData.eqv .none y))) := rfl
theorem neD_int {i j : Int} {Q : PyData → Prop} : neD (.int i) (.int j) Q = Q (.bool (!decide (i = j))) := rfl
theorem neD_str {i j : Str} {Q : PyData → Prop} : neD (.str i) (.str j) Q = Q (.bool (!decide (i = j))) := rfl
theorem neD_bl {i j : Bool} {Q : PyData → Prop} : neD (.bool i) (.bool j) Q = Q (.bool (!decide (i = j))) := rfl
theorem neD_tuple {ds : List PyData} {y : PyData} {Q : PyData → Prop} : neD (.tuple ds) y Q = (SeqAt.shaped (.tuple ds) = true ∧ SeqAt.shaped y = true ∧ Q (.bool (!PyData.eqv (.tuple ds) y))) := rfl
theorem neD_tupleR {ds : List PyData} {x : PyData} {Q : PyData → Prop} : neD x (.tuple ds) Q = (SeqAt.shaped x = true ∧ SeqAt.shaped (.tuple ds) = true ∧ Q (.bool (!PyData.eqv x (.tuple ds)))) := by cases x <;> rfl
theorem neD_list {ds : List PyData} {y : PyData} {Q : PyData → Prop} : neD (.list ds) y Q = (SeqAt.shaped (.list ds) = true ∧ SeqAt.shaped y = true ∧ Q (.bool (!PyData.eqv (.list ds) y))) := rfl
theorem neD_listR {ds : List PyData} {x : PyData} {Q : PyData → Prop} : neD x (.list ds) Q = (SeqAt.shaped x = true ∧ SeqAt.shaped (.list ds) = true ∧ Q (.bool (!PyData.eqv x (.list ds)))) := by cases x <;> rfl
theorem neD_non {y : PyData} {Q : PyData → Prop} : neD .none y Q = (SeqAt.shaped .none = true ∧ SeqAt.shaped y = true ∧ Q (.bool (!PyData.eqv .none y))) := rfl
end Dl
set_option Elab.async false
set_option linter.all false
set_option maxRecDepth 100000
set_option maxHeartbeats 4000000
namespace SoG
open PySem PySem.Spec PyProof.Rows L2 So
/-- a law's def where it is called from outside: there nothing is under way -/
def GOk (Pg : Program) (w : World) (K : PySem.W.Frag) (mg : Str → Option Value) (base : Heap) (f : Addr) (fd : FuncData) (sp : Sp) : Prop :=
  ∀ (s : Shared) (H : Hp) (u : Value) (v : V) (Q : VK) (E : XK), Env0 Pg w K mg base callerA [] s H → BindsTo s fd ⟨[u], []⟩ [("script", u)] → RelV v u → sp [v] H Q E → codeAny (model Pg w) callerA (.call (.ref f) ⟨[u], []⟩) (CR CX0 [] Pg w H s Q E) s
section
variable {Pg : Program} {w : World} {K : PySem.W.Frag} {mg : Str → Option Value} {base : Heap}
end
end SoG
set_option Elab.async false
set_option linter.all false
set_option maxRecDepth 100000
set_option maxHeartbeats 4000000
namespace SoG3
open PySem PySem.Spec PyProof.Rows L2 So SoG
noncomputable def h0 (K : PySem.W.Frag) (a : Addr) (Ts : List Addr) (o : Obj) (xs : List V) : Hp := fun b =>
  if b ∈ Ts then some (.tbl #[]) else if b = a ∧ K.lookup a = none then some (.frz o (.lst xs)) else none
section
variable {K : PySem.W.Frag} {a : Addr} {Ts : List Addr} {o : Obj} {xs : List V}
theorem h0_T {T : Addr} (m : T ∈ Ts) : h0 K a Ts o xs T = some (.tbl #[]) := if_pos m
theorem h0_a (n : a ∉ Ts) (h : K.lookup a = none) : h0 K a Ts o xs a = some (.frz o (.lst xs)) := (if_neg n).trans (if_pos ⟨rfl, h⟩)
theorem h0_one {b : Addr} {u : HO} (h : h0 K a Ts o xs b = some u) : (b ∈ Ts ∧ u = .tbl #[]) ∨ (b ∉ Ts ∧ b = a ∧ K.lookup a = none ∧ u = .frz o (.lst xs)) := by
  by_cases e : b ∈ Ts
  · exact .inl ⟨e, Option.some.inj (((if_pos e).symm.trans h).symm)⟩
  · have h' := (if_neg e).symm.trans h
    by_cases e2 : b = a ∧ K.lookup a = none
    · exact .inr ⟨e, e2.1, e2.2, Option.some.inj ((if_pos e2).symm.trans h').symm⟩
    · exact nomatch (if_neg e2).symm.trans h'
end
variable {Pg : Program} {w : World} {K : PySem.W.Frag} {mg mb : Str → Option Value} {fa a : Addr} {cs : List (Addr × Addr)} {fd : FuncData} {sp : Sp} {s : Shared} {vs : List Value} {ns : List Int}
/-- the law is called: what GOk says of it is the law's truth -/
theorem law_end (KX : K.In s.heap) (hG : s.heap.Ns mainGlobals mg) (hB : s.heap.Ns builtinsNs mb) (hBB : ∀ x : Str, x ≠ "__name__" → mb x = bootBuiltins x) (hL : s.heap.NoLimit) (hg : s.gens = #[])
    (tT : ∀ p ∈ cs, s.heap.get? p.2 = some { cls := .none, data := .fields #[] }) (nT : ∀ p ∈ cs, K.lookup p.2 = none) (Cd : ∀ p ∈ cs, PySem.W.CodeHd s.heap p.1 p.2)
    (bm : ∃ (m : Addr) (ob : Obj), mg "__builtins__" = some (.ref m) ∧ m ≠ builtinsNs ∧ s.heap.get? m = some ob ∧ ob.cls = .type "module" ∧ ob.dict = some builtinsNs ∧ ob.data = .plain)
    (ha : s.heap.get? a = some { cls := .type "list", data := .seq vs.toArray }) (hi : IntsAre vs ns) (hl : ns.length ≤ sizeLine)
    (F : ∀ base : Heap, K.In base → base.Ns mainGlobals mg → (∀ p ∈ cs, GxR.TabB base mg p.1 p.2) → GOk Pg w K mg base fa fd sp) (hb : ∀ (s : Shared) (u : Value), BindsTo s fd ⟨[u], []⟩ [("script", u)])
    (hsp : ∀ H : Hp, (∀ p ∈ cs, H p.2 = some (.tbl #[])) → SqL K H a (ns.map V.int) → sp [.ref a] H (fun v _ => v = .bl true) fun _ _ _ => False) :
    codeAny (model Pg w) callerA (.call (.ref fa) ⟨[.ref a], []⟩) (fun r s' => r = .ok (.ret (.bool true)) ∧ OldK s.heap s'.heap ∧ s'.os = s.os ∧ AllBare s'.gens) s := by
  have vi := vals_ints hi
  have lv := hi.length
  have memT : ∀ {b : Addr}, b ∈ cs.map (·.2) → ∃ p ∈ cs, p.2 = b := fun m => List.mem_map.mp m
  have tT' : ∀ {b : Addr}, b ∈ cs.map (·.2) → s.heap.get? b = some { cls := .none, data := .fields #[] } := fun m => by
    obtain ⟨p, hp, rfl⟩ := memT m
    exact tT p hp
  have nT' : ∀ {b : Addr}, b ∈ cs.map (·.2) → K.lookup b = none := fun m => by
    obtain ⟨p, hp, rfl⟩ := memT m
    exact nT p hp
  have aT : a ∉ cs.map (·.2) := fun z => by
    rw [tT' z] at ha
    exact nomatch congrArg Obj.data (Option.some.inj ha)
  obtain ⟨H, hH⟩ : ∃ H, H = h0 K a (cs.map (·.2)) { cls := .type "list", data := .seq vs.toArray } (ns.map V.int) := ⟨_, rfl⟩
  have free : ∀ {b : Addr} {ob : Obj}, s.heap.get? b = some ob → (∀ us n, ob.data ≠ .seq us n) → ob.data ≠ .fields #[] → H b = none := by
    intro b ob e n1 n2
    cases q : H b with
    | none => rfl
    | some u =>
      rw [hH] at q
      rcases h0_one q with ⟨m, _⟩ | ⟨_, rfl, _, _⟩
      · rw [tT' m] at e
        cases e
        exact absurd rfl n2
      · rw [ha] at e
        cases e
        exact absurd rfl (n1 _ _)
  have get : ∀ {b : Addr} {ob : Obj}, s.heap.get? b = some ob → H b = none → (hidT s.heap H).get? b = some ob := hidT_get
  have dic : ∀ {b : Addr} {ob : Obj} {es : Array DictEntry} {n : Nat}, s.heap.get? b = some ob → ob.data = .dict es n → (hidT s.heap H).get? b = some ob := fun e d =>
    get e (free e (fun _ _ z => nomatch d.symm.trans z) fun z => nomatch d.symm.trans z)
  have nsp : ∀ {b : Addr} {m : Str → Option Value}, s.heap.Ns b m → (hidT s.heap H).Ns b m := by
    rintro b m ⟨ob, es, n, e, d, rest⟩
    exact ⟨ob, es, n, dic e d, d, rest⟩
  have KH : K.In (hidT s.heap H) := by
    intro b ob e
    refine get (KX b ob e) ?_
    cases q : H b with
    | none => rfl
    | some u =>
      rw [hH] at q
      rcases h0_one q with ⟨m, _⟩ | ⟨_, rfl, na, _⟩
      · rw [nT' m] at e
        cases e
      · rw [na] at e
        cases e
  have tab : ∀ p ∈ cs, GxR.TabB (hidT s.heap H) mg p.1 p.2 := by
    intro p hp
    have tTp := tT p hp
    constructor
    · obtain ⟨ob, us, file, tf, flags, tg, inF, text, tt, e, r1, r2, r3, rest⟩ := Cd p hp
      refine ⟨ob, us, file, tf, flags, tg, inF, text, tt, get e (free e (fun _ _ z => nomatch r2.symm.trans z) fun z => ?_), r1, r2, r3, rest⟩
      cases r2.symm.trans z
      exact nomatch r3
    · obtain ⟨m, ob, b1, b2, b3, b4, b5, b6⟩ := bm
      refine ⟨m, ob, b1, b2, fun q => ?_, fun q => ?_, get b3 (free b3 (fun _ _ z => nomatch b6.symm.trans z) fun z => nomatch b6.symm.trans z), b4, b5, b6⟩
      · obtain ⟨_, _, _, e, d, _⟩ := hG
        rw [← q, b3] at e
        cases e
        exact nomatch b6.symm.trans d
      · rw [q, tTp] at b3
        cases b3
        exact nomatch b6
    · intro z
      obtain ⟨_, _, _, e, d, _⟩ := hG
      rw [z, tTp] at e
      cases e
      exact nomatch d
  have hok : HOk Pg w H s.heap := by
    intro b u q
    rw [hH] at q
    rcases h0_one q with ⟨m, rfl⟩ | ⟨_, rfl, _, rfl⟩
    · exact tT' m
    · exact ⟨ha, by rw [List.length_map]; exact hl, vs, _, vi, ha⟩
  have sq : SqL K H a (ns.map V.int) := by
    cases q : K.lookup a with
    | none => exact .inl (.inr ⟨_, by rw [hH]; exact h0_a aT q⟩)
    | some ob =>
      have e := KX a ob q
      rw [ha] at e
      cases e
      exact .inr ⟨_, vs.toArray, _, q, rfl, rfl, rfl, by rw [List.size_toArray, lv]; exact hl, by simpa using vi⟩
  have hT : ∀ p ∈ cs, H p.2 = some (.tbl #[]) := fun p hp => by
    rw [hH]
    exact h0_T (List.mem_map.mpr ⟨p, hp, rfl⟩)
  have e0 : Env0 Pg w K mg (hidT s.heap H) callerA [] s H :=
    { frames := rfl
      mod := ⟨KH, nsp hG, ⟨mb, nsp hB, hBB⟩, hL.imp fun _ z => ⟨nsp z.1, z.2⟩⟩
      bs := fun _ _ e => of_hidT e
      bsz := Nat.le_of_eq (hidT_size _ _)
      funs := trivial
      frf := fun _ z => nomatch z
      hok := hok
      bare := .of_eq hg }
  refine codeAny_mono (F _ KH (nsp hG) tab s H (.ref a) (.ref a) _ _ e0 (hb s _) rfl (hsp H hT sq)) fun r s' h => ?_
  match r, h with
  | .ok (.ret u), ⟨v, H', os, bare, un, hok', rv, e⟩ =>
    cases e
    cases (show u = Value.bool true from rv)
    have gT : ∀ p ∈ cs, ∃ more, s'.heap.get? p.2 = some { cls := .none, data := .fields more } := fun p hp => by
      obtain ⟨more, z⟩ := un.tbls p.2 #[] (hT p hp)
      have := hok' p.2 _ z
      rw [Array.empty_append] at this
      exact ⟨more, this⟩
    have key : ∀ b ob, b ∉ cs.map (·.2) → s.heap.get? b = some ob → s'.heap.get? b = some ob := by
      intro b ob n e
      cases q : H b with
      | none => exact un.keep b ob e q (fun z => nomatch z) (fun z => nomatch z)
      | some u =>
        have q' := q
        rw [hH] at q'
        rcases h0_one q' with ⟨m, _⟩ | ⟨_, rfl, _, rfl⟩
        · exact absurd m n
        · rw [ha] at e
          cases e
          exact (hok' _ _ (un.frzs _ _ _ q)).1
    refine ⟨rfl, ⟨fun b ob e => ?_, fun b ob e => ?_⟩, os, bare⟩
    · by_cases n : b ∈ cs.map (·.2)
      · obtain ⟨p, hp, rfl⟩ := memT n
        rw [tT p hp] at e
        cases e
        obtain ⟨more, gp⟩ := gT p hp
        exact .inr (.inl ⟨((Cd p hp).tab (tT p hp)).isCodeTable, rfl, #[], more, rfl, by rw [Array.empty_append]; exact gp⟩)
      · exact .inl (key b ob n e)
    · by_cases n : b ∈ cs.map (·.2)
      · obtain ⟨p, hp, rfl⟩ := memT n
        obtain ⟨more, gp⟩ := gT p hp
        exact ⟨_, gp⟩
      · exact ⟨_, key b ob n e⟩
  | .error e, h => exact h.elim
  | .ok .next, h => exact h.elim
  | .ok .brk, h => exact h.elim
  | .ok .cont, h => exact h.elim
end SoG3
set_option Elab.async false
set_option linter.all false
set_option maxRecDepth 100000
set_option maxHeartbeats 4000000
namespace Dl
open PySem PySem.Spec PyProof PyProof.Rows L2 So Da
theorem tab_mk {K : PySem.W.Frag} {x : Str} {f c P : Addr} {o1 : Value} {o2 : Option Addr} {o3 : Array (Option Value)} {fd : FuncData} {e1 : Value} {e2 : Option Addr} {vs : Array Value} {e3 : Array (Option Value)} (a : PySem.W.nsIn K mainGlobals x = some (some (.ref f))) (l : K.lookup f = some ⟨o1, o2, .func fd, o3⟩) (hc : fd.code = .ref c)
    (lc : K.lookup c = some ⟨e1, e2, .fields vs, e3⟩) (hp : vs[11]? = some (.ref P)) : PySem.W.tabIn K x = some (c, P) := by
  unfold PySem.W.tabIn
  rw [a]
  dsimp only
  rw [l]
  dsimp only
  rw [hc]
  dsimp only
  rw [lc]
  dsimp only
  rw [hp]
theorem exm_self {K : PySem.W.Frag} {S : Addr} (h1 : PySem.W.subIn K (.ref S) (.type "BaseException") = some true) (h2 : PySem.W.isClsIn K S = true) (h3 : PySem.W.typeIn K (.ref S) = some (.type "type")) (h4 : PySem.W.subIn K (.ref S) (.ref S) = some true) :
    PySem.W.exmOne K (.ref S) (.ref S) = some true := by
  have e1 : (PySem.W.subIn K (.ref S) (.type "BaseException") == some true) = true := by rw [h1] <;> rfl
  have e2 : ((PySem.W.clsIn K S).isSome && PySem.W.typeIn K (.ref S) == some (.type "type")) = true := by
    have h2' : (PySem.W.clsIn K S).isSome = true := h2
    rw [h2', h3] <;> rfl
  show (if (PySem.W.subIn K (.ref S) (.type "BaseException") == some true) = true then (if ((PySem.W.clsIn K S).isSome && PySem.W.typeIn K (.ref S) == some (.type "type")) = true then PySem.W.subIn K (.ref S) (.ref S) else none) else none) = some true
  rw [if_pos e1, if_pos e2]
  exact h4
/-- what the law is called with, and what it has to come to -/
def spLawS (K : PySem.W.Frag) (Ps : List Addr) : Sp := fun vs H Q _ => ∃ (a : Addr) (ns : List Int), vs = [.ref a] ∧ (∀ P ∈ Ps, H P = some (.tbl #[])) ∧ SqL K H a (ns.map V.int) ∧ ns.length ≤ 63 ∧ ∀ H', Q (.bl true) H'
theorem start_rep {Z : Zw} {H : Hp} {a : Addr} {ns : List Int} (hT : ∀ P ∈ Z.T.P :: Z.T.L.map (fun p => p.1), H P = some (.tbl #[])) (hS : SqL Z.K H a (ns.map V.int)) : ∃ G, Tg G Z.T ∧ Rep Z [] G [Lc.sh (PyData.list (ns.map PyData.int))] (([V.ref a] : List V).map some) H := by
  let G : Hp := fun b => if b ∈ Z.T.P :: Z.T.L.map (·.1) then some (.tbl #[]) else if b = a then match H a with
    | some (.lst xs) => some (.lst xs)
    | some (.frz ob (.lst xs)) => some (.frz ob (.lst xs))
    | _ => none
    else none
  have gT : ∀ {b}, b ∈ Z.T.P :: Z.T.L.map (·.1) → G b = some (.tbl #[]) := fun m => if_pos m
  have sub : Sub G H := fun b o e => by
    by_cases m : b ∈ Z.T.P :: Z.T.L.map (·.1)
    · rw [gT m] at e
      cases e
      exact hT b m
    · rw [show G b = _ from if_neg m] at e
      by_cases z : b = a
      · rw [if_pos z] at e
        rw [z]
        split at e
        · rename_i q
          rw [q, ← e]
        · rename_i q
          rw [q, ← e]
        · cases e
      · rw [if_neg z] at e
        cases e
  have tg : Tg G Z.T := ⟨⟨#[], gT List.mem_cons_self, by simp [TriplesOk]⟩, fun p hp => ⟨#[], gT (List.mem_cons_of_mem _ (List.mem_map.mpr ⟨p, hp, rfl⟩)), by simp [TriplesOk], fun pos cv z => nomatch z⟩⟩
  have nt : NT G := fun b o e => by
    by_cases m : b ∈ Z.T.P :: Z.T.L.map (·.1)
    · rw [gT m] at e
      cases e
      trivial
    · rw [show G b = _ from if_neg m] at e
      by_cases z : b = a
      · rw [if_pos z] at e
        split at e
        · cases e
          trivial
        · cases e
          trivial
        · cases e
      · rw [if_neg z] at e
        cases e
  have sq : SqL Z.K G a (ns.map V.int) := by
    rcases hS with (h | ⟨ob, h⟩) | h
    · have na : a ∉ Z.T.P :: Z.T.L.map (·.1) := fun m => by rw [hT a m] at h; cases h
      exact .inl (.inl (((if_neg na).trans (if_pos rfl)).trans (by rw [h])))
    · have na : a ∉ Z.T.P :: Z.T.L.map (·.1) := fun m => by rw [hT a m] at h; cases h
      exact .inl (.inr ⟨ob, ((if_neg na).trans (if_pos rfl)).trans (by rw [h])⟩)
    · exact .inr h
  refine ⟨G, tg, rfl, fun {i D} e => ?_, fun {i b c} e => ?_, fun {i b C d D} e => ?_, fun {i O} e => ?_, fun {i j b c c'} e e' => ?_, fun m => absurd m List.not_mem_nil, sub, nt⟩
  · match i, e with
    | 0, e =>
      cases e
      exact ⟨.ref a, rfl, .lst sq dpa_of_ints⟩
    | i + 1, e => simp at e
  · match i, e with
    | 0, e => cases e
    | i + 1, e => simp at e
  · match i, e with
    | 0, e => cases e
    | i + 1, e => simp at e
  · match i, e with
    | 0, e => cases e
    | i + 1, e => simp at e
  · match i, e with
    | 0, e => cases e
    | i + 1, e => simp at e
theorem law_go {Z : Zw} {k : Nat} {f : Addr} {fd : FuncData} {T : TD} (F : FnD Z.Pg Z.w Z.K Z.mg Z.base CX0 k f fd ["script"] (spT Z T)) (hr : Room k callerA)
    (hT : ∀ (ns : List Int) (Q : PyData → List Lc → Prop) (er : EK), ns.length ≤ 63 → (∀ as, Q (.bool true) as) → T [.sh (.list (ns.map .int))] Q er) : SoG.GOk Z.Pg Z.w Z.K Z.mg Z.base f fd (spLawS Z.K (Z.T.P :: Z.T.L.map (·.1))) :=
  fun s H u v Q E e0 hb r ⟨a, ns, e, ht, sq, l, q⟩ => by
    cases e
    refine F.run callerA [] s H ⟨[u], []⟩ [u] [.ref a] Q E hr rfl e0 hb (.cons r .nil) ?_
    obtain ⟨G, tg, R⟩ := start_rep ht sq
    refine ⟨G, _, fun D _ => D = .bool true, fun _ => False, tg, R, hT ns _ _ l (fun _ => rfl), fun D as' v G' H' e _ _ _ d => ?_, fun _ _ _ _ _ _ z => z.elim⟩
    subst e
    cases d
    exact q H'
end Dl
set_option Elab.async false
set_option linter.all false
set_option maxRecDepth 100000
set_option maxHeartbeats 4000000
namespace Dl
open PySem PySem.Spec PyProof PyProof.Rows L2 So Da
theorem so_list {l : List Nat} : PyData.strOk ⟨l.toArray⟩ = l.all (· < 0x110000) := by
  unfold PyData.strOk
  rw [← Array.all_toList]
theorem so_of {x : Str} : PyData.strOk x = x.cps.toList.all (· < 0x110000) := by
  unfold PyData.strOk
  rw [← Array.all_toList]
theorem so_chars : ∀ l : List Char, (l.map Char.toNat).all (· < 0x110000) = true
  | [] => rfl
  | c :: l => by
    rw [List.map_cons, List.all_cons, so_chars l, Bool.and_true]
    have hc : c.toNat < 1114112 := by
      have h := c.valid
      simp only [UInt32.isValidChar, Nat.isValidChar] at h
      show c.val.toNat < 1114112
      omega
    exact decide_eq_true hc
theorem so_str (s : String) : PyData.strOk (Str.ofString s) = true := by
  rw [Str.ofString_eq_toList, so_list]
  exact so_chars _
theorem so_app {a b : Str} (h : PyData.strOk a = true) (k : PyData.strOk b = true) : PyData.strOk (a ++ b) = true := by
  rw [so_of] at h k ⊢
  show (a.cps ++ b.cps).toList.all _ = true
  rw [Array.toList_append, List.all_append, h, k]
  rfl
theorem so_join {s : Str} (h : PyData.strOk s = true) : ∀ {ts : List Str}, (∀ t ∈ ts, PyData.strOk t = true) → PyData.strOk (Str.join s ts) = true
  | [], _ => so_str ""
  | [x], k => k x List.mem_cons_self
  | x :: y :: r, k => so_app (so_app (k x List.mem_cons_self) h) (so_join h fun t m => k t (List.mem_cons_of_mem _ m))
theorem so_from : ∀ {ts : List Str} {k : Nat} {acc : Str}, PyData.strOk acc = true → (∀ t ∈ ts, PyData.strOk t = true) → PyData.strOk (textFrom k acc ts) = true
  | [], _, _, h, _ => h
  | t :: ts, k, acc, h, q => by
    unfold textFrom
    exact so_from (so_app (so_app h (so_str _)) (q t List.mem_cons_self)) fun u m => q u (List.mem_cons_of_mem _ m)
theorem so_char {q c : Nat} (hq : q < 0x110000) (hc : c < 0x110000) : (Builtin.Str.reprChar q c).all (· < 0x110000) = true := by
  have hx : ∀ w, (List.replicate (w - ((Nat.toDigits 16 c).map Char.toNat).length) 48 ++ (Nat.toDigits 16 c).map Char.toNat).all (· < 0x110000) = true := fun w => by
    rw [List.all_append, so_chars, Bool.and_true, List.all_eq_true]
    intro x m
    rw [List.eq_of_mem_replicate m]
    rfl
  unfold Builtin.Str.reprChar
  dsimp only
  split
  · simp [hc]
  split
  · rfl
  split
  · rfl
  split
  · rfl
  split
  · simp [hc]
  split
  · rw [List.all_append, hx 2]
    rfl
  split
  · rw [List.all_append, hx 4]
    rfl
  · rw [List.all_append, hx 8]
    rfl
theorem so_foldr {q : Nat} (hq : q < 0x110000) : ∀ {l : List Nat} {acc : Array Nat}, l.all (· < 0x110000) = true → acc.toList.all (· < 0x110000) = true → (l.foldl (fun out c => out ++ (Builtin.Str.reprChar q c).toArray) acc).toList.all (· < 0x110000) = true
  | [], _, _, h => h
  | c :: l, acc, k, h => by
    rw [List.all_cons, Bool.and_eq_true] at k
    rw [List.foldl_cons]
    refine so_foldr hq k.2 ?_
    rw [Array.toList_append, List.all_append, h, so_char hq (of_decide_eq_true k.1)]
    rfl
theorem so_repr {x : Str} (h : PyData.strOk x = true) : PyData.strOk (reprText x) = true := by
  have hq : reprQuote x < 0x110000 := by unfold reprQuote; split <;> decide
  rw [so_of] at h ⊢
  unfold reprText
  show ((x.cps.foldl (fun out c => out ++ (Builtin.Str.reprChar (reprQuote x) c).toArray) #[reprQuote x]).push (reprQuote x)).toList.all _ = true
  rw [Array.toList_push, List.all_append, ← Array.foldl_toList, so_foldr hq h (by simp [hq])]
  simp [hq]
mutual
theorem so_shown : ∀ {D : PyData}, D.canLay0 = true → PyData.strOk D.shown = true
  | .none, _ => so_str _
  | .bool b, _ => by cases b <;> exact so_str _
  | .int i, _ => so_str _
  | .str x, h => by
    simp only [PyData.canLay0] at h
    exact so_repr h
  | .list ds, h => by
    simp only [PyData.canLay0] at h
    exact so_app (so_from (so_str _) (so_shownA h)) (so_str _)
  | .tuple ds, h => by
    simp only [PyData.canLay0] at h
    exact so_app (so_app (so_str _) (so_join (so_str _) (so_shownA h))) (so_str _)
  | .dict _, h => by simp [PyData.canLay0] at h
theorem so_shownA : ∀ {Ds : List PyData}, PyData.canLayAll0 Ds = true → ∀ t ∈ PyData.shownAll Ds, PyData.strOk t = true
  | [], _, t, m => nomatch m
  | d :: ds, h, t, m => by
    unfold PyData.canLayAll0 at h
    rw [Bool.and_eq_true] at h
    rcases List.mem_cons.mp m with rfl | m
    · exact so_shown h.1
    · exact so_shownA h.2 t m
end
theorem so_rep {D : PyData} (h : D.canLay0 = true) : PyData.strOk (repD D) = true := by
  cases D with
  | none => exact so_str _
  | bool b => cases b <;> exact so_str _
  | int i => exact so_str _
  | str x => exact so_repr (by simpa only [PyData.canLay0] using h)
  | list ds => exact so_shown h
  | tuple ds => exact so_shown h
  | dict ds => simp [PyData.canLay0] at h
/-- (text, b), ('word', .., text) and the like can be compared -/
theorem sh_flat {ds : List PyData} (h : ∀ d ∈ ds, d.canLay0 = true ∧ flatD d = true) : SeqAt.shaped (.tuple ds) = true := by
  unfold SeqAt.shaped
  have e : PyData.depthAll ds = 0 := by
    induction ds with
    | nil => rfl
    | cons d ds ih =>
      have h0 : d.depth = 0 := by
        have := (h d List.mem_cons_self).2
        cases d <;> first | rfl | exact nomatch this
      simp only [PyData.depthAll]
      rw [h0, ih fun x m => h x (List.mem_cons_of_mem _ m)]
      rfl
  rw [lay_tup fun d m => (h d m).1, show (PyData.tuple ds).depth = PyData.depthAll ds + 1 from rfl, e]
  rfl
theorem eqv_l {D : PyData} (h : D.canLay0 = true) : PyData.eqv D D = true := PySem.SeqAt.eqv_refl D h
end Dl
set_option Elab.async false
set_option linter.all false
namespace Dl
open PySem PySem.Spec PyProof PyProof.Rows L2 So Da
section
variable {Q : PyData → Prop} {k : List PyData → Prop} {i j : Int} {x y : Str} {b : Bool} {ds es : List PyData} {lo hi : Option Int}
theorem itemsD_L : itemsD (.list ds) k = k ds := rfl
theorem itemsD_T : itemsD (.tuple ds) k = k ds := rfl
theorem tupleD_L : tupleD (.list ds) Q = Q (.tuple ds) := rfl
theorem tupleD_T : tupleD (.tuple ds) Q = Q (.tuple ds) := rfl
theorem listD_L : listD (.list ds) Q = Q (.list ds) := rfl
theorem listD_T : listD (.tuple ds) Q = Q (.list ds) := rfl
theorem lenD_L : lenD (.list ds) Q = Q (.int (ds.length : Nat)) := rfl
theorem lenD_T : lenD (.tuple ds) Q = Q (.int (ds.length : Nat)) := rfl
theorem lenD_S : lenD (.str x) Q = (x.length ≤ sizeLine ∧ Q (.int (x.length : Nat))) := rfl
theorem slD_L : slD (.list ds) lo hi Q = Q (.list (cutD ds lo hi)) := rfl
theorem slD_T : slD (.tuple ds) lo hi Q = Q (.tuple (cutD ds lo hi)) := rfl
theorem addD_I : addD (.int i) (.int j) Q = Q (.int (i + j)) := rfl
theorem addD_S : addD (.str x) (.str y) Q = (x.length + y.length ≤ sizeLine ∧ Q (.str (x ++ y))) := rfl
theorem addD_T : addD (.tuple ds) (.tuple es) Q = (ds.length + es.length ≤ sizeLine ∧ Q (.tuple (ds ++ es))) := rfl
theorem addD_L : addD (.list ds) (.list es) Q = (ds.length + es.length ≤ sizeLine ∧ Q (.list (ds ++ es))) := rfl
theorem subD_I : subD (.int i) (.int j) Q = Q (.int (i - j)) := rfl
theorem mulD_I : mulD (.int i) (.int j) Q = (CMul i j ∧ Q (.int (i * j))) := rfl
theorem ltD_I : ltD (.int i) (.int j) Q = Q (.bool (decide (i < j))) := rfl
theorem ltD_S : ltD (.str x) (.str y) Q = Q (.bool (decide (x.cps.toList < y.cps.toList))) := rfl
theorem leD_I : leD (.int i) (.int j) Q = Q (.bool (decide (i ≤ j))) := rfl
theorem gtD_I : gtD (.int i) (.int j) Q = Q (.bool (decide (j < i))) := rfl
theorem geD_I : geD (.int i) (.int j) Q = Q (.bool (decide (j ≤ i))) := rfl
theorem modD_I : modD (.int i) (.int j) Q = (0 < j ∧ Q (.int (i % j))) := rfl
theorem fdivD_I : fdivD (.int i) (.int j) Q = ((0 < j ∧ j < 1073741824) ∧ Q (.int (i / j))) := rfl
theorem powD_I : powD (.int i) (.int j) Q = (CPow i j ∧ Q (.int (i ^ j.toNat))) := rfl
theorem intD_I : Dl.intD (.int i) Q = Q (.int i) := rfl
theorem intD_B : Dl.intD (.bool b) Q = Q (.int (if b = true then 1 else 0)) := rfl
theorem negD_I : negD (.int i) Q = Q (.int (-i)) := rfl
theorem isND_N : isND .none = true := rfl
theorem isND_I : isND (.int i) = false := rfl
theorem isND_S : isND (.str x) = false := rfl
theorem isND_B : isND (.bool b) = false := rfl
theorem isND_T : isND (.tuple ds) = false := rfl
theorem isND_L : isND (.list ds) = false := rfl
theorem sq_T : isSq (.tuple ds) = true := rfl
theorem sq_L : isSq (.list ds) = true := rfl
theorem sq_N : isSq .none = false := rfl
theorem sq_I : isSq (.int i) = false := rfl
theorem sq_S : isSq (.str x) = false := rfl
theorem sq_B : isSq (.bool b) = false := rfl
end
/-- for readings -/
theorem hiD' {D : PyData} (hs : isSq D = true) {k : List PyData → Prop} (h : k (itD D)) : itemsD D k := by
  cases D <;> first | exact h | exact nomatch hs
theorem hxD {D d : PyData} (hs : isSq D = true) {i : Nat} {k : PyData → Prop} (e : (itD D)[i]? = some d) (h : k d) : ixD D (.int (i : Nat)) k := by
  cases D with
  | list ds => exact (ix_nat (Q := k) (show ds[i]? = some d from e)).symm ▸ h
  | tuple ds => exact (ix_natT (Q := k) (show ds[i]? = some d from e)).symm ▸ h
  | _ => exact nomatch hs
def repB : PyData → Bool
  | .none => true
  | .bool _ => true
  | .int i => decide (i.natAbs.log2 < 1920)
  | .str z => decide ((reprText z).length ≤ 100000)
  | d => d.showable && !d.hasDict && decide (d.depth ≤ 60) && decide (d.shown.length ≤ 100000)
theorem rep_of {d : PyData} (h : repB d = true) : repOk d := by
  have big : (d.showable && !d.hasDict && decide (d.depth ≤ 60) && decide (d.shown.length ≤ 100000)) = true → d.showable = true ∧ d.hasDict = false ∧ d.depth ≤ 60 ∧ d.shown.length ≤ sizeLine := fun h => by
    simp only [Bool.and_eq_true, decide_eq_true_eq, Bool.not_eq_true'] at h
    exact ⟨h.1.1.1, h.1.1.2, h.1.2, Nat.le_trans h.2 (by decide)⟩
  cases d with
  | none => trivial
  | bool _ => trivial
  | int i => exact of_decide_eq_true (p := i.natAbs.log2 < 1920) h
  | str z => exact Nat.le_trans (of_decide_eq_true (p := (reprText z).length ≤ 100000) h) (by decide)
  | list ds => exact big h
  | tuple ds => exact big h
  | dict ds => exact big h
def clB (d : PyData) : Bool := fitD d && d.canLay0 && decide (d.depth ≤ 50) && repB d
theorem cl_ok {d : PyData} (h : clB d = true) : OkD d ∧ repOk d := by
  unfold clB at h
  simp only [Bool.and_eq_true, decide_eq_true_eq] at h
  exact ⟨⟨h.1.1.1, h.1.1.2, h.1.2⟩, rep_of h.2⟩
/-- as OkD, with the depth told -/
structure OkN (n : Nat) (d : PyData) : Prop where
  fit : fitD d = true
  lay : d.canLay0 = true
  dep : d.depth ≤ n
theorem OkN.ok {n : Nat} {d : PyData} (h : OkN n d) (l : n ≤ 50) : OkD d := ⟨h.fit, h.lay, Nat.le_trans h.dep l⟩
theorem OkN.mono {n m : Nat} {d : PyData} (h : OkN n d) (l : n ≤ m) : OkN m d := ⟨h.fit, h.lay, Nat.le_trans h.dep l⟩
end Dl
set_option Elab.async false
set_option linter.all false
set_option maxRecDepth 100000
namespace Dl
open PySem PySem.Spec PyProof PyProof.Rows L2 So Da
section
variable {P : Tb} {G0 : Hp} {n : Nat} {X : Cx} {x : Str} {p pos : Pos} {e : Expr} {es : List Expr}
end
section
variable {P : Tb} {G0 : Hp} {n : Nat} {X : Cx} {o e : Expr} {tx ty : DTE} {apos cpos : Pos}
end
end Dl
set_option Elab.async false
set_option linter.all false
set_option maxRecDepth 100000
namespace Dl
open PySem PySem.Spec PyProof PyProof.Rows L2 So Da
end Dl
namespace Dl
open PySem PySem.Spec PyProof PyProof.Rows L2 So Da
end Dl
namespace Dl
open PySem PySem.Spec PyProof PyProof.Rows L2 So Da
section
variable {P : Tb} {G0 : Hp} {n : Nat} {X : Cx} {st : Stmt}
end
end Dl
namespace Dl
open PySem PySem.Spec PyProof PyProof.Rows L2 So Da
section
variable {P : Tb} {n : Nat} {X : Cx}
end
end Dl
namespace Dl
open PySem PySem.Spec PyProof PyProof.Rows L2 So Da
section
variable {P : Tb} {G0 : Hp} {n : Nat} {X : Cx} {tg e : Expr}
end
end Dl
set_option Elab.async false
set_option linter.all false
set_option maxRecDepth 100000
set_option maxHeartbeats 4000000
namespace SoM
open PySem PySem.Spec PyProof.Rows L2
end SoM
namespace Dl
open PySem PySem.Spec PyProof PyProof.Rows L2 So Da
section
variable {P : Tb} {G0 : Hp} {n : Nat} {X : Cx} {a b : Expr} {pos : Pos} {t u : DTE}
end
end Dl
set_option Elab.async false
set_option linter.all false
set_option maxRecDepth 100000
set_option maxHeartbeats 4000000
namespace Dl
open PySem PySem.Spec PyProof PyProof.Rows L2 So Da SoC LamX NdefX
section
variable {Pg : Program} {w : World} {H : Hp} {h : Heap} {b : Addr} {o o' : HO}
end
section
variable {Z : Zw} {G G' : Hp} {b : Addr} {h : Heap} {T : Tb} {v : V} {D : PyData}
mutual
/-- data without dicts -/
def noDi : PyData → Bool
  | .list ds => noDiA ds
  | .tuple ds => noDiA ds
  | .dict _ => false
  | _ => true
def noDiA : List PyData → Bool
  | [] => true
  | d :: ds => noDi d && noDiA ds
end
mutual
theorem Dw.out (hst : ∀ s, Z.T.st s = none) : ∀ {G G' : Hp} {v : V} {D : PyData}, (∀ c o, G c = some o → (∀ φ, o ≠ .ext φ) → G' c = some o) → noDi D = true → Dw Z G v D → Dw Z G' v D
  | _, _, _, _, _, _, .non => .non
  | _, _, _, _, _, _, .bl b => .bl b
  | _, _, _, _, _, _, .int b => .int b
  | _, _, _, _, _, _, .str b => .str b
  | _, _, _, _, x, n, .lst a b => .lst (a.imp (fun q => q.imp (fun q => x _ _ q fun _ z => nomatch z) fun ⟨o, q⟩ => ⟨o, x _ _ q fun _ z => nomatch z⟩) _root_.id) (DwAll.out hst x n b)
  | _, _, _, _, x, n, .tup a b => .tup (a.imp (fun q => q.imp (fun q => x _ _ q fun _ z => nomatch z) fun ⟨o, q⟩ => ⟨o, x _ _ q fun _ z => nomatch z⟩) _root_.id) (DwAll.out hst x n b)
  | _, _, _, _, x, n, .dic a b => nomatch n
  | _, _, _, _, x, n, .clo a b => by
    obtain ⟨sc, cl, c, h, _⟩ := a.ex
    rw [hst] at h
    cases h
theorem DwAll.out (hst : ∀ s, Z.T.st s = none) : ∀ {G G' : Hp} {vs : List V} {Ds : List PyData}, (∀ c o, G c = some o → (∀ φ, o ≠ .ext φ) → G' c = some o) → noDiA Ds = true → DwAll Z G vs Ds → DwAll Z G' vs Ds
  | _, _, _, _, _, _, .nil => .nil
  | _, _, _, _, x, n, .cons a b => .cons (Dw.out hst x (Bool.and_eq_true_iff.mp n).1 a) (DwAll.out hst x (Bool.and_eq_true_iff.mp n).2 b)
end
end
section
variable {P : Tb} {G0 : Hp} {n : Nat} {X : Cx} {e : Expr} {i : Nat} {t : DTE}
/-- within a lambda: what draws from the box that it captured -/
def swapT (i : Nat) (t : DTE) : DTE := fun ρ Q => ρ[i]? = some (.ask .bx) ∧ (∀ (j : Nat) (a : Addr) (c : Oc), ρ[j]? ≠ some (.ob a c)) ∧ ∀ b, t ((List.replicate ρ.length .un).set i (.ob b .box)) fun D ρ' => ρ' = (List.replicate ρ.length .un).set i (.ob b .box) ∧ (∃ k, D = .int k) ∧ Q D ρ
/-- no objects of one's own -/
def unOb : Lc → Lc
  | .ob _ _ => .un
  | x => x
/-- where a lambda captures a box -/
def boxT (i : Nat) (t : DTE) : DTE := fun ρ Q => match ρ[i]? with
  | some (.ob _ .box) => t ((ρ.map unOb).set i (.ask .bx)) fun D ρ' => ρ' = (ρ.map unOb).set i (.ask .bx) ∧ noDi D = true ∧ Q D ρ
  | _ => False
end
end Dl
set_option Elab.async false
set_option linter.all false
set_option maxRecDepth 100000
set_option maxHeartbeats 4000000
namespace Dl
open PySem PySem.Spec PyProof PyProof.Rows L2 So Da
section
variable {P : Tb} {G0 : Hp} {n : Nat} {X : Cx}
end
section
variable {P : Tb} {G0 : Hp} {n : Nat} {X : Cx} {o e : Expr} {tx ty : DTE} {apos cpos : Pos}
end
end Dl
set_option Elab.async false
set_option linter.all false
set_option maxRecDepth 100000
set_option maxHeartbeats 4000000
namespace Dl
open PySem PySem.Spec PyProof PyProof.Rows L2 So Da SoRv RT
end Dl
set_option Elab.async false
set_option linter.all false
set_option maxRecDepth 100000
set_option maxHeartbeats 4000000
namespace Dl
open PySem PySem.Spec PyProof PyProof.Rows L2 So Da
section
variable {P : Tb} {G0 : Hp} {n : Nat} {X : Cx} {st : Stmt} {ta : DTF} {tb : DTE}
end
end Dl
set_option Elab.async false
set_option linter.all false
set_option maxRecDepth 100000
set_option maxHeartbeats 4000000
namespace Dl
open PySem PySem.Spec PyProof PyProof.Rows L2 So Da SoC
section
variable {P : Tb} {G0 : Hp} {n : Nat} {X : Cx}
/-- statements that are never reached -/
theorem dss_any {sts : List Stmt} : DSs P G0 n X sts (fun _ _ => False) := ⟨fun pins s σ H D I ⟨ρ, G, D0, s0, R, h, k⟩ => h.elim⟩
theorem fnD_no {Z : Zw} {CX : CXT} {k : Nat} {f : Addr} {fd : FuncData} {ps : List Str} {T : TD} (no : ∀ as Q er, ¬ T as Q er) : FnD Z.Pg Z.w Z.K Z.mg Z.base CX k f fd ps (spT Z T) :=
  ⟨fun vs H Q E ⟨G, as, Q0, er, _, _, h, _⟩ => absurd h (no as Q0 er), fun A outer s H args us vs Q E _ _ _ _ _ ⟨G, as, Q0, er, _, _, h, _⟩ => absurd h (no as Q0 er)⟩
def FnsOk (K : Zw) (G : Hp) : List V → List (Nat × LW) → Prop := Paired fun v l => ∃ f, v = V.ref f ∧ AskOk K G f l.1 l.2
theorem FnsOk.mono {K : Zw} {G G' : Hp} (s : Ex K.T G G') {vs : List V} {ls : List (Nat × LW)} (h : FnsOk K G vs ls) : FnsOk K G' vs ls := paired_imp (fun _ _ ⟨f, e, m⟩ => ⟨f, e, m.mono s⟩) h
variable {es : List Expr} {ls : List (Nat × LW)} {x : Str} {p pos yp dp : Pos} {y : Str} {f : Addr} {fd : FuncData} {ps : List Str} {T : TD} {st : Stmt} {k : Nat} {tb : DTS} {bd : List Stmt} {ik : Nat}
end
end Dl
set_option Elab.async false
set_option linter.all false
set_option maxRecDepth 100000
set_option maxHeartbeats 4000000
namespace Dl
open PySem PySem.Spec PyProof PyProof.Rows L2 So Da
section
variable {X : Cx} {e b : Expr} {te tb : TE} {y z a : Str} {j0 j1 : Nat} {c0 c1 apos pos : Pos}
end
end Dl
set_option Elab.async false
set_option linter.all false
set_option maxRecDepth 100000
set_option maxHeartbeats 4000000
namespace SoE
open PySem PySem.Spec PyProof.Rows L2
end SoE
namespace Dl
open PySem PySem.Spec PyProof PyProof.Rows L2 So Da
section
variable {P : Tb} {G0 : Hp} {n : Nat} {X : Cx} {tg e : Expr} {pos : Pos} {st : Stmt}
end
end Dl
namespace Dl
open PySem PySem.Spec PyProof PyProof.Rows L2 So Da
section
variable {P : Tb} {G0 : Hp} {n : Nat} {X : Cx} {st : Stmt} {ta : DTF} {tb tc td te : DTE}
end
end Dl
namespace Dl
open PySem PySem.Spec PyProof PyProof.Rows L2 So Da
section
variable {P : Tb} {n : Nat} {X : Cx}
end
end Dl
namespace Dl
open PySem PySem.Spec PyProof PyProof.Rows L2 So Da
section
variable {P : Tb} {G0 : Hp} {n : Nat} {X : Cx} {st : Stmt} {ta tb tc : DTE}
end
end Dl
set_option Elab.async false
set_option linter.all false
set_option maxRecDepth 100000
set_option maxHeartbeats 4000000
namespace Dl
open PySem PySem.Spec PyProof PyProof.Rows L2
/-- a set that has just been made -/
def sNew (w : World) : Obj := { cls := .type "set", dict := none, data := .set #[] 0 (.fresh 0 0 (!w.params.followText "set-order")) }
section
variable {P : Program} {w : World} {A : Around} {E : Value → Shared → Prop} {s : Shared} {S l : Addr} {its : Array Value} {ns : List Int}
/-- what the new set is filled with -/
theorem fill_ints {Q : PySem.Fin → Shared → Prop} (hh : A.handled = none) (hS : s.heap.get? S = some (sNew w)) (ne : S ≠ l) (hl : s.heap.IsList l its) (hi : IntsAre its.toList ns) (hb : ns.length + 1 < scanBound)
    (h : ∀ s' c, s'.gens = s.gens → s'.drawn = s.drawn → s'.os = s.os → SetR w s'.heap S (fun j => decide (j ∈ ns)) c → c ≤ ns.length → (∀ b o, b ≠ S → s.heap.get? b = some o → s'.heap.get? b = some o) → Q (.done (.ret .none)) s') :
    wpAny (model P w) A (Builtin.«set.__init__» ⟨[.ref S, .ref l], []⟩) Q E s := by
  have len : its.size = ns.length := by
    rw [← Array.length_toList]
    exact hi.length
  obtain ⟨⟨oc, od, oda, osl⟩, ho, hc, nl, hd⟩ := id hl
  simp only at hc hd
  subst hc hd
  have no1 := F.sub_list_set
  have no2 := F.sub_list_frozenset
  have no3 : (Value.type "list" == Value.type "dict") = false := by decide
  unfold Builtin.«set.__init__» noKeywords Builtin.Frozenset.updateFrom
  generalize hPI : pyIter = PI
  wp_walk
  subst hPI
  refine wpAny_pyIter_list hl (wpAny_bind (wpAny_runValue ?_))
  have lt1 : l < s.heap.objs.size := Heap.lt_size ho
  have lt2 : S < s.heap.objs.size := Heap.lt_size hS
  have val : ∀ (i : Nat) (v : Value), its[i]? = some v → ∃ k t, ns[i]? = some k ∧ v = .int k t := fun i v e => by
    have lt : i < ns.length := len ▸ (Array.getElem?_eq_some_iff.mp e).1
    obtain ⟨t, e2⟩ := hi.int_at i v (by rw [Array.getElem?_toList]; exact e)
    exact ⟨ns[i], t, List.getElem?_eq_getElem lt, by rw [e2, List.getD_eq_getElem?_getD, List.getElem?_eq_getElem lt] <;> rfl⟩
  refine set_update_ints ((Walks.list (by simp [hh]) _ l (Nat.ne_of_lt lt1) its).toS) S ?_ ns len hb val (its.size - 0) 0 _ (by omega) (Nat.zero_le _) ⟨⟨_, Heap.get?_push_size _ rfl, rfl, rfl⟩, hl.push _⟩ ⟨0, Nat.le_refl 0, setR_new_at (Heap.get?_push_of_some _ hS)⟩ fun s' c hm hc' hS' => ?_
  · simp only [List.mem_cons, List.not_mem_nil, or_false, not_or]
    exact ⟨Nat.ne_of_lt lt2, ne⟩
  · obtain ⟨h', g2, d', tk', os'⟩ := s'
    show wpAny _ _ _ _ _ _
    refine wpAny_pure (wpAny_pure (h _ c hm.gens hm.drawn hm.os hS' (by omega) fun b o nb e => hm.heap b o ?_ (Heap.get?_push_of_some _ e)))
    simp only [List.mem_cons, List.not_mem_nil, or_false, not_or]
    exact ⟨nb, Nat.ne_of_lt (Heap.lt_size e)⟩
theorem set_list {Q : Value → Shared → Prop} (hh : A.handled = none) (hl : s.heap.IsList l its) (hi : IntsAre its.toList ns) (hb : ns.length + 1 < scanBound)
    (h : ∀ (h' : Heap) (tk c : Nat), SetR w h' s.heap.objs.size (fun j => decide (j ∈ ns)) c → c ≤ ns.length → (∀ b o, s.heap.get? b = some o → h'.get? b = some o) → Q (.ref s.heap.objs.size) { s with heap := h', toks := tk }) :
    wpAny (model P w) A (call (.type "set") [.ref l]) Q E s := by
  have lt : l < s.heap.objs.size := by
    obtain ⟨o, ho, _⟩ := hl
    exact Heap.lt_size ho
  obtain ⟨mc, mt, hmro⟩ := F.called_set.mro
  have made := F.called_set.made
  have subt := F.called_set.sub
  have notT := F.called_set.notType
  have create := F.called_set.canCreate
  have tyCall := F.typeCall_set_1 (.ref l)
  refine wpAny_call (codeAny_of_tree ?_)
  show wpAny _ _ (callAny (.type "set") _) _ _ _
  refine wpAny_pure ⟨Code.quiet_builtin _ (by decide +kernel), codeAny_builtin F.entry_type_call ?_⟩
  rw [Around.under_plain (weight_type_call_type "set" [.ref l] []) rfl]
  repeat (any_goals (first | assumption | wp_step))
  refine codeAny_mono (code_set_led1 (.ref l) (E := E) (Q₁ := fun o s1 => o = .ref s.heap.objs.size ∧ s1 = { s with heap := s.heap.push (sNew w) }) ⟨rfl, rfl⟩) fun r s1 hr => ?_
  match r, hr with
  | .error e, hr => exact hr
  | .ok (.ret o), ⟨e1, e2⟩ =>
    subst e1 e2
    have at0 : (s.heap.push (sNew w)).get? s.heap.objs.size = some (sNew w) := Heap.get?_push_size _ rfl
    have ty : Shared.TypeIs { s with heap := s.heap.push (sNew w) } (.ref s.heap.objs.size) "set" := ⟨_, at0, rfl⟩
    have look := F.called_set.init.lookup
    have bind := F.called_set.init.bind (.ref s.heap.objs.size)
    repeat (any_goals (first | assumption | wp_step))
    refine codeAny_mono (codeAny_call_builtin (R := wants (fun r s2 => r = .none ∧ ∃ h' tk c, s2 = { s with heap := h', toks := tk } ∧ SetR w h' s.heap.objs.size (fun j => decide (j ∈ ns)) c ∧ c ≤ ns.length ∧ (∀ b o, s.heap.get? b = some o → h'.get? b = some o)) E) F.called_set.init.plain F.entry_set_init (check_set_init_1 ty ?_)) fun r2 s2 hr2 => ?_
    · refine fill_ints (by simp [hh]) at0 (Nat.ne_of_gt lt) (hl.push _) hi hb fun s' c g d o S' le k => ?_
      obtain ⟨h', g2, d2, t2, o2⟩ := s'
      cases g
      cases d
      cases o
      exact ⟨rfl, h', t2, c, rfl, S', le, fun b o e => k b o (Nat.ne_of_lt (Heap.lt_size e)) (Heap.get?_push_of_some _ e)⟩
    · match r2, hr2 with
      | .error e, hr2 => exact hr2
      | .ok (.ret r), ⟨e1, h', tk, c, e2, S', le, k⟩ =>
        subst e1 e2
        repeat (any_goals (first | assumption | wp_step))
        exact h _ _ _ S' le k
end
end Dl
namespace Dl
open PySem PySem.Spec PyProof PyProof.Rows L2 So Da
def rSetL (K : PySem.W.Frag) (w : World) : List V → Hp → VK → Prop := fun xs H Q => ∃ (l : Addr) (ns : List Int), xs = [.ref l] ∧ SqL K H l (ns.map V.int) ∧ ns.length < 64 ∧ ∀ (p : Addr) (n : Nat), n ≤ ns.length → H p = none → Q (.ref p) (upd H p (SetO w p (fun j => decide (j ∈ ns)) n))
theorem cr_setL {X : Cx} (hc : X.calm = true) : CallR X (.type "set") (rSetL X.K X.w) := by
  intro pins s σ H xs us Q I r h
  obtain ⟨l, ns, rfl, hq, hl, q⟩ := h
  rw [Vals.ref1 r]
  obtain ⟨its, rv, pl, hz⟩ := I.list hq
  refine set_list (I.ok.hd hc) pl.isList (by simpa using RZ.intsAre_vals rv) (by unfold scanBound; omega) fun h' tk c hS le k => ?_
  exact ⟨.ref _, upd H s.heap.objs.size (SetO X.w s.heap.objs.size (fun j => decide (j ∈ ns)) c), I.laid (t' := tk) k (Nat.le_refl _) (setO_new hS), rfl, q _ _ le (I.hok.fresh (Nat.le_refl _))⟩
section
variable {P : Tb} {G0 : Hp} {n : Nat} {X : Cx} {e : Expr} {pos : Pos}
/-- of numbers, each once, rising -/
def sortSetD (D : PyData) (Q : List PyData → Prop) : Prop := match D with
  | .list ds => ∃ ns : List Int, ds = ns.map .int ∧ ns.length < 64 ∧ ∀ ms : List Int, ms.Pairwise (· < ·) → (∀ k, k ∈ ms ↔ k ∈ ns) → Q (ms.map .int)
  | _ => False
theorem dwa_ints {K : Zw} {G : Hp} : ∀ ms : List Int, DwAll K G (ms.map V.int) (ms.map PyData.int)
  | [] => .nil
  | m :: ms => .cons (.int m) (dwa_ints ms)
theorem dw_vints {K : Zw} {G : Hp} : ∀ {xs : List V} {ns : List Int}, DwAll K G xs (ns.map PyData.int) → xs = ns.map V.int
  | [], [], _ => rfl
  | x :: xs, n :: ns, .cons a b => by
    cases a
    rw [dw_vints b]
    rfl
theorem df_sortSet {t : DTE} {p q : Pos} (hc : X.calm = true) (hg : Gl X "sorted") (hm : X.mg "sorted" = none) (hg2 : Gl X "set") (hm2 : X.mg "set" = none) (he : DE P G0 n X e t) (hs : starEach [e] X.env = (false, eval e X.env) :: starEach [] X.env := by rfl) (hpl : (backTo q (starEach [] X.env)).any (·.1) = false := by rfl)
    (hs2 : starEach [.Call (.Name "set" p) [e] [] q] X.env = (false, eval (.Call (.Name "set" p) [e] [] q) X.env) :: starEach [] X.env := by rfl) (hpl2 : (backTo pos (starEach [] X.env)).any (·.1) = false := by rfl) {p2 : Pos} :
    DF P G0 n X (.Call (.Name "sorted" p2) [.Call (.Name "set" p) [e] [] q] [] pos) (fun ρ Q => t ρ fun D ρ1 => sortSetD D fun ds => Q ds ρ1) :=
  pe_weak (pe_callB (cr_sortedSet hc) hg hm (by decide +kernel) (pa_cons (pe_callTy (cr_setL hc) hg2 hm2 (by decide +kernel) (pa_cons he pa_nil hs) (by decide) (by decide) hs hpl) pa_nil hs2) (by decide) (by decide) hs2 hpl2) fun σ H Q ⟨F, ρ, G, Q0, s, R, h, k⟩ => by
    refine ⟨F, ρ, G, _, s, R, h, fun D1 ρ1 v1 G1 H1 h1 s1 a1 R1 d1 => ?_⟩
    unfold sortSetD at h1
    split at h1
    · obtain ⟨ns, rfl, hl, h1⟩ := h1
      cases d1 with
      | lst ha da =>
        have ev := dw_vints da
        subst ev
        refine ⟨_, ns, rfl, sql_ext R1.xt ha, hl, fun a c hc2 hp => ⟨a, _, c, rfl, upd_same, by omega, fun ms b up mem len hb => ?_⟩⟩
        have R2 := R1.junk (o := SetO X.w a (fun j => decide (j ∈ ns)) c) hp
        exact k _ ρ1 _ G1 _ b (h1 ms up fun j => (mem j).trans (by simp)) s1 a1 (R2.push hb) (fun o m => by rw [(R2.ex m).1] at hb; cases hb) (dwa_ints ms)
    · exact h1.elim
end
end Dl
namespace Dl
open PySem PySem.Spec PyProof PyProof.Rows L2 So Da
theorem walk_revL {K : PySem.W.Frag} {a : Addr} {xs : List V} : Walk (Itv K a xs.length) xs.reverse.length (fun H => SqL K H a xs) (YAt xs.reverse) := by
  rw [List.length_reverse]
  refine ⟨fun i _ hi q => ⟨hi, xs, _, q, List.getElem?_eq_getElem (by omega)⟩, fun _ _ => Nat.le_refl _, fun i H v H' hi q y => ⟨y.1, ?_⟩⟩
  rw [List.getElem?_reverse hi]
  exact y.2 xs q
theorem dwa_rev {K : Zw} {G : Hp} : ∀ {xs : List V} {ds : List PyData}, DwAll K G xs ds → DwAll K G xs.reverse ds.reverse
  | _, _, .nil => .nil
  | _, _, .cons a b => by
    rw [List.reverse_cons, List.reverse_cons]
    exact dpa_app (dwa_rev b) (.cons a .nil)
section
variable {P : Tb} {G0 : Hp} {n : Nat} {X : Cx} {e tg : Expr} {pos : Pos} {st : Stmt}
def revD (D : PyData) (Q : List PyData → Prop) : Prop := match D with
  | .list ds => Q ds.reverse
  | _ => False
theorem di_rev {t : DTE} {p : Pos} (hg : Gl X "reversed") (hm : X.mg "reversed" = none) (h : DE P G0 n X e t) (hs : starEach [e] X.env = (false, eval e X.env) :: starEach [] X.env := by rfl) : DI P G0 n X tg (.Call (.Name "reversed" p) [e] [] pos) (fun ρ Q => t ρ fun D ρ' => revD D fun ds => Q ds ρ') := pi_weak (RT.pi_revA hg hm h hs) fun σ H R ⟨F, ρ, G, Q0, s, Rp, h, k⟩ =>
  ⟨F, ρ, G, _, s, Rp, h, fun D ρ' v G' H' q s' al R' d => by
    unfold revD at q
    split at q
    · cases d with
      | lst a b => exact ⟨_, _, rfl, .inl ⟨(R'.sm s'.2).lst a, k _ _ _ _ _ q s' al R' (wk_at s'.2 walk_revL (fun H s2 => s2.lst a) (dwa_rev b))⟩⟩
    · exact q.elim⟩
theorem ext_meetsL {l b : Addr} {items items2 : Array Value} {n n2 : Nat} {o2 : Obj} (hc : o2.cls = .type "list") (hd : o2.data = .seq items2 n2) (h : (!items.isEmpty && Builtin.List.listTooLong (items.size + items2.size)) = false) (h8 : items.size ≤ sizeLine) (h9 : items.size + items2.size ≤ sizeLine + 1) : Meets (Builtin.«list.extend» { pos := [.ref l, .ref b] }) (fun _ R s => s.heap.get? l = some { cls := .type "list", data := .seq items n } ∧ s.heap.get? b = some o2 ∧ R (.ok (.ret .none)) { heap := s.heap.update l (Obj.mapSeq fun x => x ++ items2), gens := s.gens, drawn := s.drawn, toks := s.toks, os := s.os }) := by
  refine Meets.of_wp fun prog w A R s ⟨h1, h2, hR⟩ => ?_
  obtain ⟨hp, g, d, t, os⟩ := s
  simp only [Builtin.«list.extend», Builtin.List.listExtendWith, selfAndOne, noKeywords, typeOf, Builtin.List.listItems, seqItems?]
  refine wpAny_bind (wpAny_bind ?_)
  rw [if_pos (show ([] : List (Str × Value)).isEmpty = true from rfl)]
  refine wpAny_pure (wpAny_pure ?_)
  dsimp only
  refine wpAny_bind (wpAny_bind (PySem.AutoSeq1.wpAny_loadPart' h2 (wpAny_pure ?_)))
  rw [if_pos (by rw [hc]; simp)]
  refine wpAny_bind (wpAny_bind (wpAny_bind (wpAny_load' h2 ?_)))
  rw [hd]
  dsimp only
  refine wpAny_pure ?_
  dsimp only
  refine wpAny_pure (wpAny_bind (wpAny_bind (wpAny_bind (wpAny_load' h1 ?_))))
  dsimp only
  refine wpAny_pure ?_
  dsimp only
  refine wpAny_pure ?_
  rw [if_neg (by rw [h]; decide)]
  refine wpAny_bind ?_
  simp only [Builtin.List.listUpdate]
  refine wpAny_updateSeq h1 rfl ?_ h8 (by rw [Array.size_append]; exact h9)
  unfold ret
  exact wpAny_pure ⟨_, rfl, hR⟩
def rExtL (K : PySem.W.Frag) : V → List V → Hp → VK → Prop := fun x vs H Q => ∃ l b xs zs, x = .ref l ∧ vs = [.ref b] ∧ H l = some (.lst xs) ∧ SqL K H b zs ∧ xs.length + zs.length ≤ sizeLine ∧ Q .non (upd H l (.lst (xs ++ zs)))
theorem mt_extL {X : Cx} : MtM X "list.extend" (rExtL X.K) := fun pins s σ H x vs v us Q I rx rv ⟨l, b, xs, zs, ex, ev, hH, hB, hz, q⟩ => by
  subst ex
  subst ev
  cases rx
  obtain ⟨u, rfl, ru⟩ := Vals.one rv
  cases ru
  obtain ⟨_, its, n, r, hl, e⟩ := I.lstM hH
  obtain ⟨its2, r2, tp, l2⟩ := I.list hB
  obtain ⟨o2, n2, g2, c2, _, d2⟩ := tp
  have e2 : zs.length = its2.length := r2.length
  have hz2 : its.toArray.size + its2.toArray.size ≤ sizeLine := by
    rw [List.size_toArray, List.size_toArray]
    omega
  refine call_meets F.slot_list_extend ⟨_, e, rfl⟩ F.entry_list_extend (F.args_list_extend_2 _ _) (ext_meetsL c2 d2 (by rw [notLongL hz2, Bool.and_false]) (by rw [List.size_toArray]; omega) (by omega)) ⟨e, g2, ?_⟩
  refine ⟨.non, _, I.lset (f := fun x => x ++ its2.toArray) hH e (by simp) (r.append r2) (by rw [List.length_append]; exact hz), rfl, q⟩
theorem ds_extL {i : Nat} {tf : DTE} (hps : PS X st (tDrop (tBM X.K "list" (rExtL X.K) (tVar i) (tCons (rdE (zOf X P) G0 n tf) tNil)))) : DS P G0 n X st (fun D ρ => isOl ρ i ∧ tf ρ fun V ρ' => ∃ Ds, V = .list Ds ∧ atOl ρ' i fun a ds => ds.length + Ds.length ≤ sizeLine ∧ D.nx (ρ'.set i (.ob a (.lst (ds ++ Ds))))) := ps_weak hps fun D σ H ⟨ρ, G, D0, s, R, ⟨h0, h⟩, k⟩ => by
  obtain ⟨a, h1, h2⟩ := ol_at R h0
  refine ⟨_, h1, h2, [], ρ, G, _, s, R, h, fun V ρ' v G' H' ⟨Ds, eV, q⟩ s' al R' d => ?_⟩
  subst eV
  obtain ⟨a', ds, e, l, q⟩ := at_ol q
  cases d with
  | @lst _ p xs ds2 sq da =>
    obtain ⟨h3, h4, o, h5, us, rfl, h6⟩ := R'.ob e
    rw [h1] at h3
    cases h3
    exact ⟨a, p, us, xs, rfl, rfl, h5, (R'.sm s'.2).lst sq, by rw [dpa_len h6, dpa_len da]; exact l, k.nx _ _ _ _ q s' (al.trans (put_alike e)) (R'.put e ⟨_, rfl, dpa_app h6 da⟩)⟩
theorem df_sorted {t : DTR} {p2 : Pos} (hg : Gl X "sorted") (hm : X.mg "sorted" = none) (he : DR P G0 n X e t) (hs : starEach [e] X.env = (false, eval e X.env) :: starEach [] X.env := by rfl) (hpl : (backTo pos (starEach [] X.env)).any (·.1) = false := by rfl) :
    DF P G0 n X (.Call (.Name "sorted" p2) [e] [] pos) (fun ρ Q => t ρ fun r ρ1 => derefW ρ1 r fun x => match x with
      | .list ds => ∃ ns : List Int, ds = ns.map .int ∧ ns.length < 64 ∧ ∀ ms : List Int, ms.Perm ns → ms.Pairwise (· ≤ ·) → Q (ms.map .int) ρ1
      | _ => False) := pe_weak (pe_callB cr_sorted hg hm (by decide +kernel) (pa_cons he pa_nil hs) (by decide) (by decide) hs hpl) fun σ H Q ⟨F, ρ, G, Q0, s, R, h, k⟩ =>
  ⟨F, ρ, G, _, s, R, h, fun r1 ρ1 v1 G1 H1 h1 s1 a1 R1 d1 => by
    unfold derefW at h1
    split at h1
    · rename_i D1 e1
      have dq := dq_of R1 d1 e1
      split at h1
      · obtain ⟨ns, rfl, hl, h1⟩ := h1
        obtain ⟨a, xs, rfl, ha, da⟩ := dq.list R1
        have ev := dw_vints da
        subst ev
        exact ⟨a, ns, rfl, ha, hl, fun ms p pm up hp => k _ ρ1 _ G1 _ p (h1 ms pm up) s1 a1 (R1.push hp) (fun o m => by rw [(R1.ex m).1] at hp; cases hp) (dwa_ints ms)⟩
      · exact h1.elim
    · exact h1.elim⟩
end
end Dl
namespace Dl
open PySem PySem.Spec PyProof PyProof.Rows L2 So Da
section
variable {P : Tb} {G0 : Hp} {n : Nat} {X : Cx}
/-- a list of one's own, by whether it holds anything -/
def dOl (i : Nat) : DTT := fun ρ Q => atOl ρ i fun _ ds => Q (!ds.isEmpty) ρ
theorem dt_ol (i : Nat) {x : Str} {pos : Pos} (hN : X.N[i]? = some x := by rfl) (hv : Vis X.env.scope x := by first | exact Or.inl rfl | exact Or.inr (Or.inl rfl) | exact Or.inr (Or.inr rfl)) (hd : (x == ("__debug__" : Str)) = false := by decide)
    (hcd : (x == ("__classdict__" : Str)) = false := by decide) : DT P G0 n X (.Name x pos) (dOl i) := by
  refine pt_weak (pt_truth (pe_var hN hv hd hcd) fun _ => rfl) fun σ H Q ⟨F, ρ, G, Q0, s, R, h, k⟩ => ?_
  obtain ⟨a, ds, e, q⟩ := at_ol h
  obtain ⟨h1, h2, o, h3, us, rfl, h4⟩ := R.ob e
  refine ⟨_, h1, !us.isEmpty, .inl ⟨us, SqL.of h3, rfl⟩, ?_⟩
  have : us.isEmpty = ds.isEmpty := by
    have := dpa_len h4
    cases us <;> cases ds <;> first | rfl | simp at this
  rw [this]
  exact k _ _ _ _ q (Ex.refl s.2) .refl R
end
end Dl
namespace Dl
open PySem PySem.Spec PyProof PyProof.Rows L2 So Da
section
variable {P : Tb} {n : Nat} {X : Cx}
def rIsB (neg : Bool) : R2 := fun x y H Q => ∃ a b, x = .bl a ∧ y = .bl b ∧ Q (.bl (if neg = true then !decide (a = b) else decide (a = b))) H
theorem op_isnotB : OpR X (compareOp .IsNot) (rIsB true) := by
  intro pins s σ H x y v u Q I rx ry h
  obtain ⟨a, b, rfl, rfl, q⟩ := h
  cases rx
  cases ry
  show wpAny _ _ ((isSame (Value.bool a) (Value.bool b)) >>= fun z => pure (Value.bool (!z))) _ _ s
  refine wpAny_bind (wpAny_isSame_plain rfl (wpAny_pure (fin_bl I q ?_)))
  cases a <;> cases b <;> rfl
def isBD (neg : Bool) : OpT := fun x y Q => match x, y with
  | .bool a, .bool b => Q (.bool (if neg = true then !decide (a = b) else decide (a = b)))
  | _, _ => False
theorem od_isB {neg : Bool} : OpD P n X (rIsB neg) (isBD neg) := fun x y dx dy F G ρ σ H Q0 Q t R h1 h2 f k => by
  unfold isBD at f
  split at f
  · have e1 := h1.dp R
    have e2 := h2.dp R
    cases e1
    cases e2
    exact ⟨_, _, rfl, rfl, k.here t R (.bl _) f⟩
  · exact f.elim
end
end Dl
set_option Elab.async false
set_option linter.all false
set_option maxRecDepth 100000
set_option maxHeartbeats 4000000
namespace Lw
open PySem PySem.Spec PyProof PyProof.Rows L2 So Da Dl
def top (i : Nat) : Stmt := PySem.Challenge.pw_stillopen_k42_words_machines_that_are_no.main.body.getD i (.Pass ⟨0, 0, 0, 0⟩)
abbrev c_Refused : Stmt := top 2
structure Tz (K : PySem.W.Frag) (mg : Str → Option Value) : Prop where
  kd : ∀ (p : Addr) (ob : Obj), K.lookup p = some ob → ob.cls = .type "tuple" → ob.dict = none
  abs : mg "abs" = none
  all : mg "all" = none
  bool : mg "bool" = none
  enumerate : mg "enumerate" = none
  int : mg "int" = none
  isi : mg "isinstance" = none
  len : mg "len" = none
  list : mg "list" = none
  max : mg "max" = none
  min : mg "min" = none
  range : mg "range" = none
  repr : mg "repr" = none
  reversed : mg "reversed" = none
  set : mg "set" = none
  sorted : mg "sorted" = none
  sum : mg "sum" = none
  tuple : mg "tuple" = none
  zip : mg "zip" = none
  c_STATES_MOST : ∃ t, mg "STATES_MOST" = some (.int 2000 t)
  c_TOPS_BELOW : ∃ t, mg "TOPS_BELOW" = some (.int 2000 t)
  c_MODULO_MOST : ∃ t, mg "MODULO_MOST" = some (.int 12 t)
end Lw
set_option Elab.async false
set_option linter.all false
set_option maxRecDepth 100000
set_option maxHeartbeats 1000000
set_option pp.deepTerms true
set_option pp.maxSteps 200000
namespace Lw
open PySem PySem.Spec PyProof PyProof.Rows L2 So Da Dl
local macro_rules | `(tactic| walk_at "z") => `(tactic| repeat (first | refine ⟨(by decide), ?_⟩ | refine ⟨(by omega), ?_⟩ | refine ⟨rfl, ?_⟩))
section
variable {Z : Zw}
def intW (D : PyData) (k : Int → Prop) : Prop := match D with
  | .int i => k i
  | _ => False
theorem intW_inv {D : PyData} {k : Int → Prop} (h : intW D k) : ∃ i, D = .int i ∧ k i := by
  cases D <;> first | exact ⟨_, rfl, h⟩ | exact h.elim
def numB (D : PyData) : Bool := match D with
  | .int i => decide (0 ≤ i)
  | _ => false
abbrev T_is_number : TD := T1 fun D Q _ => Q (.bool (numB D))
abbrev s_is_number : Stmt := top 14
theorem sc_is_number : FnScope ["value"] ["value"] (defScope s_is_number) := ⟨rfl, rfl, rfl, by decide +kernel, rfl, by decide +kernel, by decide +kernel⟩
local macro_rules | `(tactic| walk_at "d") => `(tactic| simp only [↓dSeq, ↓dFor, ↓reprD, ↓dCallK, ↓dIfS, ↓dAndV, ↓dOrV, ↓dUn, ↓dOp, ↓dC, ↓dVar, ↓derefW, ↓deref, ↓known, ↓noOb, ↓nbO, ↓start0, ↓endsOf, ↓outA, ↓toB, ↓dAnd, ↓dOr, ↓dNot, ↓ofB, ↓dIf, ↓dChain, ↓dgName, ↓dgSeq, ↓dgCons, ↓dgNil, ↓dLc, ↓popW, ↓atOl, ↓isOl, ↓ownS, ↓frzD, ↓dCall, argsOf, argLc, obSlots, upS, upO, ↓noObs, ↓wipeD, List.map_cons, List.map_nil, List.length_cons, List.length_nil, Nat.sub_self, Nat.zero_add, Nat.reduceAdd, Nat.reduceSub, List.replicate, List.append_nil, List.cons_append, List.nil_append, List.getElem?_cons_zero, List.getElem?_cons_succ, List.getElem?_nil, List.set, List.head?, List.tail, Option.getD_some, Option.getD_none, List.nodup_nil, List.nodup_cons, List.not_mem_nil, List.mem_cons, List.mem_singleton, or_false, Nat.reduceEqDiff, true_and, and_true, Bool.not_true, Bool.not_false, if_true, Bool.false_eq_true, if_false, ite_true, ite_false, not_false_eq_true, reduceCtorEq, eqD_int, eqD_str, eqD_bl, eqD_tuple, eqD_list, eqD_tupleR, eqD_listR, eqD_non, neD_int, neD_str, neD_bl, neD_tuple, neD_list, neD_tupleR, neD_listR, neD_non, ↓isD, ↓notD, ix_0, ix_1, ix_2, ix_3, ix_4, ix_L0, ix_L1, ix_L2, itemsD_L, itemsD_T, tupleD_L, tupleD_T, listD_L, listD_T, lenD_L, lenD_T, lenD_S, slD_L, slD_T, addD_I, addD_S, addD_T, addD_L, subD_I, mulD_I, ltD_I, ltD_S, leD_I, gtD_I, geD_I, modD_I, fdivD_I, powD_I, intD_I, intD_B, negD_I, isND_N, isND_I, isND_S, isND_B, isND_T, isND_L, sq_T, sq_L, sq_N, sq_I, sq_S, sq_B, at_0, at_1, at_2, at_3, at_4, ↓isiD, pick, List.filterMap_cons_some, List.filterMap_nil, List.filterMap_cons, ↓ownC, ↓T1, ↓T2, ↓T3, ↓T4, ↓dHeard, ↓capsD, ↓slotsD, ↓lamW, lamSto, cpLc, ↓dHeardS, ↓dAsks, ↓asksW, ↓heardT, ↓Tbox, ↓Ttake, revD, sortSetD, dOl, isBD, ↓intW])
theorem ok_is_number {f : Addr} {fd : FuncData} (F : Fun Z.K "is_number" "is_number" s_is_number f fd) (T : Tz Z.K Z.mg) : FnD Z.Pg Z.w Z.K Z.mg Z.base CX0 1 f fd ["value"] (spT Z (T_is_number)) := by
  refine okD F sc_is_number (fun as Q er h => ?_) (fun cdv A outer s H E G0 ca hr hgd hca => (dss_one (ds_ret (de_and (de_isi (T := "int") (kf := intB) kitf_int (by rfl) T.isi (by rfl) T.int (by decide +kernel) (by decide) (by decide) (dr_var 0)) (de_and (de_not (de_isi (T := "bool") (kf := blB) kitf_bool (by rfl) T.isi (by rfl) T.bool (by decide +kernel) (by decide) (by decide) (dr_var 0))) (de_one (de_cmp op_ge od_ge (dr_var 0) (dr_of de_int) (nomark _)))))))) (fun ca as Q er h => ?_)
  · obtain ⟨_, rfl, _⟩ := t1_inv h
    rfl
  · obtain ⟨a, rfl, q⟩ := t1_inv h
    walk_at "d"
    cases a <;> exact q
def belB (D : PyData) (n : Int) : Bool := match D with
  | .int i => decide (0 ≤ i) && decide (i < n)
  | _ => false
abbrev T_is_number_below : TD := T2 fun D n Q _ => intW n fun m => Q (.bool (belB D m))
abbrev s_is_number_below : Stmt := top 15
theorem sc_is_number_below : FnScope ["value", "bound"] ["value", "bound"] (defScope s_is_number_below) := ⟨rfl, rfl, rfl, by decide +kernel, rfl, by decide +kernel, by decide +kernel⟩
theorem ok_is_number_below {f : Addr} {fd : FuncData} (F : Fun Z.K "is_number_below" "is_number_below" s_is_number_below f fd) (T : Tz Z.K Z.mg)
    {f_is_number : Addr} {fd_is_number : FuncData} (D_is_number : Df Z.K Z.mg "is_number" s_is_number ["value"] f_is_number fd_is_number) (G_is_number : FnD Z.Pg Z.w Z.K Z.mg Z.base CX0 1 f_is_number fd_is_number ["value"] (spT Z (T_is_number))) : FnD Z.Pg Z.w Z.K Z.mg Z.base CX0 2 f fd ["value", "bound"] (spT Z (T_is_number_below)) := by
  refine okD F sc_is_number_below (fun as Q er h => ?_) (fun cdv A outer s H E G0 ca hr hgd hca => (dss_one (ds_ret (de_and (de_call G_is_number hr hgd (by rfl) D_is_number.g D_is_number.F.kp D_is_number.b (drs_cons (dr_var 0) drs_nil)) (de_one (de_cmp op_ltA od_lt (dr_var 0) (dr_var 1) (nomark _))))))) (fun ca as Q er h => ?_)
  · obtain ⟨_, _, rfl, _⟩ := t2_inv h
    rfl
  · obtain ⟨a, b, rfl, q⟩ := t2_inv h
    obtain ⟨m, rfl, q⟩ := intW_inv q
    walk_at "d"
    cases a with
    | int i =>
      simp only [numB, belB] at q ⊢
      by_cases h1 : 0 ≤ i
      · simp only [decide_eq_true h1, Bool.true_and, if_true] at q ⊢
        exact q
      · simp only [decide_eq_false h1, Bool.false_and, Bool.false_eq_true, if_false] at q ⊢
        exact q
    | _ => exact q
abbrev T_is_sequence : TD := T1 fun D Q _ => Q (.bool (isSq D))
abbrev s_is_sequence : Stmt := top 16
theorem sc_is_sequence : FnScope ["value"] ["value"] (defScope s_is_sequence) := ⟨rfl, rfl, rfl, by decide +kernel, rfl, by decide +kernel, by decide +kernel⟩
theorem ok_is_sequence {f : Addr} {fd : FuncData} (F : Fun Z.K "is_sequence" "is_sequence" s_is_sequence f fd) (T : Tz Z.K Z.mg) : FnD Z.Pg Z.w Z.K Z.mg Z.base CX0 1 f fd ["value"] (spT Z (T_is_sequence)) := by
  refine okD F sc_is_sequence (fun as Q er h => ?_) (fun cdv A outer s H E G0 ca hr hgd hca => (dss_one (ds_ret (de_isiSq (by rfl) T.isi (by rfl) T.list (by rfl) T.tuple (dr_var 0))))) (fun ca as Q er h => ?_)
  · obtain ⟨_, rfl, _⟩ := t1_inv h
    rfl
  · obtain ⟨a, rfl, q⟩ := t1_inv h
    walk_at "d"
    exact q
def rowB (D : PyData) (n : Int) : Bool := isSq D && decide (((itD D).length : Int) = n)
abbrev T_is_row_of : TD := T2 fun D n Q _ => intW n fun m => Q (.bool (rowB D m))
abbrev s_is_row_of : Stmt := top 17
theorem sc_is_row_of : FnScope ["value", "many"] ["value", "many"] (defScope s_is_row_of) := ⟨rfl, rfl, rfl, by decide +kernel, rfl, by decide +kernel, by decide +kernel⟩
theorem ok_is_row_of {f : Addr} {fd : FuncData} (F : Fun Z.K "is_row_of" "is_row_of" s_is_row_of f fd) (T : Tz Z.K Z.mg)
    {f_is_sequence : Addr} {fd_is_sequence : FuncData} (D_is_sequence : Df Z.K Z.mg "is_sequence" s_is_sequence ["value"] f_is_sequence fd_is_sequence) (G_is_sequence : FnD Z.Pg Z.w Z.K Z.mg Z.base CX0 1 f_is_sequence fd_is_sequence ["value"] (spT Z (T_is_sequence))) : FnD Z.Pg Z.w Z.K Z.mg Z.base CX0 2 f fd ["value", "many"] (spT Z (T_is_row_of)) := by
  refine okD F sc_is_row_of (fun as Q er h => ?_) (fun cdv A outer s H E G0 ca hr hgd hca => (dss_one (ds_ret (de_and (de_call G_is_sequence hr hgd (by rfl) D_is_sequence.g D_is_sequence.F.kp D_is_sequence.b (drs_cons (dr_var 0) drs_nil)) (de_one (de_cmp (op_eqA hr.units) od_eq (dr_of (de_callB call_lenA cd_len (by rfl) T.len (by decide +kernel) (dr_var 0))) (dr_var 1) (nomark _))))))) (fun ca as Q er h => ?_)
  · obtain ⟨_, _, rfl, _⟩ := t2_inv h
    rfl
  · obtain ⟨a, b, rfl, q⟩ := t2_inv h
    obtain ⟨m, rfl, q⟩ := intW_inv q
    walk_at "d"
    cases a <;> exact q
def txtB (D : PyData) : Bool := match D with
  | .str z => decide ((z.length : Int) ≤ 65535)
  | _ => false
abbrev T_is_text : TD := T1 fun D Q _ => (∀ z, D = .str z → z.length ≤ sizeLine) ∧ Q (.bool (txtB D))
def stB (many : Int) (D : PyData) : Bool := match D with
  | .int i => decide (0 ≤ i) && decide (i < many)
  | _ => false
def mapB (D : PyData) (len many : Int) : Bool := rowB D len && (itD D).all (stB many)
theorem row_sq {D : PyData} {n : Int} (h : rowB D n = true) : isSq D = true := (Bool.and_eq_true_iff.mp h).1
abbrev T_is_map : TD := T3 fun D l m Q _ => intW l fun len => intW m fun many => Q (.bool (mapB D len many))
def mapsB (D : PyData) (len many : Int) : Bool := rowB D len && (itD D).all fun r => mapB r many many
abbrev T_are_maps : TD := T3 fun D l m Q _ => intW l fun len => intW m fun many => Q (.bool (mapsB D len many))
end
end Lw
set_option Elab.async false
set_option linter.all false
set_option maxRecDepth 100000
set_option maxHeartbeats 1000000
set_option pp.deepTerms true
set_option pp.maxSteps 200000
namespace Lw
open PySem PySem.Spec PyProof PyProof.Rows L2 So Da Dl
local macro_rules | `(tactic| walk_at "z") => `(tactic| repeat (first | refine ⟨(by decide), ?_⟩ | refine ⟨(by omega), ?_⟩ | refine ⟨rfl, ?_⟩))
section
variable {Z : Zw}
def fiD (D : PyData) : Int := match (itD D).getD 0 .none with
  | .int i => i
  | _ => 0
def ascI : List Int → Bool
  | a :: b :: r => decide (a < b) && ascI (b :: r)
  | _ => true
def stepB (many : Int) (D : PyData) : Bool := rowB D 2 && (numB ((itD D).getD 0 .none) && belB ((itD D).getD 1 .none) many)
def stepsB (many : Int) (ds : List PyData) : Bool := ds.all (stepB many) && ascI (ds.map fiD)
theorem step_ok {many : Int} {D : PyData} (h : rowB D 2 = true) : isSq D = true ∧ ∃ x y, itD D = [x, y] ∧ (itD D)[0]? = some x ∧ (itD D)[1]? = some y ∧ stepB many D = (numB x && belB y many) := by
  have h0 := h
  unfold rowB at h
  rw [Bool.and_eq_true, decide_eq_true_eq] at h
  refine ⟨h.1, ?_⟩
  match e : itD D, h.2 with
  | [x, y], _ =>
    refine ⟨x, y, rfl, rfl, rfl, ?_⟩
    unfold stepB
    rw [h0, e]
    rfl
theorem asc_zip : ∀ ns : List Int, (List.zipWith (fun a b => decide (a < b)) ns (ns.drop 1)).all id = ascI ns
  | [] => rfl
  | [_] => rfl
  | a :: b :: r => by
    have := asc_zip (b :: r)
    unfold ascI
    rw [← this]
    rfl
theorem zip_asc (f : PyData → Int) (ds : List PyData) : (zipD ds (ds.drop 1)).map (fun p => PyData.bool (decide (f ((itD p).getD 0 .none) < f ((itD p).getD 1 .none)))) = ((List.zipWith (fun a b => decide (a < b)) (ds.map f) ((ds.map f).drop 1))).map .bool := by
  unfold zipD
  rw [List.map_zipWith, List.map_zipWith, ← List.map_drop, List.zipWith_map]
  rfl
theorem zip_mem {ds es : List PyData} {p : PyData} (h : p ∈ zipD ds es) : ∃ x y, p = .tuple [x, y] ∧ x ∈ ds ∧ y ∈ es := by
  unfold zipD at h
  obtain ⟨i, hi, e⟩ := List.getElem_of_mem h
  rw [List.getElem_zipWith] at e
  rw [List.length_zipWith] at hi
  exact ⟨_, _, e.symm, List.getElem_mem _, List.getElem_mem _⟩
theorem no_strs {ds : List PyData} (h : ∀ d ∈ ds, ∀ z, d ≠ .str z) : noTx ds = true := List.all_eq_true.mpr fun d m => by
  cases d with
  | str z => exact absurd rfl (h _ m z)
  | _ => rfl
theorem step_in {many : Int} {d : PyData} (h : stepB many d = true) : (∀ z, d ≠ .str z) ∧ isSq d = true ∧ (itD d)[0]? = some (.int (fiD d)) := by
  unfold stepB at h
  rw [Bool.and_eq_true, Bool.and_eq_true] at h
  obtain ⟨h1, h2, h3⟩ := h
  obtain ⟨q1, x, y, q2, q3, _, _⟩ := step_ok (many := many) h1
  refine ⟨(fun z e => by rw [e] at q1; cases q1), q1, ?_⟩
  unfold fiD
  rw [q2] at h2 ⊢
  cases x <;> first | rfl | cases h2
abbrev T_are_steps : TD := T2 fun D n Q _ => intW n fun many => (isSq D = false ∧ Q (.bool false)) ∨ ∃ ds, D = .tuple ds ∧ ds.length ≤ 20 ∧ Q (.bool (stepsB many ds))
abbrev s_are_steps : Stmt := top 39
theorem sc_are_steps : FnScope ["row", "many", "step", "one", "other"] ["row", "many"] (defScope s_are_steps) := ⟨rfl, rfl, rfl, by decide +kernel, rfl, by decide +kernel, by decide +kernel⟩
local macro_rules | `(tactic| walk_at "d") => `(tactic| simp only [↓dSeq, ↓dFor, ↓reprD, ↓dCallK, ↓dIfS, ↓dAndV, ↓dOrV, ↓dUn, ↓dOp, ↓dC, ↓dVar, ↓derefW, ↓deref, ↓known, ↓noOb, ↓nbO, ↓start0, ↓endsOf, ↓outA, ↓toB, ↓dAnd, ↓dOr, ↓dNot, ↓ofB, ↓dIf, ↓dChain, ↓dgName, ↓dgSeq, ↓dgCons, ↓dgNil, ↓dLc, ↓popW, ↓atOl, ↓isOl, ↓ownS, ↓frzD, ↓dCall, argsOf, argLc, obSlots, upS, upO, ↓noObs, ↓wipeD, List.map_cons, List.map_nil, List.length_cons, List.length_nil, Nat.sub_self, Nat.zero_add, Nat.reduceAdd, Nat.reduceSub, List.replicate, List.append_nil, List.cons_append, List.nil_append, List.getElem?_cons_zero, List.getElem?_cons_succ, List.getElem?_nil, List.set, List.head?, List.tail, Option.getD_some, Option.getD_none, List.nodup_nil, List.nodup_cons, List.not_mem_nil, List.mem_cons, List.mem_singleton, or_false, Nat.reduceEqDiff, true_and, and_true, Bool.not_true, Bool.not_false, if_true, Bool.false_eq_true, if_false, ite_true, ite_false, not_false_eq_true, reduceCtorEq, eqD_int, eqD_str, eqD_bl, eqD_tuple, eqD_list, eqD_tupleR, eqD_listR, eqD_non, neD_int, neD_str, neD_bl, neD_tuple, neD_list, neD_tupleR, neD_listR, neD_non, ↓isD, ↓notD, ix_0, ix_1, ix_2, ix_3, ix_4, ix_L0, ix_L1, ix_L2, itemsD_L, itemsD_T, tupleD_L, tupleD_T, listD_L, listD_T, lenD_L, lenD_T, lenD_S, slD_L, slD_T, addD_I, addD_S, addD_T, addD_L, subD_I, mulD_I, ltD_I, ltD_S, leD_I, gtD_I, geD_I, modD_I, fdivD_I, powD_I, intD_I, intD_B, negD_I, isND_N, isND_I, isND_S, isND_B, isND_T, isND_L, sq_T, sq_L, sq_N, sq_I, sq_S, sq_B, at_0, at_1, at_2, at_3, at_4, ↓isiD, pick, List.filterMap_cons_some, List.filterMap_nil, List.filterMap_cons, ↓ownC, ↓T1, ↓T2, ↓T3, ↓T4, ↓dHeard, ↓capsD, ↓slotsD, ↓lamW, lamSto, cpLc, ↓dHeardS, ↓dAsks, ↓asksW, ↓heardT, ↓Tbox, ↓Ttake, revD, sortSetD, dOl, isBD, ↓intW])
theorem ok_are_steps {f : Addr} {fd : FuncData} (F : Fun Z.K "_are_steps" "_are_steps" s_are_steps f fd) (T : Tz Z.K Z.mg)
    {f_is_sequence : Addr} {fd_is_sequence : FuncData} (D_is_sequence : Df Z.K Z.mg "is_sequence" s_is_sequence ["value"] f_is_sequence fd_is_sequence) (G_is_sequence : FnD Z.Pg Z.w Z.K Z.mg Z.base CX0 2 f_is_sequence fd_is_sequence ["value"] (spT Z (T_is_sequence)))
    {f_is_row_of : Addr} {fd_is_row_of : FuncData} (D_is_row_of : Df Z.K Z.mg "is_row_of" s_is_row_of ["value", "many"] f_is_row_of fd_is_row_of) (G_is_row_of : FnD Z.Pg Z.w Z.K Z.mg Z.base CX0 2 f_is_row_of fd_is_row_of ["value", "many"] (spT Z (T_is_row_of)))
    {f_is_number : Addr} {fd_is_number : FuncData} (D_is_number : Df Z.K Z.mg "is_number" s_is_number ["value"] f_is_number fd_is_number) (G_is_number : FnD Z.Pg Z.w Z.K Z.mg Z.base CX0 2 f_is_number fd_is_number ["value"] (spT Z (T_is_number)))
    {f_is_number_below : Addr} {fd_is_number_below : FuncData} (D_is_number_below : Df Z.K Z.mg "is_number_below" s_is_number_below ["value", "bound"] f_is_number_below fd_is_number_below) (G_is_number_below : FnD Z.Pg Z.w Z.K Z.mg Z.base CX0 2 f_is_number_below fd_is_number_below ["value", "bound"] (spT Z (T_is_number_below))) : FnD Z.Pg Z.w Z.K Z.mg Z.base CX0 3 f fd ["row", "many"] (spT Z (T_are_steps)) := by
  refine okD F sc_are_steps (fun as Q er h => ?_) (fun cdv A outer s H E G0 ca hr hgd hca => (dss_cons (ds_if (dt_not (dt_val (de_call G_is_sequence hr hgd (by rfl) D_is_sequence.g D_is_sequence.F.kp D_is_sequence.b (drs_cons (dr_var 0) drs_nil))))
        (dss_one (ds_ret de_bl))
        dss_nil)
      (dss_cons (ds_for PassesOwn.never rfl (di_seq (de_var 0)) (dg_name (i := 2) sc_are_steps.nd rfl (Or.inl rfl))
        (dss_one (ds_if (DW.dt (dw_or (dt_not (dt_val (de_call G_is_row_of hr hgd (by rfl) D_is_row_of.g D_is_row_of.F.kp D_is_row_of.b (drs_cons (dr_var 2) (drs_cons (dr_of de_int) drs_nil))))) (dw_or (dt_not (dt_val (de_call G_is_number hr hgd (by rfl) D_is_number.g D_is_number.F.kp D_is_number.b (drs_cons (dr_of (de_ix (dr_var 2) (dr_of de_int))) drs_nil)))) (dw_or1 (dt_not (dt_val (de_call G_is_number_below hr hgd (by rfl) D_is_number_below.g D_is_number_below.F.kp D_is_number_below.b (drs_cons (dr_of (de_ix (dr_var 2) (dr_of de_int))) (drs_cons (dr_var 1) drs_nil)))))))))
          (dss_one (ds_ret de_bl))
          dss_nil)))
      (dss_one (ds_ret (de_callB (cr_all rfl) cd_all (by rfl) T.all (by decide +kernel) (dr_of (de_of_df (df_lc (own := [("one", 3), ("other", 4)]) rfl sc_are_steps.nd (di_zip (by rfl) T.zip (de_var 0) (de_slice (dr_var 0) (do_some de_int) do_none)) (blkOk_by (own := [("one", 3), ("other", 4)]) (N := ["row", "many", "step", "one", "other"]) (sc := defScope s_are_steps) (by decide +kernel)) (fun _ _ _ _ _ => (dg_seq (m := 2) rfl (dgs_cons (dg_name (i := 3) sc_are_steps.nd rfl (Or.inl rfl)) (dgs_cons (dg_name (i := 4) sc_are_steps.nd rfl (Or.inl rfl)) dgs_nil)))) (fun _ _ _ _ _ => dts_nil) (fun _ _ _ _ _ => (de_cmp op_ltA od_lt (dr_of (de_ix (dr_var 3) (dr_of de_int))) (dr_of (de_ix (dr_var 4) (dr_of de_int))) (nomark _)))))))))))) (fun ca as Q er h => ?_)
  · obtain ⟨_, _, rfl, _⟩ := t2_inv h
    rfl
  · obtain ⟨a, b, rfl, q⟩ := t2_inv h
    obtain ⟨many, rfl, q⟩ := intW_inv q
    walk_at "d"
    rcases q with ⟨hs, q⟩ | ⟨ds, rfl, hl, q⟩
    · rw [hs]
      exact q
    rw [if_neg (show ¬ (!isSq (.tuple ds)) = true from Bool.false_ne_true)]
    refine forW_go (fun ds' ρ => ∃ s, ρ = [.sh (.tuple ds), .sh (.int many), s, .un, .un] ∧ nbO (some s) ∧ ds'.all (stepB many) = ds.all (stepB many)) ?_ ?_ _ _ ⟨.un, rfl, trivial, rfl⟩
    · rintro ρ ⟨s, rfl, hs, e⟩
      have q2 : Q (.bool (ascI (ds.map fiD))) [.sh (.tuple ds), .sh (.int many)] := by
        unfold stepsB at q
        rw [← e] at q
        exact q
      walk_at "d"
      have all : ∀ d ∈ ds, stepB many d = true := List.all_eq_true.mp e.symm
      rw [show (some (1 : Int)) = some ((1 : Nat) : Int) from rfl, cut_n0]
      refine ⟨?_, lcW_map (fun p => PyData.bool (decide (fiD ((itD p).getD 0 .none) < fiD ((itD p).getD 1 .none)))) ?_ (fun p hp R hR => ?_) ?_⟩
      · rw [show noTx ds = true from no_strs fun d m => (step_in (all d m)).1]
        rfl
      · unfold zipD
        rw [List.length_zipWith]
        omega
      · obtain ⟨x, y, rfl, hx, hy⟩ := zip_mem hp
        obtain ⟨_, x1, x2⟩ := step_in (all x hx)
        obtain ⟨_, y1, y2⟩ := step_in (all y (List.mem_of_mem_drop hy))
        walk_at "d"
        refine hxD (i := 0) x1 x2 (hxD (i := 0) y1 y2 ?_)
        exact hR
      · rw [zip_asc]
        refine ⟨_, rfl, ?_⟩
        rw [asc_zip]
        exact q2
    · rintro K d ds' ρ ⟨s, rfl, hs, e⟩ ih
      rw [List.all_cons] at e
      have no : stepB many d = false → Q (.bool false) [.sh (.tuple ds), .sh (.int many)] := fun h => by
        rw [h, Bool.false_and] at e
        unfold stepsB at q
        rw [← e] at q
        exact q
      walk_at "d"
      refine ⟨hs, ?_⟩
      by_cases hr : rowB d 2 = true
      · obtain ⟨h1, x, y, h2, h3, h4, h5⟩ := step_ok (many := many) hr
        rw [if_neg (by rw [hr]; decide)]
        refine hxD (i := 0) h1 h3 ?_
        cases hx : numB x with
        | false =>
          rw [if_pos (show (!false) = true from rfl)]
          exact no (by rw [h5, hx]; rfl)
        | true =>
          rw [if_neg (by decide)]
          refine hxD (i := 1) h1 h4 ?_
          cases hy : belB y many with
          | false =>
            rw [if_pos (show (!false) = true from rfl)]
            exact no (by rw [h5, hx, hy]; rfl)
          | true =>
            rw [if_neg (by decide)]
            exact ih _ ⟨_, rfl, trivial, by rw [← e, h5, hx, hy]; rfl⟩
      · rw [if_pos (by rw [Bool.eq_false_iff.mpr hr]; rfl)]
        exact no (by unfold stepB; rw [Bool.eq_false_iff.mpr hr]; rfl)
def intOf : PyData → Int
  | .int i => i
  | _ => 0
def topB (D : PyData) : Bool := belB D 2000
def topsB (ds : List PyData) : Bool := ds.all topB && ascI (ds.map fun d => intOf d)
abbrev T_are_tops : TD := T1 fun D Q _ => (isSq D = false ∧ Q (.bool false)) ∨ ∃ ds, D = .tuple ds ∧ ds.length ≤ 20 ∧ Q (.bool (topsB ds))
abbrev s_are_tops : Stmt := top 40
theorem sc_are_tops : FnScope ["row", "one", "other", "top"] ["row"] (defScope s_are_tops) := ⟨rfl, rfl, rfl, by decide +kernel, rfl, by decide +kernel, by decide +kernel⟩
theorem ok_are_tops {f : Addr} {fd : FuncData} (F : Fun Z.K "_are_tops" "_are_tops" s_are_tops f fd) (T : Tz Z.K Z.mg)
    {f_is_sequence : Addr} {fd_is_sequence : FuncData} (D_is_sequence : Df Z.K Z.mg "is_sequence" s_is_sequence ["value"] f_is_sequence fd_is_sequence) (G_is_sequence : FnD Z.Pg Z.w Z.K Z.mg Z.base CX0 2 f_is_sequence fd_is_sequence ["value"] (spT Z (T_is_sequence)))
    {f_is_number_below : Addr} {fd_is_number_below : FuncData} (D_is_number_below : Df Z.K Z.mg "is_number_below" s_is_number_below ["value", "bound"] f_is_number_below fd_is_number_below) (G_is_number_below : FnD Z.Pg Z.w Z.K Z.mg Z.base CX0 2 f_is_number_below fd_is_number_below ["value", "bound"] (spT Z (T_is_number_below))) : FnD Z.Pg Z.w Z.K Z.mg Z.base CX0 3 f fd ["row"] (spT Z (T_are_tops)) := by
  refine okD F sc_are_tops (fun as Q er h => ?_) (fun cdv A outer s H E G0 ca hr hgd hca => (dss_cons (ds_if (DW.dt (dw_or (dt_not (dt_val (de_call G_is_sequence hr hgd (by rfl) D_is_sequence.g D_is_sequence.F.kp D_is_sequence.b (drs_cons (dr_var 0) drs_nil)))) (dw_or1 (dt_not (dt_val (de_callB (cr_all rfl) cd_all (by rfl) T.all (by decide +kernel) (dr_of (de_of_df (df_lc (own := [("top", 3)]) rfl sc_are_tops.nd (di_seq (de_var 0)) (blkOk_by (own := [("top", 3)]) (N := ["row", "one", "other", "top"]) (sc := defScope s_are_tops) (by decide +kernel)) (fun _ _ _ _ _ => (dg_name (i := 3) sc_are_tops.nd rfl (Or.inl rfl))) (fun _ _ _ _ _ => dts_nil) (fun _ _ _ _ _ => (de_call G_is_number_below hr hgd (by rfl) D_is_number_below.g D_is_number_below.F.kp D_is_number_below.b (drs_cons (dr_var 3) (drs_cons (dr_of (de_gInt (i := 2000) (by rfl) T.c_TOPS_BELOW)) drs_nil)))))))))))))
        (dss_one (ds_ret de_bl))
        dss_nil)
      (dss_one (ds_ret (de_callB (cr_all rfl) cd_all (by rfl) T.all (by decide +kernel) (dr_of (de_of_df (df_lc (own := [("one", 1), ("other", 2)]) rfl sc_are_tops.nd (di_zip (by rfl) T.zip (de_var 0) (de_slice (dr_var 0) (do_some de_int) do_none)) (blkOk_by (own := [("one", 1), ("other", 2)]) (N := ["row", "one", "other", "top"]) (sc := defScope s_are_tops) (by decide +kernel)) (fun _ _ _ _ _ => (dg_seq (m := 2) rfl (dgs_cons (dg_name (i := 1) sc_are_tops.nd rfl (Or.inl rfl)) (dgs_cons (dg_name (i := 2) sc_are_tops.nd rfl (Or.inl rfl)) dgs_nil)))) (fun _ _ _ _ _ => dts_nil) (fun _ _ _ _ _ => (de_cmp op_ltA od_lt (dr_var 1) (dr_var 2) (nomark _))))))))))) (fun ca as Q er h => ?_)
  · obtain ⟨_, rfl, _⟩ := t1_inv h
    rfl
  · obtain ⟨a, rfl, q⟩ := t1_inv h
    walk_at "d"
    rcases q with ⟨hs, q⟩ | ⟨ds, rfl, hl, q⟩
    · rw [hs]
      exact q
    rw [if_neg (show ¬ (!isSq (.tuple ds)) = true from Bool.false_ne_true)]
    refine lcW_map (fun d => .bool (topB d)) (by omega) (fun d hd R hR => ?_) ?_
    · walk_at "d"
      exact hR
    refine ⟨ds.map topB, by rw [List.map_map]; rfl, ?_⟩
    rw [List.all_map, show (id ∘ topB) = topB from rfl]
    dsimp only
    cases h : ds.all topB with
    | false =>
      unfold topsB at q
      rw [h] at q
      rw [if_pos (show (!false) = true from rfl)]
      exact q
    | true =>
      have q2 : Q (.bool (ascI (ds.map intOf))) [.sh (.tuple ds)] := by
        unfold topsB at q
        rw [h] at q
        exact q
      have all : ∀ d ∈ ds, topB d = true := List.all_eq_true.mp h
      have int : ∀ d ∈ ds, d = .int (intOf d) := fun d m => by
        have := all d m
        cases d <;> first | rfl | cases this
      rw [if_neg (by decide)]
      walk_at "d"
      rw [show (some (1 : Int)) = some ((1 : Nat) : Int) from rfl, cut_n0]
      refine ⟨?_, lcW_map (fun p => PyData.bool (decide (intOf ((itD p).getD 0 .none) < intOf ((itD p).getD 1 .none)))) ?_ (fun p hp R hR => ?_) ?_⟩
      · rw [no_strs fun d m z e => by rw [int d m] at e; cases e]
        rfl
      · unfold zipD
        rw [List.length_zipWith]
        omega
      · obtain ⟨x, y, rfl, hx, hy⟩ := zip_mem hp
        have ex := int x hx
        have ey := int y (List.mem_of_mem_drop hy)
        have hR : R (.bool (decide (intOf x < intOf y))) := hR
        generalize intOf x = i at *
        generalize intOf y = j at *
        subst ex ey
        walk_at "d"
        exact hR
      · rw [zip_asc]
        refine ⟨_, rfl, ?_⟩
        rw [asc_zip]
        exact q2
/-- rows as they are asked -/
def rowF (D : PyData) : Bool := !isSq D || match D with
  | .tuple ds => decide (ds.length ≤ 20)
  | _ => false
def rowsF (D : PyData) : Bool := !isSq D || match D with
  | .tuple ds => decide (ds.length ≤ 20) && ds.all rowF
  | _ => false
def wfB (D : PyData) : Bool := !rowB D 4 || match D with
  | .tuple [m, s, st, tp] => rowsF st && rowsF tp
  | _ => false
def rowsB (f : List PyData → Bool) (D : PyData) (many : Int) : Bool := rowB D many && (itD D).all fun r => match r with
  | .tuple ds => f ds
  | _ => false
def wmB (D : PyData) : Bool := match D with
  | .tuple [.int many, s, st, tp] => decide (0 ≤ many) && (decide (many ≤ 2000) && (belB s many && (rowsB (stepsB many) st many && rowsB topsB tp many)))
  | _ => false
theorem rowF_of {D : PyData} (h : rowF D = true) : isSq D = false ∨ ∃ ds, D = .tuple ds ∧ ds.length ≤ 20 := by
  unfold rowF at h
  cases D with
  | tuple ds => exact .inr ⟨ds, rfl, of_decide_eq_true h⟩
  | list ds => cases h
  | _ => exact .inl rfl
theorem rowsF_of {D : PyData} (h : rowsF D = true) : isSq D = false ∨ ∃ ds, D = .tuple ds ∧ ds.length ≤ 20 ∧ ∀ d ∈ ds, rowF d = true := by
  unfold rowsF at h
  cases D with
  | tuple ds =>
    have h : (decide (ds.length ≤ 20) && ds.all rowF) = true := h
    rw [Bool.and_eq_true, decide_eq_true_eq] at h
    exact .inr ⟨ds, rfl, h.1, List.all_eq_true.mp h.2⟩
  | list ds => cases h
  | _ => exact .inl rfl
theorem wf_of {D : PyData} (h : wfB D = true) (r : rowB D 4 = true) : ∃ m s st tp, D = .tuple [m, s, st, tp] ∧ rowsF st = true ∧ rowsF tp = true := by
  unfold wfB at h
  rw [r] at h
  split at h
  · rename_i m s st tp
    have h : (rowsF st && rowsF tp) = true := h
    rw [Bool.and_eq_true] at h
    exact ⟨m, s, st, tp, rfl, h.1, h.2⟩
  · cases h
theorem wm_eq {many : Int} {s st tp : PyData} : wmB (.tuple [.int many, s, st, tp]) = (decide (0 ≤ many) && (decide (many ≤ 2000) && (belB s many && (rowsB (stepsB many) st many && rowsB topsB tp many)))) := rfl
theorem wm_no {D : PyData} (h : ¬ rowB D 4 = true) : wmB D = false := by
  unfold wmB
  split
  · exact absurd (show rowB _ 4 = true from rfl) h
  · rfl
abbrev T_is_words_machine : TD := T1 fun D Q _ => wfB D = true ∧ Q (.bool (wmB D))
abbrev s_is_words_machine : Stmt := top 41
theorem sc_is_words_machine : FnScope ["value", "many", "start", "steps", "tops", "row"] ["value"] (defScope s_is_words_machine) := ⟨rfl, rfl, rfl, by decide +kernel, rfl, by decide +kernel, by decide +kernel⟩
theorem ok_is_words_machine {f : Addr} {fd : FuncData} (F : Fun Z.K "_is_words_machine" "_is_words_machine" s_is_words_machine f fd) (T : Tz Z.K Z.mg)
    {f_is_row_of : Addr} {fd_is_row_of : FuncData} (D_is_row_of : Df Z.K Z.mg "is_row_of" s_is_row_of ["value", "many"] f_is_row_of fd_is_row_of) (G_is_row_of : FnD Z.Pg Z.w Z.K Z.mg Z.base CX0 3 f_is_row_of fd_is_row_of ["value", "many"] (spT Z (T_is_row_of)))
    {f_is_number : Addr} {fd_is_number : FuncData} (D_is_number : Df Z.K Z.mg "is_number" s_is_number ["value"] f_is_number fd_is_number) (G_is_number : FnD Z.Pg Z.w Z.K Z.mg Z.base CX0 3 f_is_number fd_is_number ["value"] (spT Z (T_is_number)))
    {f_is_number_below : Addr} {fd_is_number_below : FuncData} (D_is_number_below : Df Z.K Z.mg "is_number_below" s_is_number_below ["value", "bound"] f_is_number_below fd_is_number_below) (G_is_number_below : FnD Z.Pg Z.w Z.K Z.mg Z.base CX0 3 f_is_number_below fd_is_number_below ["value", "bound"] (spT Z (T_is_number_below)))
    {f_are_steps : Addr} {fd_are_steps : FuncData} (D_are_steps : Df Z.K Z.mg "_are_steps" s_are_steps ["row", "many"] f_are_steps fd_are_steps) (G_are_steps : FnD Z.Pg Z.w Z.K Z.mg Z.base CX0 3 f_are_steps fd_are_steps ["row", "many"] (spT Z (T_are_steps)))
    {f_are_tops : Addr} {fd_are_tops : FuncData} (D_are_tops : Df Z.K Z.mg "_are_tops" s_are_tops ["row"] f_are_tops fd_are_tops) (G_are_tops : FnD Z.Pg Z.w Z.K Z.mg Z.base CX0 3 f_are_tops fd_are_tops ["row"] (spT Z (T_are_tops))) : FnD Z.Pg Z.w Z.K Z.mg Z.base CX0 4 f fd ["value"] (spT Z (T_is_words_machine)) := by
  refine okD F sc_is_words_machine (fun as Q er h => ?_) (fun cdv A outer s H E G0 ca hr hgd hca => (dss_cons (ds_if (dt_not (dt_val (de_call G_is_row_of hr hgd (by rfl) D_is_row_of.g D_is_row_of.F.kp D_is_row_of.b (drs_cons (dr_var 0) (drs_cons (dr_of de_int) drs_nil)))))
        (dss_one (ds_ret de_bl))
        dss_nil)
      (dss_cons (ds_asg (de_var 0) (dg_seq (m := 4) rfl (dgs_cons (dg_name (i := 1) sc_is_words_machine.nd rfl (Or.inr rfl)) (dgs_cons (dg_name (i := 2) sc_is_words_machine.nd rfl (Or.inl rfl)) (dgs_cons (dg_name (i := 3) sc_is_words_machine.nd rfl (Or.inl rfl)) (dgs_cons (dg_name (i := 4) sc_is_words_machine.nd rfl (Or.inl rfl)) dgs_nil))))))
      (dss_cons (ds_if (DW.dt (dw_or (dt_not (dt_val (de_call G_is_number hr hgd (by rfl) D_is_number.g D_is_number.F.kp D_is_number.b (drs_cons (dr_var 1) drs_nil)))) (dw_or (dt_cmp op_gt od_gt (dr_var 1) (dr_of (de_gInt (i := 2000) (by rfl) T.c_STATES_MOST)) (nomark _)) (dw_or1 (dt_not (dt_val (de_call G_is_number_below hr hgd (by rfl) D_is_number_below.g D_is_number_below.F.kp D_is_number_below.b (drs_cons (dr_var 2) (drs_cons (dr_var 1) drs_nil)))))))))
        (dss_one (ds_ret de_bl))
        dss_nil)
      (dss_cons (ds_if (DW.dt (dw_or (dt_not (dt_val (de_call G_is_row_of hr hgd (by rfl) D_is_row_of.g D_is_row_of.F.kp D_is_row_of.b (drs_cons (dr_var 3) (drs_cons (dr_var 1) drs_nil))))) (dw_or1 (dt_not (dt_val (de_call G_is_row_of hr hgd (by rfl) D_is_row_of.g D_is_row_of.F.kp D_is_row_of.b (drs_cons (dr_var 4) (drs_cons (dr_var 1) drs_nil))))))))
        (dss_one (ds_ret de_bl))
        dss_nil)
      (dss_one (ds_ret (de_and (de_callB (cr_all rfl) cd_all (by rfl) T.all (by decide +kernel) (dr_of (de_of_df (df_lc (own := [("row", 5)]) rfl sc_is_words_machine.nd (di_seq (de_var 3)) (blkOk_by (own := [("row", 5)]) (N := ["value", "many", "start", "steps", "tops", "row"]) (sc := defScope s_is_words_machine) (by decide +kernel)) (fun _ _ _ _ _ => (dg_name (i := 5) sc_is_words_machine.nd rfl (Or.inl rfl))) (fun _ _ _ _ _ => dts_nil) (fun _ _ _ _ _ => (de_call G_are_steps hr hgd (by rfl) D_are_steps.g D_are_steps.F.kp D_are_steps.b (drs_cons (dr_var 5) (drs_cons (dr_var 1) drs_nil)))))))) (de_one (de_callB (cr_all rfl) cd_all (by rfl) T.all (by decide +kernel) (dr_of (de_of_df (df_lc (own := [("row", 5)]) rfl sc_is_words_machine.nd (di_seq (de_var 4)) (blkOk_by (own := [("row", 5)]) (N := ["value", "many", "start", "steps", "tops", "row"]) (sc := defScope s_is_words_machine) (by decide +kernel)) (fun _ _ _ _ _ => (dg_name (i := 5) sc_is_words_machine.nd rfl (Or.inl rfl))) (fun _ _ _ _ _ => dts_nil) (fun _ _ _ _ _ => (de_call G_are_tops hr hgd (by rfl) D_are_tops.g D_are_tops.F.kp D_are_tops.b (drs_cons (dr_var 5) drs_nil)))))))))))))))) (fun ca as Q er h => ?_)
  · obtain ⟨_, rfl, _⟩ := t1_inv h
    rfl
  · obtain ⟨a, rfl, q⟩ := t1_inv h
    obtain ⟨wf, q⟩ := q
    walk_at "d"
    by_cases hr : rowB a 4 = true
    · obtain ⟨m, s, st, tp, rfl, h1, h2⟩ := wf_of wf hr
      rw [if_neg (by rw [hr]; decide)]
      refine ⟨rfl, rfl, ?_⟩
      have no : wmB (.tuple [m, s, st, tp]) = false → Q (.bool false) [.sh (.tuple [m, s, st, tp])] := fun h => by
        rw [h] at q
        exact q
      by_cases hn : numB m = true
      · obtain ⟨many, rfl⟩ : ∃ i, m = .int i := by
          cases m <;> first | exact ⟨_, rfl⟩ | cases hn
        have hn : decide (0 ≤ many) = true := hn
        rw [wm_eq, hn, Bool.true_and] at no q
        rw [if_neg (by show ¬ (!decide (0 ≤ many)) = true; rw [hn]; decide)]
        walk_at "d"
        by_cases h3 : many ≤ 2000
        · rw [decide_eq_true h3, Bool.true_and] at no q
          rw [if_neg (by rw [decide_eq_true_iff]; omega)]
          cases h4 : belB s many with
          | false =>
            rw [h4] at no
            rw [if_pos (show (!false) = true from rfl)]
            exact no rfl
          | true =>
            rw [h4, Bool.true_and] at no q
            rw [if_neg (by decide)]
            unfold rowsB at no q
            cases h5 : rowB st many with
            | false =>
              rw [h5] at no
              rw [if_pos (show (!false) = true from rfl)]
              exact no rfl
            | true =>
              rw [h5, Bool.true_and] at no q
              rw [if_neg (by decide)]
              cases h6 : rowB tp many with
              | false =>
                rw [h6, Bool.false_and, Bool.and_false] at no
                rw [if_pos (show (!false) = true from rfl)]
                exact no rfl
              | true =>
                rw [h6, Bool.true_and] at no q
                rw [if_neg (by decide)]
                obtain ⟨ss, rfl, s1, s2⟩ := (rowsF_of h1).resolve_left (by rw [row_sq h5]; decide)
                obtain ⟨ts, rfl, t1, t2⟩ := (rowsF_of h2).resolve_left (by rw [row_sq h6]; decide)
                refine lcW_map (fun r => .bool (match r with
                  | .tuple ds => stepsB many ds
                  | _ => false)) (by omega) (fun d hd R hR => ?_) ?_
                · walk_at "d"
                  rcases rowF_of (s2 d hd) with hs | ⟨ds, rfl, hl⟩
                  · refine .inl ⟨hs, ?_⟩
                    cases d <;> first | exact hR | cases hs
                  · exact .inr ⟨ds, rfl, hl, hR⟩
                refine ⟨ss.map _, by rw [List.map_map]; rfl, ?_⟩
                rw [List.all_map]
                have tops : Q (.bool (ts.all fun r => match r with
                  | .tuple ds => topsB ds
                  | _ => false)) [.sh (.tuple [.int many, s, .tuple ss, .tuple ts])] → lcW [.sh (.tuple [.int many, s, .tuple ss, .tuple ts]), .sh (.int many), .sh s, .sh (.tuple ss), .sh (.tuple ts), .un] [5] (dgName 5) (fun ρ Q => Q true ρ) (dCall T_are_tops (fun _ => False) fun ρ Q => known ρ 5 ∧ Q [.slot 5] ρ) ts [] (fun acc => allD (.list acc) fun z => Q z [.sh (.tuple [.int many, s, .tuple ss, .tuple ts])]) := fun q => by
                  refine lcW_map (fun r => .bool (match r with
                    | .tuple ds => topsB ds
                    | _ => false)) (by omega) (fun d hd R hR => ?_) ?_
                  · walk_at "d"
                    rcases rowF_of (t2 d hd) with hs | ⟨ds, rfl, hl⟩
                    · refine .inl ⟨hs, ?_⟩
                      cases d <;> first | exact hR | cases hs
                    · exact .inr ⟨ds, rfl, hl, hR⟩
                  refine ⟨ts.map _, by rw [List.map_map]; rfl, ?_⟩
                  rw [List.all_map]
                  exact q
                dsimp only
                cases h7 : ss.all ((id : Bool → Bool) ∘ fun r => match r with
                  | .tuple ds => stepsB many ds
                  | _ => false) with
                | false =>
                  rw [if_neg (by decide)]
                  have e : (itD (.tuple ss)).all (fun r => match r with
                    | .tuple ds => stepsB many ds
                    | _ => false) = false := h7
                  rw [e, Bool.false_and] at no
                  exact no rfl
                | true =>
                  have e : (itD (.tuple ss)).all (fun r => match r with
                    | .tuple ds => stepsB many ds
                    | _ => false) = true := h7
                  rw [e, Bool.true_and] at q
                  rw [if_pos rfl]
                  exact tops q
        · rw [decide_eq_false h3] at no
          rw [if_pos (by rw [decide_eq_true_iff]; omega)]
          exact no rfl
      · rw [if_pos (by rw [Bool.eq_false_iff.mpr hn]; rfl)]
        refine no ?_
        unfold wmB
        cases m <;> first | rfl | exact absurd rfl hn | skip
        rename_i i
        have : decide (0 ≤ i) = false := Bool.eq_false_iff.mpr hn
        dsimp only
        rw [this]
        rfl
    · rw [if_pos (by rw [Bool.eq_false_iff.mpr hr]; rfl)]
      rw [wm_no hr] at q
      exact q
end
end Lw
set_option Elab.async false
set_option linter.all false
set_option maxRecDepth 100000
set_option maxHeartbeats 1000000
set_option pp.deepTerms true
set_option pp.maxSteps 200000
namespace Lw
open PySem PySem.Spec PyProof PyProof.Rows L2 So Da Dl
local macro_rules | `(tactic| walk_at "z") => `(tactic| repeat (first | refine ⟨(by decide), ?_⟩ | refine ⟨(by omega), ?_⟩ | refine ⟨rfl, ?_⟩))
section
variable {Z : Zw}
def stG : PyData := .tuple [.tuple [.tuple [.int 0, .int 0], .tuple [.int 1, .int 1]], .tuple [.tuple [.int 0, .int 1]]]
def tpG : PyData := .tuple [.tuple [.int 0], .tuple [.int 0, .int 1]]
def goodD : PyData := .tuple [.int 2, .int 0, stG, tpG]
theorem good_wf : wfB goodD = true := by decide +kernel
theorem good_wm : wmB goodD = true := by decide +kernel
def BadW (R : Addr) (D : PyData) (er : EK) : Prop := wfB D = true ∧ wmB D = false ∧ er (R, D)
abbrev T_check_words_machine (R : Addr) : TD := T1 fun D Q er => BadW R D er ∨ (D = goodD ∧ Q goodD)
abbrev s_check_words_machine : Stmt := top 42
theorem sc_check_words_machine : FnScope ["value", "many", "start", "steps", "tops", "rows", "row", "step"] ["value"] (defScope s_check_words_machine) := ⟨rfl, rfl, rfl, by decide +kernel, rfl, by decide +kernel, by decide +kernel⟩
local macro_rules | `(tactic| walk_at "d") => `(tactic| simp only [↓dSeq, ↓dFor, ↓reprD, ↓dCallK, ↓dIfS, ↓dAndV, ↓dOrV, ↓dUn, ↓dOp, ↓dC, ↓dVar, ↓derefW, ↓deref, ↓known, ↓noOb, ↓nbO, ↓start0, ↓endsOf, ↓outA, ↓toB, ↓dAnd, ↓dOr, ↓dNot, ↓ofB, ↓dIf, ↓dChain, ↓dgName, ↓dgSeq, ↓dgCons, ↓dgNil, ↓dLc, ↓popW, ↓atOl, ↓isOl, ↓ownS, ↓frzD, ↓dCall, argsOf, argLc, obSlots, upS, upO, ↓noObs, ↓wipeD, List.map_cons, List.map_nil, List.length_cons, List.length_nil, Nat.sub_self, Nat.zero_add, Nat.reduceAdd, Nat.reduceSub, List.replicate, List.append_nil, List.cons_append, List.nil_append, List.getElem?_cons_zero, List.getElem?_cons_succ, List.getElem?_nil, List.set, List.head?, List.tail, Option.getD_some, Option.getD_none, List.nodup_nil, List.nodup_cons, List.not_mem_nil, List.mem_cons, List.mem_singleton, or_false, Nat.reduceEqDiff, true_and, and_true, Bool.not_true, Bool.not_false, if_true, Bool.false_eq_true, if_false, ite_true, ite_false, not_false_eq_true, reduceCtorEq, eqD_int, eqD_str, eqD_bl, eqD_tuple, eqD_list, eqD_tupleR, eqD_listR, eqD_non, neD_int, neD_str, neD_bl, neD_tuple, neD_list, neD_tupleR, neD_listR, neD_non, ↓isD, ↓notD, ix_0, ix_1, ix_2, ix_3, ix_4, ix_L0, ix_L1, ix_L2, itemsD_L, itemsD_T, tupleD_L, tupleD_T, listD_L, listD_T, lenD_L, lenD_T, lenD_S, slD_L, slD_T, addD_I, addD_S, addD_T, addD_L, subD_I, mulD_I, ltD_I, ltD_S, leD_I, gtD_I, geD_I, modD_I, fdivD_I, powD_I, intD_I, intD_B, negD_I, isND_N, isND_I, isND_S, isND_B, isND_T, isND_L, sq_T, sq_L, sq_N, sq_I, sq_S, sq_B, at_0, at_1, at_2, at_3, at_4, ↓isiD, pick, List.filterMap_cons_some, List.filterMap_nil, List.filterMap_cons, ↓ownC, ↓T1, ↓T2, ↓T3, ↓T4, ↓dHeard, ↓capsD, ↓slotsD, ↓lamW, lamSto, cpLc, ↓dHeardS, ↓dAsks, ↓asksW, ↓heardT, ↓Tbox, ↓Ttake, revD, sortSetD, dOl, isBD, ↓intW])
theorem ok_check_words_machine {f : Addr} {fd : FuncData} (F : Fun Z.K "check_words_machine" "check_words_machine" s_check_words_machine f fd) (T : Tz Z.K Z.mg) {C_Refused : Addr}
    {f_is_words_machine : Addr} {fd_is_words_machine : FuncData} (D_is_words_machine : Df Z.K Z.mg "_is_words_machine" s_is_words_machine ["value"] f_is_words_machine fd_is_words_machine) (G_is_words_machine : FnD Z.Pg Z.w Z.K Z.mg Z.base CX0 4 f_is_words_machine fd_is_words_machine ["value"] (spT Z (T_is_words_machine)))
    (A_Refused : Z.T.an C_Refused = "at") {fI_Refused : Addr} {fdI_Refused : FuncData} (B_Refused : Er Z.K Z.mg "Refused" "Refused.__init__" "at" c_Refused C_Refused fI_Refused fdI_Refused) (I_Refused : FnOk Z.Pg Z.w Z.K Z.mg Z.base CX0 3 fI_Refused fdI_Refused ["self", "at"] (spIni C_Refused "at")) : FnD Z.Pg Z.w Z.K Z.mg Z.base (L2.CX Z.Pg Z.w) 5 f fd ["value"] (spT Z (T_check_words_machine C_Refused)) := by
  refine okDX F sc_check_words_machine (fun as Q er h => ?_) (fun cdv A outer s H E G0 er ca hE hr hgd hca => (dss_cons (ds_if (dt_not (dt_val (de_call G_is_words_machine hr hgd (by rfl) D_is_words_machine.g D_is_words_machine.F.kp D_is_words_machine.b (drs_cons (dr_var 0) drs_nil))))
        (dss_one (ds_raise A_Refused hE (ps_raise rfl (takes_of rfl rfl rfl rfl) (pmk_oex B_Refused.T B_Refused.ini B_Refused.ty I_Refused hr B_Refused.b .nil pass0 (by rfl) B_Refused.g (pa_cons (de_var 0) pa_nil)))))
        dss_nil)
      (dss_cons (ds_asg (de_var 0) (dg_seq (m := 4) rfl (dgs_cons (dg_name (i := 1) sc_check_words_machine.nd rfl (Or.inl rfl)) (dgs_cons (dg_name (i := 2) sc_check_words_machine.nd rfl (Or.inl rfl)) (dgs_cons (dg_name (i := 3) sc_check_words_machine.nd rfl (Or.inl rfl)) (dgs_cons (dg_name (i := 4) sc_check_words_machine.nd rfl (Or.inl rfl)) dgs_nil))))))
      (dss_cons (ds_setLc (i := 5) (own := [("row", 6)]) rfl sc_check_words_machine.nd rfl rfl (sw_true rfl rfl rfl (by decide +kernel)) (di_seq (de_var 3)) (blkOk_by (own := [("row", 6)]) (N := ["value", "many", "start", "steps", "tops", "rows", "row", "step"]) (sc := defScope s_check_words_machine) (by decide +kernel)) (fun _ _ _ _ _ => (dg_name (i := 6) sc_check_words_machine.nd rfl (Or.inl rfl))) (fun _ _ _ _ _ => dts_nil) (fun _ _ _ _ _ => (de_callTy call_tupleF cd_tuple (by rfl) T.tuple (by decide +kernel) (dr_of (de_of_df (df_lc (own := [("step", 7)]) rfl sc_check_words_machine.nd (di_seq (de_var 6)) (blkOk_by (own := [("step", 7)]) (N := ["value", "many", "start", "steps", "tops", "rows", "row", "step"]) (sc := { kind := ScopeKind.function, names := [(".0", NameKind.local), ("row", NameKind.local), ("tuple", NameKind.globalImplicit)], isGenerator := false, isCoroutine := false }) (by decide +kernel)) (fun _ _ _ _ _ => (dg_name (i := 7) sc_check_words_machine.nd rfl (Or.inl rfl))) (fun _ _ _ _ _ => dts_nil) (fun _ _ _ _ _ => (de_callTy call_tupleF cd_tuple (by rfl) T.tuple (by decide +kernel) (dr_var 7)))))))))
      (dss_one (ds_ret (de_tup (da_cons (de_var 1) (da_cons (de_var 2) (da_cons (de_callTy call_tupleF cd_tuple (by rfl) T.tuple (by decide +kernel) (dr_var 5)) (da_cons (de_callTy call_tupleF cd_tuple (by rfl) T.tuple (by decide +kernel) (dr_of (de_of_df (df_lc (own := [("row", 6)]) rfl sc_check_words_machine.nd (di_seq (de_var 4)) (blkOk_by (own := [("row", 6)]) (N := ["value", "many", "start", "steps", "tops", "rows", "row", "step"]) (sc := defScope s_check_words_machine) (by decide +kernel)) (fun _ _ _ _ _ => (dg_name (i := 6) sc_check_words_machine.nd rfl (Or.inl rfl))) (fun _ _ _ _ _ => dts_nil) (fun _ _ _ _ _ => (de_callTy call_tupleF cd_tuple (by rfl) T.tuple (by decide +kernel) (dr_var 6))))))) da_nil))))))))))) (fun ca as Q er h => ?_)
  · obtain ⟨_, rfl, _⟩ := t1_inv h
    rfl
  · obtain ⟨a, rfl, q⟩ := t1_inv h
    walk_at "d"
    rcases q with ⟨h1, h2, q⟩ | ⟨rfl, q⟩
    · refine ⟨h1, ?_⟩
      rw [h2]
      exact q
    · refine ⟨good_wf, ?_⟩
      rw [good_wm, if_neg (by decide)]
      unfold goodD stG tpG at *
      walk_at "d"
      have tu : ∀ d ∈ [PyData.tuple [.tuple [.int 0, .int 0], .tuple [.int 1, .int 1]], .tuple [.tuple [.int 0, .int 1]]], ∃ ds, d = .tuple ds ∧ ds.length ≤ 2 ∧ ∀ x ∈ ds, ∃ es, x = .tuple es := fun d hd => by
        simp only [List.mem_cons, List.not_mem_nil, or_false] at hd
        rcases hd with rfl | rfl
        · exact ⟨_, rfl, by decide, fun x m => by
            simp only [List.mem_cons, List.not_mem_nil, or_false] at m
            rcases m with rfl | rfl <;> exact ⟨_, rfl⟩⟩
        · exact ⟨_, rfl, by decide, fun x m => by
            rw [List.mem_singleton.mp m]
            exact ⟨_, rfl⟩⟩
      refine lcW_map (fun d => d) (by decide) (fun d hd R hR => ?_) ?_
      · obtain ⟨ds, rfl, hl, hds⟩ := tu d hd
        walk_at "d"
        refine lcW_map (fun d => d) (by omega) (fun x hx R2 hR2 => ?_) ?_
        · obtain ⟨es, rfl⟩ := hds x hx
          walk_at "d"
          exact hR2
        rw [List.map_id']
        exact hR
      rw [List.map_id']
      refine lcW_map (fun d => d) (by decide) (fun d hd R hR => ?_) ?_
      · have : ∃ es, d = .tuple es := by
          simp only [List.mem_cons, List.not_mem_nil, or_false] at hd
          rcases hd with rfl | rfl <;> exact ⟨_, rfl⟩
        obtain ⟨es, rfl⟩ := this
        walk_at "d"
        exact hR
      rw [List.map_id']
      exact ⟨by decide, q⟩
abbrev T_counted (R : Addr) : TD := T2 fun D n Q er => BadW R D er ∨ (D = goodD ∧ numB n = false ∧ er (R, n))
abbrev s_counted : Stmt := top 46
theorem sc_counted : FnScope ["words", "depth", "checked", "kept", "ways", "kinds", "_"] ["words", "depth"] (defScope s_counted) := ⟨rfl, rfl, rfl, by decide +kernel, rfl, by decide +kernel, by decide +kernel⟩
theorem ok_counted {f : Addr} {fd : FuncData} (F : Fun Z.K "counted" "counted" s_counted f fd) (T : Tz Z.K Z.mg) {C_Refused : Addr}
    {f_check_words_machine : Addr} {fd_check_words_machine : FuncData} (D_check_words_machine : Df Z.K Z.mg "check_words_machine" s_check_words_machine ["value"] f_check_words_machine fd_check_words_machine) (G_check_words_machine : FnD Z.Pg Z.w Z.K Z.mg Z.base (L2.CX Z.Pg Z.w) 5 f_check_words_machine fd_check_words_machine ["value"] (spT Z (T_check_words_machine C_Refused)))
    {f_is_number : Addr} {fd_is_number : FuncData} (D_is_number : Df Z.K Z.mg "is_number" s_is_number ["value"] f_is_number fd_is_number) (G_is_number : FnD Z.Pg Z.w Z.K Z.mg Z.base CX0 5 f_is_number fd_is_number ["value"] (spT Z (T_is_number)))
    (A_Refused : Z.T.an C_Refused = "at") {fI_Refused : Addr} {fdI_Refused : FuncData} (B_Refused : Er Z.K Z.mg "Refused" "Refused.__init__" "at" c_Refused C_Refused fI_Refused fdI_Refused) (I_Refused : FnOk Z.Pg Z.w Z.K Z.mg Z.base CX0 4 fI_Refused fdI_Refused ["self", "at"] (spIni C_Refused "at")) : FnD Z.Pg Z.w Z.K Z.mg Z.base (L2.CX Z.Pg Z.w) 6 f fd ["words", "depth"] (spT Z (T_counted C_Refused)) := by
  refine okDX F sc_counted (fun as Q er h => ?_) (fun cdv A outer s H E G0 er ca hE hr hgd hca => (dss_cons (ds_set (i := 2) sc_counted.nd rfl (Or.inl rfl) (de_callX hE (passes_call (takes_of rfl rfl rfl rfl) fun _ _ _ _ h => h) G_check_words_machine hr hgd (by rfl) D_check_words_machine.g D_check_words_machine.F.kp D_check_words_machine.b (drs_cons (dr_var 0) drs_nil)))
      (dss_cons (ds_if (dt_not (dt_val (de_call G_is_number hr hgd (by rfl) D_is_number.g D_is_number.F.kp D_is_number.b (drs_cons (dr_var 1) drs_nil))))
        (dss_one (ds_raise A_Refused hE (ps_raise rfl (takes_of rfl rfl rfl rfl) (pmk_oex B_Refused.T B_Refused.ini B_Refused.ty I_Refused hr B_Refused.b .nil pass0 (by rfl) B_Refused.g (pa_cons (de_var 1) pa_nil)))))
        dss_nil)
      dss_any))) (fun ca as Q er h => ?_)
  · obtain ⟨_, _, rfl, _⟩ := t2_inv h
    rfl
  · obtain ⟨a, b, rfl, q⟩ := t2_inv h
    walk_at "d"
    rcases q with h | ⟨rfl, h, q⟩
    · exact .inl h
    · refine .inr ⟨rfl, ?_⟩
      rw [h]
      exact q
abbrev T_most_kinds (R : Addr) : TD := T2 fun D n Q er => BadW R D er ∨ (D = goodD ∧ numB n = false ∧ er (R, n))
abbrev s_most_kinds : Stmt := top 47
theorem sc_most_kinds : FnScope ["words", "depth"] ["words", "depth"] (defScope s_most_kinds) := ⟨rfl, rfl, rfl, by decide +kernel, rfl, by decide +kernel, by decide +kernel⟩
theorem ok_most_kinds {f : Addr} {fd : FuncData} (F : Fun Z.K "most_kinds" "most_kinds" s_most_kinds f fd) (T : Tz Z.K Z.mg) {C_Refused : Addr}
    {f_counted : Addr} {fd_counted : FuncData} (D_counted : Df Z.K Z.mg "counted" s_counted ["words", "depth"] f_counted fd_counted) (G_counted : FnD Z.Pg Z.w Z.K Z.mg Z.base (L2.CX Z.Pg Z.w) 6 f_counted fd_counted ["words", "depth"] (spT Z (T_counted C_Refused))) : FnD Z.Pg Z.w Z.K Z.mg Z.base (L2.CX Z.Pg Z.w) 7 f fd ["words", "depth"] (spT Z (T_most_kinds C_Refused)) := by
  refine okDX F sc_most_kinds (fun as Q er h => ?_) (fun cdv A outer s H E G0 er ca hE hr hgd hca => (dss_one (ds_ret (de_callB (cr_max rfl) cd_max (by rfl) T.max (by decide +kernel) (dr_of (de_callX hE (passes_call (takes_of rfl rfl rfl rfl) fun _ _ _ _ h => h) G_counted hr hgd (by rfl) D_counted.g D_counted.F.kp D_counted.b (drs_cons (dr_var 0) (drs_cons (dr_var 1) drs_nil)))))))) (fun ca as Q er h => ?_)
  · obtain ⟨_, _, rfl, _⟩ := t2_inv h
    rfl
  · obtain ⟨a, b, rfl, q⟩ := t2_inv h
    walk_at "d"
    exact q
abbrev T_bits_at (R : Addr) : TD := T2 fun D n Q er => BadW R D er ∨ (D = goodD ∧ numB n = false ∧ er (R, n))
abbrev s_bits_at : Stmt := top 48
theorem sc_bits_at : FnScope ["words", "depth", "most", "doublings", "reach"] ["words", "depth"] (defScope s_bits_at) := ⟨rfl, rfl, rfl, by decide +kernel, rfl, by decide +kernel, by decide +kernel⟩
theorem ok_bits_at {f : Addr} {fd : FuncData} (F : Fun Z.K "bits_at" "bits_at" s_bits_at f fd) (T : Tz Z.K Z.mg) {C_Refused : Addr}
    {f_most_kinds : Addr} {fd_most_kinds : FuncData} (D_most_kinds : Df Z.K Z.mg "most_kinds" s_most_kinds ["words", "depth"] f_most_kinds fd_most_kinds) (G_most_kinds : FnD Z.Pg Z.w Z.K Z.mg Z.base (L2.CX Z.Pg Z.w) 7 f_most_kinds fd_most_kinds ["words", "depth"] (spT Z (T_most_kinds C_Refused))) : FnD Z.Pg Z.w Z.K Z.mg Z.base (L2.CX Z.Pg Z.w) 8 f fd ["words", "depth"] (spT Z (T_bits_at C_Refused)) := by
  refine okDX F sc_bits_at (fun as Q er h => ?_) (fun cdv A outer s H E G0 er ca hE hr hgd hca => (dss_cons (ds_set (i := 2) sc_bits_at.nd rfl (Or.inl rfl) (de_callX hE (passes_call (takes_of rfl rfl rfl rfl) fun _ _ _ _ h => h) G_most_kinds hr hgd (by rfl) D_most_kinds.g D_most_kinds.F.kp D_most_kinds.b (drs_cons (dr_var 0) (drs_cons (dr_var 1) drs_nil))))
      dss_any)) (fun ca as Q er h => ?_)
  · obtain ⟨_, _, rfl, _⟩ := t2_inv h
    rfl
  · obtain ⟨a, b, rfl, q⟩ := t2_inv h
    walk_at "d"
    exact q
abbrev T_loops (R : Addr) : TD := T1 fun D Q er => BadW R D er
abbrev s_loops : Stmt := top 50
theorem sc_loops : FnScope ["words", "checked", "nexts", "lot"] ["words"] (defScope s_loops) := ⟨rfl, rfl, rfl, by decide +kernel, rfl, by decide +kernel, by decide +kernel⟩
theorem ok_loops {f : Addr} {fd : FuncData} (F : Fun Z.K "loops" "loops" s_loops f fd) (T : Tz Z.K Z.mg) {C_Refused : Addr}
    {f_check_words_machine : Addr} {fd_check_words_machine : FuncData} (D_check_words_machine : Df Z.K Z.mg "check_words_machine" s_check_words_machine ["value"] f_check_words_machine fd_check_words_machine) (G_check_words_machine : FnD Z.Pg Z.w Z.K Z.mg Z.base (L2.CX Z.Pg Z.w) 5 f_check_words_machine fd_check_words_machine ["value"] (spT Z (T_check_words_machine C_Refused))) : FnD Z.Pg Z.w Z.K Z.mg Z.base (L2.CX Z.Pg Z.w) 6 f fd ["words"] (spT Z (T_loops C_Refused)) := by
  refine okDX F sc_loops (fun as Q er h => ?_) (fun cdv A outer s H E G0 er ca hE hr hgd hca => (dss_cons (ds_set (i := 1) sc_loops.nd rfl (Or.inl rfl) (de_callX hE (passes_call (takes_of rfl rfl rfl rfl) fun _ _ _ _ h => h) G_check_words_machine hr hgd (by rfl) D_check_words_machine.g D_check_words_machine.F.kp D_check_words_machine.b (drs_cons (dr_var 0) drs_nil)))
      dss_any)) (fun ca as Q er h => ?_)
  · obtain ⟨_, rfl, _⟩ := t1_inv h
    rfl
  · obtain ⟨a, rfl, q⟩ := t1_inv h
    walk_at "d"
    exact .inl q
abbrev T_growth (R : Addr) : TD := T1 fun D Q er => BadW R D er
abbrev s_growth : Stmt := top 53
theorem sc_growth : FnScope ["words", "checked", "many"] ["words"] (defScope s_growth) := ⟨rfl, rfl, rfl, by decide +kernel, rfl, by decide +kernel, by decide +kernel⟩
theorem ok_growth {f : Addr} {fd : FuncData} (F : Fun Z.K "growth" "growth" s_growth f fd) (T : Tz Z.K Z.mg) {C_Refused : Addr}
    {f_check_words_machine : Addr} {fd_check_words_machine : FuncData} (D_check_words_machine : Df Z.K Z.mg "check_words_machine" s_check_words_machine ["value"] f_check_words_machine fd_check_words_machine) (G_check_words_machine : FnD Z.Pg Z.w Z.K Z.mg Z.base (L2.CX Z.Pg Z.w) 5 f_check_words_machine fd_check_words_machine ["value"] (spT Z (T_check_words_machine C_Refused))) : FnD Z.Pg Z.w Z.K Z.mg Z.base (L2.CX Z.Pg Z.w) 6 f fd ["words"] (spT Z (T_growth C_Refused)) := by
  refine okDX F sc_growth (fun as Q er h => ?_) (fun cdv A outer s H E G0 er ca hE hr hgd hca => (dss_cons (ds_set (i := 1) sc_growth.nd rfl (Or.inl rfl) (de_callX hE (passes_call (takes_of rfl rfl rfl rfl) fun _ _ _ _ h => h) G_check_words_machine hr hgd (by rfl) D_check_words_machine.g D_check_words_machine.F.kp D_check_words_machine.b (drs_cons (dr_var 0) drs_nil)))
      dss_any)) (fun ca as Q er h => ?_)
  · obtain ⟨_, rfl, _⟩ := t1_inv h
    rfl
  · obtain ⟨a, rfl, q⟩ := t1_inv h
    walk_at "d"
    exact .inl q
abbrev s_power : Stmt := top 52
def T_power : TD := fun _ _ _ => False
theorem ok_power {f : Addr} {fd : FuncData} (F : Fun Z.K "_power" "_power" s_power f fd) (T : Tz Z.K Z.mg) : FnD Z.Pg Z.w Z.K Z.mg Z.base CX0 1 f fd ["words"] (spT Z (T_power)) := by
  exact fnD_no fun _ _ _ h => h
abbrev T_bits (R : Addr) : TD := T1 fun D Q er => BadW R D er
abbrev s_bits : Stmt := top 54
theorem sc_bits : FnScope ["words", "many"] ["words"] (defScope s_bits) := ⟨rfl, rfl, rfl, by decide +kernel, rfl, by decide +kernel, by decide +kernel⟩
theorem ok_bits {f : Addr} {fd : FuncData} (F : Fun Z.K "bits" "bits" s_bits f fd) (T : Tz Z.K Z.mg) {C_Refused : Addr}
    {f_power : Addr} {fd_power : FuncData} (D_power : Df Z.K Z.mg "_power" s_power ["words"] f_power fd_power) (G_power : FnD Z.Pg Z.w Z.K Z.mg Z.base CX0 5 f_power fd_power ["words"] (spT Z (T_power)))
    {f_check_words_machine : Addr} {fd_check_words_machine : FuncData} (D_check_words_machine : Df Z.K Z.mg "check_words_machine" s_check_words_machine ["value"] f_check_words_machine fd_check_words_machine) (G_check_words_machine : FnD Z.Pg Z.w Z.K Z.mg Z.base (L2.CX Z.Pg Z.w) 5 f_check_words_machine fd_check_words_machine ["value"] (spT Z (T_check_words_machine C_Refused))) : FnD Z.Pg Z.w Z.K Z.mg Z.base (L2.CX Z.Pg Z.w) 6 f fd ["words"] (spT Z (T_bits C_Refused)) := by
  refine okDX F sc_bits (fun as Q er h => ?_) (fun cdv A outer s H E G0 er ca hE hr hgd hca => (dss_cons (ds_set (i := 1) sc_bits.nd rfl (Or.inl rfl) (de_call G_power hr hgd (by rfl) D_power.g D_power.F.kp D_power.b (drs_cons (dr_of (de_callX hE (passes_call (takes_of rfl rfl rfl rfl) fun _ _ _ _ h => h) G_check_words_machine hr hgd (by rfl) D_check_words_machine.g D_check_words_machine.F.kp D_check_words_machine.b (drs_cons (dr_var 0) drs_nil))) drs_nil)))
      dss_any)) (fun ca as Q er h => ?_)
  · obtain ⟨_, rfl, _⟩ := t1_inv h
    rfl
  · obtain ⟨a, rfl, q⟩ := t1_inv h
    walk_at "d"
    exact .inl q
abbrev T_rests (R : Addr) : TD := T1 fun D Q er => BadW R D er
abbrev s_rests : Stmt := top 55
theorem sc_rests : FnScope ["words", "checked", "many"] ["words"] (defScope s_rests) := ⟨rfl, rfl, rfl, by decide +kernel, rfl, by decide +kernel, by decide +kernel⟩
theorem ok_rests {f : Addr} {fd : FuncData} (F : Fun Z.K "rests" "rests" s_rests f fd) (T : Tz Z.K Z.mg) {C_Refused : Addr}
    {f_check_words_machine : Addr} {fd_check_words_machine : FuncData} (D_check_words_machine : Df Z.K Z.mg "check_words_machine" s_check_words_machine ["value"] f_check_words_machine fd_check_words_machine) (G_check_words_machine : FnD Z.Pg Z.w Z.K Z.mg Z.base (L2.CX Z.Pg Z.w) 5 f_check_words_machine fd_check_words_machine ["value"] (spT Z (T_check_words_machine C_Refused))) : FnD Z.Pg Z.w Z.K Z.mg Z.base (L2.CX Z.Pg Z.w) 6 f fd ["words"] (spT Z (T_rests C_Refused)) := by
  refine okDX F sc_rests (fun as Q er h => ?_) (fun cdv A outer s H E G0 er ca hE hr hgd hca => (dss_cons (ds_set (i := 1) sc_rests.nd rfl (Or.inl rfl) (de_callX hE (passes_call (takes_of rfl rfl rfl rfl) fun _ _ _ _ h => h) G_check_words_machine hr hgd (by rfl) D_check_words_machine.g D_check_words_machine.F.kp D_check_words_machine.b (drs_cons (dr_var 0) drs_nil)))
      dss_any)) (fun ca as Q er h => ?_)
  · obtain ⟨_, rfl, _⟩ := t1_inv h
    rfl
  · obtain ⟨a, rfl, q⟩ := t1_inv h
    walk_at "d"
    exact .inl q
abbrev T_grows (R : Addr) : TD := T1 fun D Q er => BadW R D er
abbrev s_grows : Stmt := top 57
theorem sc_grows : FnScope ["words", "checked"] ["words"] (defScope s_grows) := ⟨rfl, rfl, rfl, by decide +kernel, rfl, by decide +kernel, by decide +kernel⟩
theorem ok_grows {f : Addr} {fd : FuncData} (F : Fun Z.K "grows" "grows" s_grows f fd) (T : Tz Z.K Z.mg) {C_Refused : Addr}
    {f_check_words_machine : Addr} {fd_check_words_machine : FuncData} (D_check_words_machine : Df Z.K Z.mg "check_words_machine" s_check_words_machine ["value"] f_check_words_machine fd_check_words_machine) (G_check_words_machine : FnD Z.Pg Z.w Z.K Z.mg Z.base (L2.CX Z.Pg Z.w) 5 f_check_words_machine fd_check_words_machine ["value"] (spT Z (T_check_words_machine C_Refused))) : FnD Z.Pg Z.w Z.K Z.mg Z.base (L2.CX Z.Pg Z.w) 6 f fd ["words"] (spT Z (T_grows C_Refused)) := by
  refine okDX F sc_grows (fun as Q er h => ?_) (fun cdv A outer s H E G0 er ca hE hr hgd hca => (dss_cons (ds_set (i := 1) sc_grows.nd rfl (Or.inl rfl) (de_callX hE (passes_call (takes_of rfl rfl rfl rfl) fun _ _ _ _ h => h) G_check_words_machine hr hgd (by rfl) D_check_words_machine.g D_check_words_machine.F.kp D_check_words_machine.b (drs_cons (dr_var 0) drs_nil)))
      dss_any)) (fun ca as Q er h => ?_)
  · obtain ⟨_, rfl, _⟩ := t1_inv h
    rfl
  · obtain ⟨a, rfl, q⟩ := t1_inv h
    walk_at "d"
    exact .inl q
abbrev T_ranks (R : Addr) : TD := T1 fun D Q er => BadW R D er
abbrev s_ranks : Stmt := top 59
theorem sc_ranks : FnScope ["words", "checked"] ["words"] (defScope s_ranks) := ⟨rfl, rfl, rfl, by decide +kernel, rfl, by decide +kernel, by decide +kernel⟩
theorem ok_ranks {f : Addr} {fd : FuncData} (F : Fun Z.K "ranks" "ranks" s_ranks f fd) (T : Tz Z.K Z.mg) {C_Refused : Addr}
    {f_check_words_machine : Addr} {fd_check_words_machine : FuncData} (D_check_words_machine : Df Z.K Z.mg "check_words_machine" s_check_words_machine ["value"] f_check_words_machine fd_check_words_machine) (G_check_words_machine : FnD Z.Pg Z.w Z.K Z.mg Z.base (L2.CX Z.Pg Z.w) 5 f_check_words_machine fd_check_words_machine ["value"] (spT Z (T_check_words_machine C_Refused))) : FnD Z.Pg Z.w Z.K Z.mg Z.base (L2.CX Z.Pg Z.w) 6 f fd ["words"] (spT Z (T_ranks C_Refused)) := by
  refine okDX F sc_ranks (fun as Q er h => ?_) (fun cdv A outer s H E G0 er ca hE hr hgd hca => (dss_cons (ds_set (i := 1) sc_ranks.nd rfl (Or.inl rfl) (de_callX hE (passes_call (takes_of rfl rfl rfl rfl) fun _ _ _ _ h => h) G_check_words_machine hr hgd (by rfl) D_check_words_machine.g D_check_words_machine.F.kp D_check_words_machine.b (drs_cons (dr_var 0) drs_nil)))
      dss_any)) (fun ca as Q er h => ?_)
  · obtain ⟨_, rfl, _⟩ := t1_inv h
    rfl
  · obtain ⟨a, rfl, q⟩ := t1_inv h
    walk_at "d"
    exact .inl q
abbrev T_at_rest (R : Addr) : TD := T3 fun D m r Q er => BadW R D er ∨ (D = goodD ∧ ((numB m = false ∧ er (R, m)) ∨ ∃ i, m = .int i ∧ 0 ≤ i ∧ ((¬ (1 ≤ i ∧ i ≤ 12) ∧ er (R, m)) ∨ (1 ≤ i ∧ i ≤ 12 ∧ belB r i = false ∧ er (R, r)))))
abbrev s_at_rest : Stmt := top 56
theorem sc_at_rest : FnScope ["words", "modulo", "rest", "_", "start", "steps", "tops", "states", "numbers", "rows", "new_tops", "state", "turn", "row", "letter", "behind", "led"] ["words", "modulo", "rest"] (defScope s_at_rest) := ⟨rfl, rfl, rfl, by decide +kernel, rfl, by decide +kernel, by decide +kernel⟩
theorem ok_at_rest {f : Addr} {fd : FuncData} (F : Fun Z.K "at_rest" "at_rest" s_at_rest f fd) (T : Tz Z.K Z.mg) {C_Refused : Addr}
    {f_check_words_machine : Addr} {fd_check_words_machine : FuncData} (D_check_words_machine : Df Z.K Z.mg "check_words_machine" s_check_words_machine ["value"] f_check_words_machine fd_check_words_machine) (G_check_words_machine : FnD Z.Pg Z.w Z.K Z.mg Z.base (L2.CX Z.Pg Z.w) 5 f_check_words_machine fd_check_words_machine ["value"] (spT Z (T_check_words_machine C_Refused)))
    {f_is_number : Addr} {fd_is_number : FuncData} (D_is_number : Df Z.K Z.mg "is_number" s_is_number ["value"] f_is_number fd_is_number) (G_is_number : FnD Z.Pg Z.w Z.K Z.mg Z.base CX0 5 f_is_number fd_is_number ["value"] (spT Z (T_is_number)))
    {f_is_number_below : Addr} {fd_is_number_below : FuncData} (D_is_number_below : Df Z.K Z.mg "is_number_below" s_is_number_below ["value", "bound"] f_is_number_below fd_is_number_below) (G_is_number_below : FnD Z.Pg Z.w Z.K Z.mg Z.base CX0 5 f_is_number_below fd_is_number_below ["value", "bound"] (spT Z (T_is_number_below)))
    (A_Refused : Z.T.an C_Refused = "at") {fI_Refused : Addr} {fdI_Refused : FuncData} (B_Refused : Er Z.K Z.mg "Refused" "Refused.__init__" "at" c_Refused C_Refused fI_Refused fdI_Refused) (I_Refused : FnOk Z.Pg Z.w Z.K Z.mg Z.base CX0 4 fI_Refused fdI_Refused ["self", "at"] (spIni C_Refused "at")) : FnD Z.Pg Z.w Z.K Z.mg Z.base (L2.CX Z.Pg Z.w) 6 f fd ["words", "modulo", "rest"] (spT Z (T_at_rest C_Refused)) := by
  refine okDX F sc_at_rest (fun as Q er h => ?_) (fun cdv A outer s H E G0 er ca hE hr hgd hca => (dss_cons (ds_asg (de_callX hE (passes_call (takes_of rfl rfl rfl rfl) fun _ _ _ _ h => h) G_check_words_machine hr hgd (by rfl) D_check_words_machine.g D_check_words_machine.F.kp D_check_words_machine.b (drs_cons (dr_var 0) drs_nil)) (dg_seq (m := 4) rfl (dgs_cons (dg_name (i := 3) sc_at_rest.nd rfl (Or.inl rfl)) (dgs_cons (dg_name (i := 4) sc_at_rest.nd rfl (Or.inl rfl)) (dgs_cons (dg_name (i := 5) sc_at_rest.nd rfl (Or.inl rfl)) (dgs_cons (dg_name (i := 6) sc_at_rest.nd rfl (Or.inr rfl)) dgs_nil))))))
      (dss_cons (ds_if (DW.dt (dw_or (dt_not (dt_val (de_call G_is_number hr hgd (by rfl) D_is_number.g D_is_number.F.kp D_is_number.b (drs_cons (dr_var 1) drs_nil)))) (dw_or1 (dt_not (dt_chain op_le od_le op_le od_le (dr_of de_int) (dr_var 1) (dr_of (de_gInt (i := 12) (by rfl) T.c_MODULO_MOST)))))))
        (dss_one (ds_raise A_Refused hE (ps_raise rfl (takes_of rfl rfl rfl rfl) (pmk_oex B_Refused.T B_Refused.ini B_Refused.ty I_Refused hr B_Refused.b .nil pass0 (by rfl) B_Refused.g (pa_cons (de_var 1) pa_nil)))))
        dss_nil)
      (dss_cons (ds_if (dt_not (dt_val (de_call G_is_number_below hr hgd (by rfl) D_is_number_below.g D_is_number_below.F.kp D_is_number_below.b (drs_cons (dr_var 2) (drs_cons (dr_var 1) drs_nil)))))
        (dss_one (ds_raise A_Refused hE (ps_raise rfl (takes_of rfl rfl rfl rfl) (pmk_oex B_Refused.T B_Refused.ini B_Refused.ty I_Refused hr B_Refused.b .nil pass0 (by rfl) B_Refused.g (pa_cons (de_var 2) pa_nil)))))
        dss_nil)
      dss_any)))) (fun ca as Q er h => ?_)
  · obtain ⟨_, _, _, rfl, _⟩ := t3_inv h
    rfl
  · obtain ⟨a, b, c, rfl, q⟩ := t3_inv h
    walk_at "d"
    rcases q with h | ⟨rfl, q⟩
    · exact .inl h
    · refine .inr ⟨rfl, ?_⟩
      unfold goodD at *
      walk_at "d"
      rcases q with ⟨h, q⟩ | ⟨i, rfl, i0, q⟩
      · rw [h]
        exact q
      · rw [if_neg (by show ¬ (!decide (0 ≤ i)) = true; rw [decide_eq_true i0]; decide)]
        walk_at "d"
        by_cases h1 : 1 ≤ i
        · rw [if_pos (decide_eq_true h1)]
          by_cases h2 : i ≤ 12
          · rw [if_neg (by rw [decide_eq_true h2]; decide)]
            rcases q with ⟨h, q⟩ | ⟨_, _, h, q⟩
            · exact absurd ⟨h1, h2⟩ h
            · rw [h]
              exact q
          · rw [if_pos (by rw [decide_eq_false h2]; rfl)]
            rcases q with ⟨h, q⟩ | ⟨_, h, _⟩
            · exact q
            · exact absurd h h2
        · rw [if_neg (fun h => h1 (of_decide_eq_true h))]
          rcases q with ⟨h, q⟩ | ⟨h, _⟩
          · exact q
          · exact absurd h h1
end
end Lw
set_option Elab.async false
set_option linter.all false
set_option maxRecDepth 100000
set_option maxHeartbeats 1000000
set_option pp.deepTerms true
set_option pp.maxSteps 200000
namespace Lw
open PySem PySem.Spec PyProof PyProof.Rows L2 So Da Dl
local macro_rules | `(tactic| walk_at "z") => `(tactic| repeat (first | refine ⟨(by decide), ?_⟩ | refine ⟨(by omega), ?_⟩ | refine ⟨rfl, ?_⟩))
section
variable {Z : Zw}
def nextG : PyData := .list [.list [.int 0, .int 1], .list [.int 1]]
def aheadG : PyData := .list [.list [.int 0], .list [.int 0, .int 1]]
def kept2 : PyData := .list [.bool true, .bool true]
theorem sort01 {ns : List Int} (h : ns.Pairwise (· < ·)) (k : ∀ j, j ∈ ns ↔ j ∈ ([0, 1] : List Int)) : ns = [0, 1] := by
  match ns, h, k with
  | [], _, k => exact absurd ((k 0).mpr (by decide)) List.not_mem_nil
  | [a], _, k =>
    have h0 := List.mem_singleton.mp ((k 0).mpr (by decide))
    have h1 := List.mem_singleton.mp ((k 1).mpr (by decide))
    omega
  | [a, b], h, k =>
    have ab := List.rel_of_pairwise_cons h (List.mem_singleton.mpr rfl)
    have h0 := (k a).mp (by simp)
    have h1 := (k b).mp (by simp)
    simp only [List.mem_cons, List.not_mem_nil, or_false] at h0 h1
    have : a = 0 ∧ b = 1 := by omega
    rw [this.1, this.2]
  | a :: b :: c :: r, h, k =>
    have ab := List.rel_of_pairwise_cons h (List.mem_cons_self (a := b))
    have bc := List.rel_of_pairwise_cons (List.pairwise_cons.mp h).2 (List.mem_cons_self (a := c))
    have h0 := (k a).mp (by simp)
    have h1 := (k b).mp (by simp)
    have h2 := (k c).mp (by simp)
    simp only [List.mem_cons, List.not_mem_nil, or_false] at h0 h1 h2
    omega
theorem sort1 {ns : List Int} (h : ns.Pairwise (· < ·)) (k : ∀ j, j ∈ ns ↔ j ∈ ([1] : List Int)) : ns = [1] := by
  match ns, h, k with
  | [], _, k => exact absurd ((k 1).mpr (by decide)) List.not_mem_nil
  | [a], _, k => rw [List.mem_singleton.mp ((k a).mp (by simp))]
  | a :: b :: r, h, k =>
    have ab := List.rel_of_pairwise_cons h (List.mem_cons_self (a := b))
    have h0 := List.mem_singleton.mp ((k a).mp (by simp))
    have h1 := List.mem_singleton.mp ((k b).mp (by simp))
    omega
abbrev T_next_states : TD := T1 fun D Q _ => D = goodD ∧ Q nextG
abbrev s_next_states : Stmt := top 4
theorem sc_next_states : FnScope ["words", "row", "_", "behind"] ["words"] (defScope s_next_states) := ⟨rfl, rfl, rfl, by decide +kernel, rfl, by decide +kernel, by decide +kernel⟩
local macro_rules | `(tactic| walk_at "d") => `(tactic| simp only [↓dSeq, ↓dFor, ↓reprD, ↓dCallK, ↓dIfS, ↓dAndV, ↓dOrV, ↓dUn, ↓dOp, ↓dC, ↓dVar, ↓derefW, ↓deref, ↓known, ↓noOb, ↓nbO, ↓start0, ↓endsOf, ↓outA, ↓toB, ↓dAnd, ↓dOr, ↓dNot, ↓ofB, ↓dIf, ↓dChain, ↓dgName, ↓dgSeq, ↓dgCons, ↓dgNil, ↓dLc, ↓popW, ↓atOl, ↓isOl, ↓ownS, ↓frzD, ↓dCall, argsOf, argLc, obSlots, upS, upO, ↓noObs, ↓wipeD, List.map_cons, List.map_nil, List.length_cons, List.length_nil, Nat.sub_self, Nat.zero_add, Nat.reduceAdd, Nat.reduceSub, List.replicate, List.append_nil, List.cons_append, List.nil_append, List.getElem?_cons_zero, List.getElem?_cons_succ, List.getElem?_nil, List.set, List.head?, List.tail, Option.getD_some, Option.getD_none, List.nodup_nil, List.nodup_cons, List.not_mem_nil, List.mem_cons, List.mem_singleton, or_false, Nat.reduceEqDiff, true_and, and_true, Bool.not_true, Bool.not_false, if_true, Bool.false_eq_true, if_false, ite_true, ite_false, not_false_eq_true, reduceCtorEq, eqD_int, eqD_str, eqD_bl, eqD_tuple, eqD_list, eqD_tupleR, eqD_listR, eqD_non, neD_int, neD_str, neD_bl, neD_tuple, neD_list, neD_tupleR, neD_listR, neD_non, ↓isD, ↓notD, ix_0, ix_1, ix_2, ix_3, ix_4, ix_L0, ix_L1, ix_L2, itemsD_L, itemsD_T, tupleD_L, tupleD_T, listD_L, listD_T, lenD_L, lenD_T, lenD_S, slD_L, slD_T, addD_I, addD_S, addD_T, addD_L, subD_I, mulD_I, ltD_I, ltD_S, leD_I, gtD_I, geD_I, modD_I, fdivD_I, powD_I, intD_I, intD_B, negD_I, isND_N, isND_I, isND_S, isND_B, isND_T, isND_L, sq_T, sq_L, sq_N, sq_I, sq_S, sq_B, at_0, at_1, at_2, at_3, at_4, ↓isiD, pick, List.filterMap_cons_some, List.filterMap_nil, List.filterMap_cons, ↓ownC, ↓T1, ↓T2, ↓T3, ↓T4, ↓dHeard, ↓capsD, ↓slotsD, ↓lamW, lamSto, cpLc, ↓dHeardS, ↓dAsks, ↓asksW, ↓heardT, ↓Tbox, ↓Ttake, revD, sortSetD, dOl, isBD, ↓intW])
theorem ok_next_states {f : Addr} {fd : FuncData} (F : Fun Z.K "next_states" "next_states" s_next_states f fd) (T : Tz Z.K Z.mg) : FnD Z.Pg Z.w Z.K Z.mg Z.base CX0 1 f fd ["words"] (spT Z (T_next_states)) := by
  refine okD F sc_next_states (fun as Q er h => ?_) (fun cdv A outer s H E G0 ca hr hgd hca => (dss_one (ds_ret (de_of_df (df_lc (own := [("row", 1)]) rfl sc_next_states.nd (di_seq (de_ix (dr_var 0) (dr_of de_int))) (blkOk_by (own := [("row", 1)]) (N := ["words", "row", "_", "behind"]) (sc := defScope s_next_states) (by decide +kernel)) (fun _ _ _ _ _ => (dg_name (i := 1) sc_next_states.nd rfl (Or.inl rfl))) (fun _ _ _ _ _ => dts_nil) (fun _ _ _ _ _ => (de_of_df (df_sortSet rfl (by rfl) T.sorted (by rfl) T.set (de_of_df (df_lc (own := [("_", 2), ("behind", 3)]) rfl sc_next_states.nd (di_seq (de_var 1)) (blkOk_by (own := [("_", 2), ("behind", 3)]) (N := ["words", "row", "_", "behind"]) (sc := { kind := ScopeKind.function, names := [(".0", NameKind.local), ("row", NameKind.local), ("sorted", NameKind.globalImplicit), ("set", NameKind.globalImplicit)], isGenerator := false, isCoroutine := false }) (by decide +kernel)) (fun _ _ _ _ _ => (dg_seq (m := 2) rfl (dgs_cons (dg_name (i := 2) sc_next_states.nd rfl (Or.inl rfl)) (dgs_cons (dg_name (i := 3) sc_next_states.nd rfl (Or.inl rfl)) dgs_nil)))) (fun _ _ _ _ _ => dts_nil) (fun _ _ _ _ _ => (de_var 3)))))))))))) (fun ca as Q er h => ?_)
  · obtain ⟨_, rfl, _⟩ := t1_inv h
    rfl
  · obtain ⟨a, rfl, q⟩ := t1_inv h
    obtain ⟨rfl, q⟩ := q
    unfold goodD stG tpG at *
    walk_at "d"
    refine lcW_map (fun d => .list ((itD d).map fun x => (itD x).getD 1 .none)) (by decide) (fun d hd R hR => ?_) q
    have : (d = .tuple [.tuple [.int 0, .int 0], .tuple [.int 1, .int 1]] ∧ R (.list [.int 0, .int 1])) ∨ (d = .tuple [.tuple [.int 0, .int 1]] ∧ R (.list [.int 1])) := by
      simp only [List.mem_cons, List.not_mem_nil, or_false] at hd
      rcases hd with rfl | rfl
      · exact .inl ⟨rfl, hR⟩
      · exact .inr ⟨rfl, hR⟩
    rcases this with ⟨rfl, hR⟩ | ⟨rfl, hR⟩
    · walk_at "d"
      refine lcW_map (fun x => (itD x).getD 1 .none) (by decide) (fun x hx R2 hR2 => ?_) ?_
      · simp only [List.mem_cons, List.not_mem_nil, or_false] at hx
        rcases hx with rfl | rfl
        · walk_at "d"
          exact hR2
        · walk_at "d"
          exact hR2
      · refine ⟨[0, 1], rfl, by decide, fun ms up mem => ?_⟩
        rw [sort01 up mem]
        exact hR
    · walk_at "d"
      refine lcW_map (fun x => (itD x).getD 1 .none) (by decide) (fun x hx R2 hR2 => ?_) ?_
      · rw [List.mem_singleton.mp hx] at hR2 ⊢
        walk_at "d"
        exact hR2
      · refine ⟨[1], rfl, by decide, fun ms up mem => ?_⟩
        rw [sort1 up mem]
        exact hR
def LdW (N F : PyData) (p1 p2 : Addr) (L : List (Nat × List PyData × List PyData)) (m : Nat) (ρ : Sto) : Prop := ∃ (s4 s5 s6 : Lc) (told todo : List PyData), nbO (some s4) ∧ nbO (some s5) ∧ nbO (some s6) ∧ ρ = [.sh N, .sh F, .ob p1 (.lst told), .ob p2 (.lst todo), s4, s5, s6] ∧ (m, told, todo) ∈ L
theorem ldw {N F : PyData} {p1 p2 : Addr} {L : List (Nat × List PyData × List PyData)} {m : Nat} {s4 s5 s6 : Lc} {told todo : List PyData} (n4 : nbO (some s4)) (n5 : nbO (some s5)) (n6 : nbO (some s6)) (h : (m, told, todo) ∈ L) : LdW N F p1 p2 L m [.sh N, .sh F, .ob p1 (.lst told), .ob p2 (.lst todo), s4, s5, s6] := ⟨s4, s5, s6, told, todo, n4, n5, n6, rfl, h⟩
abbrev T_led_to : TD := T2 fun D F Q _ => (D = nextG ∧ F = .list [.int 0] ∧ Q kept2) ∨ (D = aheadG ∧ F = .list [.int 0, .int 1] ∧ Q kept2)
abbrev s_led_to : Stmt := top 6
theorem sc_led_to : FnScope ["nexts", "firsts", "told", "todo", "first", "state", "behind"] ["nexts", "firsts"] (defScope s_led_to) := ⟨rfl, rfl, rfl, by decide +kernel, rfl, by decide +kernel, by decide +kernel⟩
theorem ok_led_to {f : Addr} {fd : FuncData} (F : Fun Z.K "led_to" "led_to" s_led_to f fd) (T : Tz Z.K Z.mg) : FnD Z.Pg Z.w Z.K Z.mg Z.base CX0 1 f fd ["nexts", "firsts"] (spT Z (T_led_to)) := by
  refine okD F sc_led_to (fun as Q er h => ?_) (fun cdv A outer s H E G0 ca hr hgd hca => (dss_cons (ds_own (i := 2) sc_led_to.nd rfl (Or.inl rfl) (df_rep de_bl (de_callB call_lenA cd_len (by rfl) T.len (by decide +kernel) (dr_var 0))))
      (dss_cons (ds_own (i := 3) sc_led_to.nd rfl (Or.inl rfl) (df_list (by rfl) T.list (dr_var 1)))
      (dss_cons (ds_for PassesOwn.never rfl (di_seq (de_var 1)) (dg_name (i := 4) sc_led_to.nd rfl (Or.inl rfl))
        (dss_one (ds_put (ps_asg de_bl (pg_sub (pv 2) (de_var 4) set_list)))))
      (dss_cons (ds_while PassesOwn.never (dt_ol 3)
        (dss_cons (ds_setPop (ps_set (i := 5) sc_led_to.nd rfl (Or.inl rfl) (pe_bm0 PySem.F.plainAttrs_list PySem.F.slot_list_pop PySem.F.type_list_pop mt_pop (pv 3))))
        (dss_one (ds_for PassesOwn.never rfl (di_seq (de_ix (dr_var 0) (dr_var 5))) (dg_name (i := 6) sc_led_to.nd rfl (Or.inl rfl))
          (dss_one (ds_if (dt_not (dt_val (de_ix (dr_var 2) (dr_var 6))))
            (dss_cons (ds_put (ps_asg de_bl (pg_sub (pv 2) (de_var 6) set_list)))
            (dss_one (ds_app (ps_expr (pe_bm PySem.F.plainAttrs_list PySem.F.slot_list_append PySem.F.type_list_append mt_append (pv 3) (pa_cons (de_var 6) pa_nil))))))
            dss_nil))))))
      (dss_one (ds_frz 2 (by decide) (ds_ret (de_var 2))))))))) (fun ca as Q er h => ?_)
  · obtain ⟨_, _, rfl, _⟩ := t2_inv h
    rfl
  · obtain ⟨a, b, rfl, q⟩ := t2_inv h
    have bs : (1 : Nat) < sizeLine := by decide
    have b0 : (0 : Nat) < sizeLine := by decide
    have i0 : ixN 2 0 = some 0 := by decide
    have i1 : ixN 2 1 = some 1 := by decide
    rcases q with ⟨rfl, rfl, q⟩ | ⟨rfl, rfl, q⟩
    · unfold nextG kept2 at *
      walk_at "d"
      refine ⟨by decide, by decide, by decide, by decide, fun p1 => ⟨by decide, fun p2 => ?_⟩⟩
      simp only [forW]
      rw [show List.replicate (((2 : Nat) : Int)).toNat (PyData.bool false) = [.bool false, .bool false] from rfl]
      walk_at "d"
      rw [i0]
      refine ⟨LdW _ _ p1 p2 [(2, [.bool true, .bool false], [.int 0]), (1, [.bool true, .bool true], [.int 1]), (0, [.bool true, .bool true], [])], ⟨2, ldw (s4 := .sh (.int 0)) (s5 := .un) (s6 := .un) trivial trivial trivial (by simp)⟩, ?_⟩
      rintro m ρ ⟨s4, s5, s6, told, todo, n4, n5, n6, rfl, hm⟩
      simp only [List.mem_cons, List.not_mem_nil, or_false, Prod.mk.injEq] at hm
      rcases hm with ⟨rfl, rfl, rfl⟩ | ⟨rfl, rfl, rfl⟩ | ⟨rfl, rfl, rfl⟩
      · walk_at "d"
        simp only [List.isEmpty_cons, Bool.not_false, if_true, List.getLast?_singleton, List.dropLast_singleton]
        refine ⟨n5, ?_⟩
        walk_at "d"
        simp only [forW]
        refine ⟨n6, ?_⟩
        walk_at "d"
        rw [i1]
        exact ⟨b0, 1, by decide, ldw n4 trivial trivial (by simp)⟩
      · walk_at "d"
        simp only [List.isEmpty_cons, Bool.not_false, if_true, List.getLast?_singleton, List.dropLast_singleton]
        refine ⟨n5, ?_⟩
        walk_at "d"
        simp only [forW]
        refine ⟨n6, ?_⟩
        walk_at "d"
        exact ⟨0, by decide, ldw n4 trivial trivial (by simp)⟩
      · walk_at "d"
        simp only [List.isEmpty_nil, Bool.not_true, Bool.false_eq_true, if_false]
        exact q
    · unfold aheadG kept2 at *
      walk_at "d"
      refine ⟨by decide, by decide, by decide, by decide, fun p1 => ⟨by decide, fun p2 => ?_⟩⟩
      simp only [forW]
      rw [show List.replicate (((2 : Nat) : Int)).toNat (PyData.bool false) = [.bool false, .bool false] from rfl]
      walk_at "d"
      rw [i0]
      walk_at "d"
      rw [i1]
      refine ⟨LdW _ _ p1 p2 [(2, [.bool true, .bool true], [.int 0, .int 1]), (1, [.bool true, .bool true], [.int 0]), (0, [.bool true, .bool true], [])], ⟨2, ldw (s4 := .sh (.int 1)) (s5 := .un) (s6 := .un) trivial trivial trivial (by simp)⟩, ?_⟩
      rintro m ρ ⟨s4, s5, s6, told, todo, n4, n5, n6, rfl, hm⟩
      simp only [List.mem_cons, List.not_mem_nil, or_false, Prod.mk.injEq] at hm
      rcases hm with ⟨rfl, rfl, rfl⟩ | ⟨rfl, rfl, rfl⟩ | ⟨rfl, rfl, rfl⟩
      · walk_at "d"
        simp only [List.isEmpty_cons, Bool.not_false, if_true, List.getLast?_cons_cons, List.getLast?_singleton, List.dropLast_cons_cons, List.dropLast_singleton]
        refine ⟨n5, ?_⟩
        walk_at "d"
        simp only [forW]
        refine ⟨n6, ?_⟩
        walk_at "d"
        exact ⟨1, by decide, ldw n4 trivial trivial (by simp)⟩
      · walk_at "d"
        simp only [List.isEmpty_cons, Bool.not_false, if_true, List.getLast?_singleton, List.dropLast_singleton]
        refine ⟨n5, ?_⟩
        walk_at "d"
        simp only [forW]
        refine ⟨n6, ?_⟩
        walk_at "d"
        exact ⟨0, by decide, ldw n4 trivial trivial (by simp)⟩
      · walk_at "d"
        simp only [List.isEmpty_nil, Bool.not_true, Bool.false_eq_true, if_false]
        exact q
end
end Lw
set_option Elab.async false
set_option linter.all false
set_option maxRecDepth 100000
set_option maxHeartbeats 1000000
set_option pp.deepTerms true
set_option pp.maxSteps 200000
namespace Lw
open PySem PySem.Spec PyProof PyProof.Rows L2 So Da Dl
local macro_rules | `(tactic| walk_at "z") => `(tactic| repeat (first | refine ⟨(by decide), ?_⟩ | refine ⟨(by omega), ?_⟩ | refine ⟨rfl, ?_⟩))
section
variable {Z : Zw}
theorem ix0 : ixN 2 0 = some 0 := by decide
theorem ix1 : ixN 2 1 = some 1 := by decide
theorem rep2 {d : PyData} : List.replicate (((2 : Nat) : Int)).toNat d = [d, d] := rfl
theorem en2 {a b : PyData} : enumD [a, b] = [.tuple [.int 0, a], .tuple [.int 1, b]] := rfl
local macro_rules | `(tactic| walk_at "d") => `(tactic| simp only [↓dSeq, ↓dFor, ↓reprD, ↓dCallK, ↓dIfS, ↓dAndV, ↓dOrV, ↓dUn, ↓dOp, ↓dC, ↓dVar, ↓derefW, ↓deref, ↓known, ↓noOb, ↓nbO, ↓start0, ↓endsOf, ↓outA, ↓toB, ↓dAnd, ↓dOr, ↓dNot, ↓ofB, ↓dIf, ↓dChain, ↓dgName, ↓dgSeq, ↓dgCons, ↓dgNil, ↓dLc, ↓popW, ↓atOl, ↓isOl, ↓ownS, ↓frzD, ↓dCall, argsOf, argLc, obSlots, upS, upO, ↓noObs, ↓wipeD, List.map_cons, List.map_nil, List.length_cons, List.length_nil, Nat.sub_self, Nat.zero_add, Nat.reduceAdd, Nat.reduceSub, List.replicate, List.append_nil, List.cons_append, List.nil_append, List.getElem?_cons_zero, List.getElem?_cons_succ, List.getElem?_nil, List.set, List.head?, List.tail, Option.getD_some, Option.getD_none, List.nodup_nil, List.nodup_cons, List.not_mem_nil, List.mem_cons, List.mem_singleton, or_false, Nat.reduceEqDiff, true_and, and_true, Bool.not_true, Bool.not_false, if_true, Bool.false_eq_true, if_false, ite_true, ite_false, not_false_eq_true, reduceCtorEq, eqD_int, eqD_str, eqD_bl, eqD_tuple, eqD_list, eqD_tupleR, eqD_listR, eqD_non, neD_int, neD_str, neD_bl, neD_tuple, neD_list, neD_tupleR, neD_listR, neD_non, ↓isD, ↓notD, ix_0, ix_1, ix_2, ix_3, ix_4, ix_L0, ix_L1, ix_L2, itemsD_L, itemsD_T, tupleD_L, tupleD_T, listD_L, listD_T, lenD_L, lenD_T, lenD_S, slD_L, slD_T, addD_I, addD_S, addD_T, addD_L, subD_I, mulD_I, ltD_I, ltD_S, leD_I, gtD_I, geD_I, modD_I, fdivD_I, powD_I, intD_I, intD_B, negD_I, isND_N, isND_I, isND_S, isND_B, isND_T, isND_L, sq_T, sq_L, sq_N, sq_I, sq_S, sq_B, at_0, at_1, at_2, at_3, at_4, ↓isiD, pick, List.filterMap_cons_some, List.filterMap_nil, List.filterMap_cons, ↓ownC, ↓T1, ↓T2, ↓T3, ↓T4, ↓dHeard, ↓capsD, ↓slotsD, ↓lamW, lamSto, cpLc, ↓dHeardS, ↓dAsks, ↓asksW, ↓heardT, ↓Tbox, ↓Ttake, revD, sortSetD, dOl, isBD, ↓intW, goodD, stG, tpG, nextG, aheadG, kept2])
local macro_rules | `(tactic| walk_at "c") => `(tactic| repeat (first | walk_at "d" | simp only [forW, lcW, en2, rep2, ix0, ix1, List.set_cons_zero, List.set_cons_succ, List.getLast?_singleton, List.dropLast_singleton, List.isEmpty_cons, List.isEmpty_nil, List.reverse_cons, List.reverse_nil, List.singleton_append]))
abbrev T_turned_round : TD := T1 fun D Q _ => D = nextG ∧ Q aheadG
abbrev T_finished : TD := T2 fun D K Q _ => D = nextG ∧ K = kept2 ∧ Q (.list [.int 1, .int 0])
abbrev T_are_useful : TD := T1 fun D Q _ => D = goodD ∧ Q kept2
abbrev s_are_useful : Stmt := top 7
theorem sc_are_useful : FnScope ["words", "_", "start", "tops", "nexts", "behind_start", "ahead_of_tops", "one", "other", "state", "row"] ["words"] (defScope s_are_useful) := ⟨rfl, rfl, rfl, by decide +kernel, rfl, by decide +kernel, by decide +kernel⟩
theorem ok_are_useful {f : Addr} {fd : FuncData} (F : Fun Z.K "are_useful" "are_useful" s_are_useful f fd) (T : Tz Z.K Z.mg)
    {f_next_states : Addr} {fd_next_states : FuncData} (D_next_states : Df Z.K Z.mg "next_states" s_next_states ["words"] f_next_states fd_next_states) (G_next_states : FnD Z.Pg Z.w Z.K Z.mg Z.base CX0 1 f_next_states fd_next_states ["words"] (spT Z (T_next_states)))
    {f_led_to : Addr} {fd_led_to : FuncData} (D_led_to : Df Z.K Z.mg "led_to" s_led_to ["nexts", "firsts"] f_led_to fd_led_to) (G_led_to : FnD Z.Pg Z.w Z.K Z.mg Z.base CX0 1 f_led_to fd_led_to ["nexts", "firsts"] (spT Z (T_led_to)))
    {f_turned_round : Addr} {fd_turned_round : FuncData} (D_turned_round : Df Z.K Z.mg "_turned_round" s_turned_round ["nexts"] f_turned_round fd_turned_round) (G_turned_round : FnD Z.Pg Z.w Z.K Z.mg Z.base CX0 1 f_turned_round fd_turned_round ["nexts"] (spT Z (T_turned_round))) : FnD Z.Pg Z.w Z.K Z.mg Z.base CX0 2 f fd ["words"] (spT Z (T_are_useful)) := by
  refine okD F sc_are_useful (fun as Q er h => ?_) (fun cdv A outer s H E G0 ca hr hgd hca => (dss_cons (ds_asg (de_var 0) (dg_seq (m := 4) rfl (dgs_cons (dg_name (i := 1) sc_are_useful.nd rfl (Or.inl rfl)) (dgs_cons (dg_name (i := 2) sc_are_useful.nd rfl (Or.inl rfl)) (dgs_cons (dg_name (i := 1) sc_are_useful.nd rfl (Or.inl rfl)) (dgs_cons (dg_name (i := 3) sc_are_useful.nd rfl (Or.inl rfl)) dgs_nil))))))
      (dss_cons (ds_set (i := 4) sc_are_useful.nd rfl (Or.inl rfl) (de_call G_next_states hr hgd (by rfl) D_next_states.g D_next_states.F.kp D_next_states.b (drs_cons (dr_var 0) drs_nil)))
      (dss_cons (ds_set (i := 5) sc_are_useful.nd rfl (Or.inl rfl) (de_call G_led_to hr hgd (by rfl) D_led_to.g D_led_to.F.kp D_led_to.b (drs_cons (dr_var 4) (drs_cons (dr_of (de_of_df (df_lst (da_cons (de_var 2) da_nil)))) drs_nil))))
      (dss_cons (ds_set (i := 6) sc_are_useful.nd rfl (Or.inl rfl) (de_call G_led_to hr hgd (by rfl) D_led_to.g D_led_to.F.kp D_led_to.b (drs_cons (dr_of (de_call G_turned_round hr hgd (by rfl) D_turned_round.g D_turned_round.F.kp D_turned_round.b (drs_cons (dr_var 4) drs_nil))) (drs_cons (dr_of (de_of_df (df_lc (own := [("state", 9), ("row", 10)]) rfl sc_are_useful.nd (di_enum (by rfl) T.enumerate (de_var 3)) (blkOk_by (own := [("state", 9), ("row", 10)]) (N := ["words", "_", "start", "tops", "nexts", "behind_start", "ahead_of_tops", "one", "other", "state", "row"]) (sc := defScope s_are_useful) (by decide +kernel)) (fun _ _ _ _ _ => (dg_seq (m := 2) rfl (dgs_cons (dg_name (i := 9) sc_are_useful.nd rfl (Or.inl rfl)) (dgs_cons (dg_name (i := 10) sc_are_useful.nd rfl (Or.inl rfl)) dgs_nil)))) (fun _ _ _ _ _ => (dts_one (dt_cmp op_gt od_gt (dr_of (de_callB call_lenA cd_len (by rfl) T.len (by decide +kernel) (dr_var 10))) (dr_of de_int) (nomark _)))) (fun _ _ _ _ _ => (de_var 9))))) drs_nil))))
      (dss_one (ds_ret (de_of_df (df_lc (own := [("one", 7), ("other", 8)]) rfl sc_are_useful.nd (di_zip (by rfl) T.zip (de_var 5) (de_var 6)) (blkOk_by (own := [("one", 7), ("other", 8)]) (N := ["words", "_", "start", "tops", "nexts", "behind_start", "ahead_of_tops", "one", "other", "state", "row"]) (sc := defScope s_are_useful) (by decide +kernel)) (fun _ _ _ _ _ => (dg_seq (m := 2) rfl (dgs_cons (dg_name (i := 7) sc_are_useful.nd rfl (Or.inl rfl)) (dgs_cons (dg_name (i := 8) sc_are_useful.nd rfl (Or.inl rfl)) dgs_nil)))) (fun _ _ _ _ _ => dts_nil) (fun _ _ _ _ _ => (de_and (de_var 7) (de_one (de_var 8))))))))))))) (fun ca as Q er h => ?_)
  · obtain ⟨_, rfl, _⟩ := t1_inv h
    rfl
  · obtain ⟨a, rfl, q⟩ := t1_inv h
    obtain ⟨rfl, q⟩ := q
    walk_at "d"
    refine ⟨by decide, .inl ?_⟩
    walk_at "c"
    rw [if_pos (by decide)]
    refine ⟨by decide, ?_⟩
    rw [if_pos (by decide)]
    refine ⟨by decide, .inr ⟨rfl, ?_⟩⟩
    show lcW _ _ _ _ _ [.tuple [.bool true, .bool true], .tuple [.bool true, .bool true]] [] _
    walk_at "c"
    exact ⟨by decide, by decide, q⟩
def lotsG : PyData := .list [.tuple [.int 0], .tuple [.int 1]]
def LoW (s0 s1 s2 s3 s4 s5 s6 : Lc) (p : Addr) (L : List (Nat × List PyData)) (m : Nat) (ρ : Sto) : Prop := ∃ (s8 s9 : Lc) (todo : List PyData), nbO (some s8) ∧ nbO (some s9) ∧ ρ = [s0, s1, s2, s3, s4, s5, s6, .ob p (.lst todo), s8, s9, .un, .un] ∧ (m, todo) ∈ L
theorem low {s0 s1 s2 s3 s4 s5 s6 s8 s9 : Lc} {p : Addr} {L : List (Nat × List PyData)} {m : Nat} {todo : List PyData} (n8 : nbO (some s8)) (n9 : nbO (some s9)) (h : (m, todo) ∈ L) : LoW s0 s1 s2 s3 s4 s5 s6 p L m [s0, s1, s2, s3, s4, s5, s6, .ob p (.lst todo), s8, s9, .un, .un] := ⟨s8, s9, todo, n8, n9, rfl, h⟩
abbrev T_lots_of : TD := T2 fun D K Q _ => D = nextG ∧ K = kept2 ∧ Q lotsG
abbrev s_lots_of : Stmt := top 9
theorem sc_lots_of : FnScope ["nexts", "kept", "ahead", "taken", "lots", "first", "lot", "todo", "last", "news", "state", "one"] ["nexts", "kept"] (defScope s_lots_of) := ⟨rfl, rfl, rfl, by decide +kernel, rfl, by decide +kernel, by decide +kernel⟩
local macro_rules | `(tactic| walk_at "d") => `(tactic| simp only [↓dSeq, ↓dFor, ↓reprD, ↓dCallK, ↓dIfS, ↓dAndV, ↓dOrV, ↓dUn, ↓dOp, ↓dC, ↓dVar, ↓derefW, ↓deref, ↓known, ↓noOb, ↓nbO, ↓start0, ↓endsOf, ↓outA, ↓toB, ↓dAnd, ↓dOr, ↓dNot, ↓ofB, ↓dIf, ↓dChain, ↓dgName, ↓dgSeq, ↓dgCons, ↓dgNil, ↓dLc, ↓popW, ↓atOl, ↓isOl, ↓ownS, ↓frzD, ↓dCall, argsOf, argLc, obSlots, upS, upO, ↓noObs, ↓wipeD, List.map_cons, List.map_nil, List.length_cons, List.length_nil, Nat.sub_self, Nat.zero_add, Nat.reduceAdd, Nat.reduceSub, List.replicate, List.append_nil, List.cons_append, List.nil_append, List.getElem?_cons_zero, List.getElem?_cons_succ, List.getElem?_nil, List.set, List.head?, List.tail, Option.getD_some, Option.getD_none, List.nodup_nil, List.nodup_cons, List.not_mem_nil, List.mem_cons, List.mem_singleton, or_false, Nat.reduceEqDiff, true_and, and_true, Bool.not_true, Bool.not_false, if_true, Bool.false_eq_true, if_false, ite_true, ite_false, not_false_eq_true, reduceCtorEq, eqD_int, eqD_str, eqD_bl, eqD_tuple, eqD_list, eqD_tupleR, eqD_listR, eqD_non, neD_int, neD_str, neD_bl, neD_tuple, neD_list, neD_tupleR, neD_listR, neD_non, ↓isD, ↓notD, ix_0, ix_1, ix_2, ix_3, ix_4, ix_L0, ix_L1, ix_L2, itemsD_L, itemsD_T, tupleD_L, tupleD_T, listD_L, listD_T, lenD_L, lenD_T, lenD_S, slD_L, slD_T, addD_I, addD_S, addD_T, addD_L, subD_I, mulD_I, ltD_I, ltD_S, leD_I, gtD_I, geD_I, modD_I, fdivD_I, powD_I, intD_I, intD_B, negD_I, isND_N, isND_I, isND_S, isND_B, isND_T, isND_L, sq_T, sq_L, sq_N, sq_I, sq_S, sq_B, at_0, at_1, at_2, at_3, at_4, ↓isiD, pick, List.filterMap_cons_some, List.filterMap_nil, List.filterMap_cons, ↓ownC, ↓T1, ↓T2, ↓T3, ↓T4, ↓dHeard, ↓capsD, ↓slotsD, ↓lamW, lamSto, cpLc, ↓dHeardS, ↓dAsks, ↓asksW, ↓heardT, ↓Tbox, ↓Ttake, revD, sortSetD, dOl, isBD, ↓intW, goodD, stG, tpG, nextG, aheadG, kept2, lotsG])
theorem ok_lots_of {f : Addr} {fd : FuncData} (F : Fun Z.K "lots_of" "lots_of" s_lots_of f fd) (T : Tz Z.K Z.mg)
    {f_turned_round : Addr} {fd_turned_round : FuncData} (D_turned_round : Df Z.K Z.mg "_turned_round" s_turned_round ["nexts"] f_turned_round fd_turned_round) (G_turned_round : FnD Z.Pg Z.w Z.K Z.mg Z.base CX0 1 f_turned_round fd_turned_round ["nexts"] (spT Z (T_turned_round)))
    {f_finished : Addr} {fd_finished : FuncData} (D_finished : Df Z.K Z.mg "_finished" s_finished ["nexts", "kept"] f_finished fd_finished) (G_finished : FnD Z.Pg Z.w Z.K Z.mg Z.base CX0 1 f_finished fd_finished ["nexts", "kept"] (spT Z (T_finished))) : FnD Z.Pg Z.w Z.K Z.mg Z.base CX0 2 f fd ["nexts", "kept"] (spT Z (T_lots_of)) := by
  refine okD F sc_lots_of (fun as Q er h => ?_) (fun cdv A outer s H E G0 ca hr hgd hca => (dss_cons (ds_set (i := 2) sc_lots_of.nd rfl (Or.inl rfl) (de_call G_turned_round hr hgd (by rfl) D_turned_round.g D_turned_round.F.kp D_turned_round.b (drs_cons (dr_var 0) drs_nil)))
      (dss_cons (ds_own (i := 3) sc_lots_of.nd rfl (Or.inr rfl) (df_lc (own := [("one", 11)]) rfl sc_lots_of.nd (di_seq (de_var 1)) (blkOk_by (own := [("one", 11)]) (N := ["nexts", "kept", "ahead", "taken", "lots", "first", "lot", "todo", "last", "news", "state", "one"]) (sc := defScope s_lots_of) (by decide +kernel)) (fun _ _ _ _ _ => (dg_name (i := 11) sc_lots_of.nd rfl (Or.inl rfl))) (fun _ _ _ _ _ => dts_nil) (fun _ _ _ _ _ => (de_not (de_var 11)))))
      (dss_cons (ds_own (i := 4) sc_lots_of.nd rfl (Or.inl rfl) (df_lst da_nil))
      (dss_cons (ds_for PassesOwn.never rfl (di_rev (by rfl) T.reversed (de_call G_finished hr hgd (by rfl) D_finished.g D_finished.F.kp D_finished.b (drs_cons (dr_var 0) (drs_cons (dr_var 1) drs_nil)))) (dg_name (i := 5) sc_lots_of.nd rfl (Or.inl rfl))
        (dss_cons (ds_if (dt_val (de_ix (dr_var 3) (dr_var 5)))
          (dss_one ds_continue)
          dss_nil)
        (dss_cons (ds_put (ps_asg de_bl (pg_sub (pv 3) (de_var 5) set_list)))
        (dss_cons (ds_drop 6 (by decide) (ds_own (i := 6) sc_lots_of.nd rfl (Or.inl rfl) (df_lst (da_cons (de_var 5) da_nil))))
        (dss_cons (ds_drop 7 (by decide) (ds_own (i := 7) sc_lots_of.nd rfl (Or.inl rfl) (df_lst (da_cons (de_var 5) da_nil))))
        (dss_cons (ds_while PassesOwn.never (dt_ol 7)
          (dss_cons (ds_setPop (ps_set (i := 8) sc_lots_of.nd rfl (Or.inl rfl) (pe_bm0 PySem.F.plainAttrs_list PySem.F.slot_list_pop PySem.F.type_list_pop mt_pop (pv 7))))
          (dss_cons (ds_setLc (i := 9) (own := [("state", 10)]) rfl sc_lots_of.nd rfl rfl (sw_true rfl rfl rfl (by decide +kernel)) (di_seq (de_ix (dr_var 2) (dr_var 8))) (blkOk_by (own := [("state", 10)]) (N := ["nexts", "kept", "ahead", "taken", "lots", "first", "lot", "todo", "last", "news", "state", "one"]) (sc := defScope s_lots_of) (by decide +kernel)) (fun _ _ _ _ _ => (dg_name (i := 10) sc_lots_of.nd rfl (Or.inl rfl))) (fun _ _ _ _ _ => (dts_one (dt_not (dt_val (de_ix (dr_var 3) (dr_var 10)))))) (fun _ _ _ _ _ => (de_var 10)))
          (dss_cons (ds_for PassesOwn.never rfl (di_seq (de_var 9)) (dg_name (i := 10) sc_lots_of.nd rfl (Or.inl rfl))
            (dss_one (ds_put (ps_asg de_bl (pg_sub (pv 3) (de_var 10) set_list)))))
          (dss_cons (ds_extL (ps_expr (pe_bm PySem.F.plainAttrs_list PySem.F.slot_list_extend PySem.F.type_list_extend mt_extL (pv 6) (pa_cons (de_var 9) pa_nil))))
          (dss_one (ds_extL (ps_expr (pe_bm PySem.F.plainAttrs_list PySem.F.slot_list_extend PySem.F.type_list_extend mt_extL (pv 7) (pa_cons (de_var 9) pa_nil))))))))))
        (dss_one (ds_frz 6 (by decide) (ds_app (ps_expr (pe_bm PySem.F.plainAttrs_list PySem.F.slot_list_append PySem.F.type_list_append mt_append (pv 4) (pa_cons (de_callTy call_tupleF cd_tuple (by rfl) T.tuple (by decide +kernel) (dr_of (de_of_df (df_sorted (by rfl) T.sorted (dr_var 6))))) pa_nil))))))))))))
      (dss_one (ds_frz 4 (by decide) (ds_ret (de_var 4))))))))) (fun ca as Q er h => ?_)
  · obtain ⟨_, _, rfl, _⟩ := t2_inv h
    rfl
  · obtain ⟨a, b, rfl, q⟩ := t2_inv h
    obtain ⟨rfl, rfl, q⟩ := q
    walk_at "d"
    walk_at "c"
    refine ⟨by decide, by decide, by decide, fun p1 => ⟨by decide, by decide, fun p2 => ⟨by decide, by decide, fun p3 => ⟨by decide, by decide, fun p4 => ?_⟩⟩⟩⟩
    refine ⟨LoW _ _ _ _ _ _ _ p4 [(1, [.int 0]), (0, [])], ⟨1, low (s8 := .un) (s9 := .un) trivial trivial (by simp)⟩, ?_⟩
    rintro m ρ ⟨s8, s9, todo, n8, n9, rfl, hm⟩
    simp only [List.mem_cons, List.not_mem_nil, or_false, Prod.mk.injEq] at hm
    rcases hm with ⟨rfl, rfl⟩ | ⟨rfl, rfl⟩
    · walk_at "c"
      exact ⟨n8, n9, [], rfl, by decide, [], rfl, by decide, 0, by decide, low (s8 := .sh (.int 0)) (s9 := .sh (.list [])) trivial trivial (by simp)⟩
    · walk_at "c"
      refine ⟨[0], rfl, by decide, fun ms pm _ => ?_⟩
      rw [List.perm_singleton.mp pm]
      refine ⟨by decide, by decide, by decide, fun p5 => ⟨by decide, by decide, fun p6 => ?_⟩⟩
      refine ⟨LoW _ _ _ _ _ _ _ p6 [(1, [.int 1]), (0, [])], ⟨1, low n8 n9 (by simp)⟩, ?_⟩
      rintro m ρ ⟨s8, s9, todo, n8, n9, rfl, hm⟩
      simp only [List.mem_cons, List.not_mem_nil, or_false, Prod.mk.injEq] at hm
      rcases hm with ⟨rfl, rfl⟩ | ⟨rfl, rfl⟩
      · walk_at "c"
        exact ⟨n8, n9, [], rfl, by decide, [], rfl, by decide, 0, by decide, low (s8 := .sh (.int 1)) (s9 := .sh (.list [])) trivial trivial (by simp)⟩
      · walk_at "c"
        refine ⟨[1], rfl, by decide, fun ms pm _ => ?_⟩
        rw [List.perm_singleton.mp pm]
        exact ⟨by decide, q⟩
abbrev T_lot_numbers : TD := T2 fun D K Q _ => D = nextG ∧ K = kept2 ∧ Q (.list [.int 0, .int 1])
abbrev s_lot_numbers : Stmt := top 11
theorem sc_lot_numbers : FnScope ["nexts", "kept", "told", "number", "lot", "state"] ["nexts", "kept"] (defScope s_lot_numbers) := ⟨rfl, rfl, rfl, by decide +kernel, rfl, by decide +kernel, by decide +kernel⟩
theorem ok_lot_numbers {f : Addr} {fd : FuncData} (F : Fun Z.K "lot_numbers" "lot_numbers" s_lot_numbers f fd) (T : Tz Z.K Z.mg)
    {f_lots_of : Addr} {fd_lots_of : FuncData} (D_lots_of : Df Z.K Z.mg "lots_of" s_lots_of ["nexts", "kept"] f_lots_of fd_lots_of) (G_lots_of : FnD Z.Pg Z.w Z.K Z.mg Z.base CX0 2 f_lots_of fd_lots_of ["nexts", "kept"] (spT Z (T_lots_of))) : FnD Z.Pg Z.w Z.K Z.mg Z.base CX0 3 f fd ["nexts", "kept"] (spT Z (T_lot_numbers)) := by
  refine okD F sc_lot_numbers (fun as Q er h => ?_) (fun cdv A outer s H E G0 ca hr hgd hca => (dss_cons (ds_own (i := 2) sc_lot_numbers.nd rfl (Or.inl rfl) (df_rep de_non (de_callB call_lenA cd_len (by rfl) T.len (by decide +kernel) (dr_var 0))))
      (dss_cons (ds_for PassesOwn.never rfl (di_enum (by rfl) T.enumerate (de_call G_lots_of hr hgd (by rfl) D_lots_of.g D_lots_of.F.kp D_lots_of.b (drs_cons (dr_var 0) (drs_cons (dr_var 1) drs_nil)))) (dg_seq (m := 2) rfl (dgs_cons (dg_name (i := 3) sc_lot_numbers.nd rfl (Or.inl rfl)) (dgs_cons (dg_name (i := 4) sc_lot_numbers.nd rfl (Or.inl rfl)) dgs_nil)))
        (dss_one (ds_for PassesOwn.never rfl (di_seq (de_var 4)) (dg_name (i := 5) sc_lot_numbers.nd rfl (Or.inl rfl))
          (dss_one (ds_put (ps_asg (de_var 3) (pg_sub (pv 2) (de_var 5) set_list)))))))
      (dss_one (ds_frz 2 (by decide) (ds_ret (de_var 2))))))) (fun ca as Q er h => ?_)
  · obtain ⟨_, _, rfl, _⟩ := t2_inv h
    rfl
  · obtain ⟨a, b, rfl, q⟩ := t2_inv h
    obtain ⟨rfl, rfl, q⟩ := q
    walk_at "d"
    refine ⟨by decide, by decide, by decide, by decide, fun p1 => ?_⟩
    walk_at "c"
    exact q
end
end Lw
set_option Elab.async false
set_option linter.all false
set_option maxRecDepth 100000
set_option maxHeartbeats 1000000
set_option pp.deepTerms true
set_option pp.maxSteps 200000
namespace Lw
open PySem PySem.Spec PyProof PyProof.Rows L2 So Da Dl
local macro_rules | `(tactic| walk_at "z") => `(tactic| repeat (first | refine ⟨(by decide), ?_⟩ | refine ⟨(by omega), ?_⟩ | refine ⟨rfl, ?_⟩))
section
variable {Z : Zw}
abbrev s_turned_round : Stmt := top 5
theorem sc_turned_round : FnScope ["nexts", "ahead", "state", "row", "behind", "_"] ["nexts"] (defScope s_turned_round) := ⟨rfl, rfl, rfl, by decide +kernel, rfl, by decide +kernel, by decide +kernel⟩
/-- the lists at W, a0, a1, as they are filled -/
structure Tr (Z : Zw) (G : Hp) (σ : L2.St) (H : Hp) (W a0 a1 : Addr) (cv : Addr → List V) (x0 x1 : List Int) : Prop where
  R : Rep Z (lsF [W, a0, a1] cv) G [.sh nextG, .un, .un, .un, .un, .un] σ H
  n1 : W ≠ a0
  n2 : W ≠ a1
  n3 : a0 ≠ a1
  e1 : σ[1]? = some (some (.ref W))
  hW : cv W = [.ref a0, .ref a1]
  h0 : cv a0 = x0.map .int
  h1 : cv a1 = x1.map .int
section
variable {G H : Hp} {σ : L2.St} {W a0 a1 p : Addr} {cv : Addr → List V} {x0 x1 : List Int}
theorem Tr.wl (I : Tr Z G σ H W a0 a1 cv x0 x1) : H W = some (.lst [.ref a0, .ref a1]) := by
  rw [← I.hW]
  exact I.R.at_ls List.mem_cons_self
theorem Tr.l0 (I : Tr Z G σ H W a0 a1 cv x0 x1) : H a0 = some (.lst (x0.map .int)) := by
  rw [← I.h0]
  exact I.R.at_ls (List.mem_cons_of_mem _ List.mem_cons_self)
theorem Tr.l1 (I : Tr Z G σ H W a0 a1 cv x0 x1) : H a1 = some (.lst (x1.map .int)) := by
  rw [← I.h1]
  exact I.R.at_ls (List.mem_cons_of_mem _ (List.mem_cons_of_mem _ List.mem_cons_self))
theorem Tr.put0 {s : Int} (I : Tr Z G σ H W a0 a1 cv x0 x1) : Tr Z G σ (upd H a0 (.lst (x0.map V.int ++ [.int s]))) W a0 a1 (setF cv a0 (x0.map V.int ++ [.int s])) (x0 ++ [s]) x1 :=
  ⟨I.R.mutF (List.mem_cons_of_mem _ List.mem_cons_self), I.n1, I.n2, I.n3, I.e1, by rw [setF_ne I.n1]; exact I.hW, by rw [setF_same, List.map_append]; rfl, by rw [setF_ne (Ne.symm I.n3)]; exact I.h1⟩
theorem Tr.put1 {s : Int} (I : Tr Z G σ H W a0 a1 cv x0 x1) : Tr Z G σ (upd H a1 (.lst (x1.map V.int ++ [.int s]))) W a0 a1 (setF cv a1 (x1.map V.int ++ [.int s])) x0 (x1 ++ [s]) :=
  ⟨I.R.mutF (List.mem_cons_of_mem _ (List.mem_cons_of_mem _ List.mem_cons_self)), I.n1, I.n2, I.n3, I.e1, by rw [setF_ne I.n2]; exact I.hW, by rw [setF_ne I.n3]; exact I.h0, by rw [setF_same, List.map_append]; rfl⟩
theorem Tr.slot {i : Nat} (I : Tr Z G σ H W a0 a1 cv x0 x1) (hi : i = 2 ∨ i = 3 ∨ i = 4) (v : Option V) : Tr Z G (σ.set i v) H W a0 a1 cv x0 x1 := by
  have e : (σ.set i v)[1]? = σ[1]? := List.getElem?_set_ne (by omega)
  refine ⟨?_, I.n1, I.n2, I.n3, e.trans I.e1, I.hW, I.h0, I.h1⟩
  have := I.R.forget (i := i) (fun a c z => by rcases hi with rfl | rfl | rfl <;> cases z) v
  rcases hi with rfl | rfl | rfl <;> exact this
theorem Tr.junk {o : HO} (I : Tr Z G σ H W a0 a1 cv x0 x1) (h : H p = none) : Tr Z G σ (upd H p o) W a0 a1 cv x0 x1 := ⟨I.R.junk h, I.n1, I.n2, I.n3, I.e1, I.hW, I.h0, I.h1⟩
end
/-- while the lists are made -/
structure Mk (Z : Zw) (G : Hp) (σ : L2.St) (W : Addr) (i : Nat) (H : Hp) (as : List Addr) (cv : Addr → List V) : Prop where
  R : Rep Z (lsF (W :: as) cv) G [.sh nextG, .un, .un, .un, .un, .un] σ H
  nd : (W :: as).Nodup
  len : as.length = i
  hW : cv W = as.map .ref
  ha : ∀ a ∈ as, cv a = []
theorem ok_turned_round {f : Addr} {fd : FuncData} (F : Fun Z.K "_turned_round" "_turned_round" s_turned_round f fd) (T : Tz Z.K Z.mg) : FnD Z.Pg Z.w Z.K Z.mg Z.base CX0 1 f fd ["nexts"] (spT Z (T_turned_round)) := by
  refine FnD.ok F sc_turned_round (spT_len fun as Q er h => ?_) (fun cdv A outer s H vs Q E hr hgd ⟨G, as, Q0, er, tb, R, hT, hQ, _⟩ => ?_)
  · obtain ⟨_, rfl, _⟩ := t1_inv h
    rfl
  · obtain ⟨_, rfl, rfl, q⟩ := t1_inv hT
    obtain ⟨v, rfl⟩ := one_arg R
    refine ⟨_, pss_cons (ps_setLc (i := 1) (own := [("_", 5)]) (g := gName 5) (tt := tYes) rfl sc_turned_round.nd rfl rfl (sw_true rfl rfl rfl (by decide +kernel)) (pi_list (pv 0)) (blkOk_by (N := ["nexts", "ahead", "state", "row", "behind", "_"]) (sc := defScope s_turned_round) (by decide +kernel)) (fun _ _ _ _ _ => pg_name (i := 5) sc_turned_round.nd rfl (Or.inl rfl)) (fun _ _ _ _ _ => pts_nil) (fun _ _ _ _ _ => pe_lst pa_nil))
      (pss_cons (ps_for PassesOwn.never rfl (pi_enum (by rfl) T.enumerate (pa_cons (pv 0) pa_nil)) (show PG _ _ (gTup Z.K 2 (gCons (gName 2) (gCons (gName 3) gNil))) from pg_tup rfl (pgs_cons (pg_name (i := 2) sc_turned_round.nd rfl (Or.inl rfl)) (pgs_cons (pg_name (i := 3) sc_turned_round.nd rfl (Or.inl rfl)) pgs_nil)))
        (pss_one (ps_for PassesOwn.never rfl (pi_list (pv 3)) (pg_name (i := 4) sc_turned_round.nd rfl (Or.inl rfl))
          (pss_one (ps_expr (pe_bm PySem.F.plainAttrs_list PySem.F.slot_list_append PySem.F.type_list_append mt_append (pe_ix ix_list (pv 1) (pv 4) (fun _ _ => rfl)) (pa_cons (pv 2) pa_nil)))))))
      (pss_one (ps_ret (pv 1)))), ?_⟩
    have sz : ∀ {n : Nat}, n ≤ 100 → n < sizeLine := fun h => Nat.lt_of_le_of_lt h (by decide)
    obtain ⟨v0, e0, d0⟩ := R.sh (i := 0) rfl
    cases e0
    have d0 : Dw Z G v (.list [.list [.int 0, .int 1], .list [.int 1]]) := d0
    obtain ⟨n, r0, r1, rfl, sq, sq1, sq2⟩ : ∃ n r0 r1, v = .ref n ∧ SqL Z.K G n [.ref r0, .ref r1] ∧ SqL Z.K G r0 [.int 0, .int 1] ∧ SqL Z.K G r1 [.int 1] := by
      cases d0 with
      | lst sq da =>
        cases da with
        | cons d1 da =>
          cases da with
          | cons d2 da =>
            cases da
            cases d1 with
            | lst sq1 da1 =>
              cases d2 with
              | lst sq2 da2 =>
                have ev1 := dw_vints (ns := [0, 1]) da1
                have ev2 := dw_vints (ns := [1]) da2
                subst ev1 ev2
                exact ⟨_, _, _, rfl, sq, sq1, sq2⟩
    have R0 : Rep Z (lsF [] fun _ => []) G [.sh nextG, .un, .un, .un, .un, .un] (L2.start ["nexts", "ahead", "state", "row", "behind", "_"] [V.ref n]) H := R.more 5
    refine ⟨_, rfl, n, rfl, ⟨_, sql_ext R.xt sq⟩, fun W hW => ?_⟩
    refine lc_it (walk_list (xs := [.ref r0, .ref r1])) (fun i H2 => ∃ as cv, Mk Z G (L2.start ["nexts", "ahead", "state", "row", "behind", "_"] [V.ref n]) W i H2 as cv) ?_ ?_ ?_ ?_
    · obtain ⟨_, R1⟩ := R0.newF (ys := []) hW
      exact ⟨[], _, R1, List.nodup_cons.mpr ⟨List.not_mem_nil, List.nodup_nil⟩, rfl, setF_same, fun _ m => nomatch m⟩
    · rintro i H2 _ ⟨as, cv, M⟩
      exact sql_ext M.R.xt sq
    · rintro i x H2 H3 hi ⟨as, cv, M⟩ ⟨rfl, _⟩
      refine ⟨rfl, Nat.zero_le _, fun p hp => ?_⟩
      have hw := M.R.at_ls (a := W) List.mem_cons_self
      rw [M.hW] at hw
      obtain ⟨np, R1⟩ := M.R.newF (ys := []) hp
      have pW : p ≠ W := fun z => np (z ▸ List.mem_cons_self)
      have pA : p ∉ as := fun m => np (List.mem_cons_of_mem _ m)
      have R2 := R1.mutF (a := W) (ys := as.map V.ref ++ [.ref p]) (List.mem_cons_of_mem _ List.mem_cons_self)
      obtain ⟨q1, q2⟩ := List.nodup_cons.mp M.nd
      refine ⟨as.map .ref, by rw [upd_ne (Ne.symm pW)]; exact hw, sz (by rw [List.length_map, M.len]; have : i < 2 := hi; omega), as ++ [p], setF (setF cv p []) W (as.map V.ref ++ [.ref p]), R2.subF fun ⟨b, u⟩ m => ?_, List.nodup_cons.mpr ⟨fun m => ?_, ?_⟩, by rw [List.length_append, M.len]; rfl, by rw [setF_same, List.map_append]; rfl, fun a m => ?_⟩
      · obtain ⟨m2, rfl⟩ := mem_lsF.mp m
        refine mem_lsF.mpr ⟨?_, rfl⟩
        rcases List.mem_cons.mp m2 with z | m2
        · exact z ▸ List.mem_cons_of_mem _ List.mem_cons_self
        rcases List.mem_append.mp m2 with m2 | m2
        · exact List.mem_cons_of_mem _ (List.mem_cons_of_mem _ m2)
        · rw [List.mem_singleton.mp m2]
          exact List.mem_cons_self
      · rcases List.mem_append.mp m with m | m
        · exact q1 m
        · exact pW (List.mem_singleton.mp m).symm
      · rw [List.nodup_append]
        refine ⟨q2, List.nodup_cons.mpr ⟨List.not_mem_nil, List.nodup_nil⟩, fun a ma b mb e => ?_⟩
        rw [List.mem_singleton.mp mb] at e
        exact pA (e ▸ ma)
      · have aW : a ≠ W := fun z => by
          rw [z] at m
          rcases List.mem_append.mp m with m | m
          · exact q1 m
          · exact pW (List.mem_singleton.mp m).symm
        rw [setF_ne aW]
        rcases List.mem_append.mp m with m | m
        · rw [setF_ne (show a ≠ p from fun z => pA (by rw [← z]; exact m))]
          exact M.ha a m
        · rw [List.mem_singleton.mp m, setF_same]
    · rintro H2 ⟨as, cv, M⟩
      obtain ⟨a0, a1, rfl⟩ : ∃ a0 a1, as = [a0, a1] := by
        have := M.len
        match as, this with
        | [a0, a1], _ => exact ⟨a0, a1, rfl⟩
      have nd := M.nd
      simp only [List.nodup_cons, List.mem_cons, List.not_mem_nil, or_false, not_or] at nd
      have I0 : Tr Z G ((L2.start ["nexts", "ahead", "state", "row", "behind", "_"] [V.ref n]).set 1 (some (.ref W))) H2 W a0 a1 cv [] [] := ⟨M.R.forget (i := 1) (fun _ _ z => nomatch z) (some (.ref W)), nd.1.1, nd.1.2, nd.2.1, rfl, M.hW, M.ha a0 List.mem_cons_self, M.ha a1 (List.mem_cons_of_mem _ List.mem_cons_self)⟩
      clear M
      refine ⟨_, rfl, n, _, rfl, sql_ext I0.R.xt sq, ?_⟩
      refine for_it (walk_enum (xs := [.ref r0, .ref r1])) (fun i σ H => ∃ cv x0 x1, Tr Z G σ H W a0 a1 cv x0 x1 ∧ σ[0]? = some (some (.ref n)) ∧ ((i = 0 ∧ x0 = [] ∧ x1 = []) ∨ (i = 1 ∧ x0 = [0] ∧ x1 = [0]) ∨ (i = 2 ∧ x0 = [0] ∧ x1 = [0, 1]))) ⟨cv, [], [], I0, rfl, .inl ⟨rfl, rfl, rfl⟩⟩ ?_ ?_ ?_
      · rintro i σ H _ ⟨cv, x0, x1, I, _⟩
        exact sql_ext I.R.xt sq
      · rintro i x σ H H' hi ⟨cv, x0, x1, I, z0, hx⟩ ⟨T1, y1, y2, rfl, hT, rfl, g1, g2⟩
        cases g1
        have len : σ.length = 6 := I.R.len
        have J := ((I.junk (o := .tup [.int (i : Nat), y2]) hT).slot (i := 2) (.inl rfl) (some (.int (i : Nat)))).slot (i := 3) (.inr (.inl rfl)) (some y2)
        refine ⟨T1, _, rfl, .inl (.inl upd_same), rfl, _, _, rfl, _, _, rfl, rfl, ?_⟩
        have e3 : (((σ.set 2 (some (V.int (i : Nat)))).set 3 (some y2)))[3]? = some (some y2) := List.getElem?_set_self (by rw [List.length_set]; omega)
        have e2 : (((σ.set 2 (some (V.int (i : Nat)))).set 3 (some y2)))[2]? = some (some (.int (i : Nat))) := by rw [List.getElem?_set_ne (by decide)]; exact List.getElem?_set_self (by omega)
        rcases hx with ⟨rfl, rfl, rfl⟩ | ⟨rfl, rfl, rfl⟩ | ⟨rfl, rfl, rfl⟩
        · cases g2
          refine ⟨_, e3, r0, rfl, ⟨_, sql_ext J.R.xt sq1⟩, ?_⟩
          refine for_it (walk_list (xs := [.int 0, .int 1])) (fun j σ H => ∃ cv x0 x1, Tr Z G σ H W a0 a1 cv x0 x1 ∧ σ[0]? = some (some (.ref n)) ∧ σ[2]? = some (some (.int 0)) ∧ ((j = 0 ∧ x0 = [] ∧ x1 = []) ∨ (j = 1 ∧ x0 = [0] ∧ x1 = []) ∨ (j = 2 ∧ x0 = [0] ∧ x1 = [0]))) ⟨cv, _, _, J, by rw [List.getElem?_set_ne (by decide), List.getElem?_set_ne (by decide)]; exact z0, e2, .inl ⟨rfl, rfl, rfl⟩⟩ ?_ ?_ ?_
          · rintro j σ H _ ⟨cv, x0, x1, I, _⟩
            exact sql_ext I.R.xt sq1
          · rintro j y σ H _ hj ⟨cv, x0, x1, I, z0, z2, hj2⟩ ⟨rfl, hy⟩
            have len : σ.length = 6 := I.R.len
            have K := I.slot (i := 4) (.inr (.inr rfl)) (some y)
            have e4 : (σ.set 4 (some y))[4]? = some (some y) := List.getElem?_set_self (by omega)
            have z2' : (σ.set 4 (some y))[2]? = some (some (.int 0)) := by rw [List.getElem?_set_ne (by decide)]; exact z2
            have z0' : (σ.set 4 (some y))[0]? = some (some (.ref n)) := by rw [List.getElem?_set_ne (by decide)]; exact z0
            rcases hj2 with ⟨rfl, rfl, rfl⟩ | ⟨rfl, rfl, rfl⟩ | ⟨rfl, rfl, rfl⟩
            · cases hy
              refine ⟨_, K.e1, _, e4, W, _, _, _, rfl, rfl, SqL.of K.wl, at_0, .inl ⟨rfl, _, SqL.of K.l0⟩, _, z2', a0, _, _, rfl, rfl, K.l0, sz (by decide), ?_⟩
              exact ⟨_, _, _, K.put0 (s := 0), z0', z2', .inr (.inl ⟨rfl, rfl, rfl⟩)⟩
            · cases hy
              refine ⟨_, K.e1, _, e4, W, _, _, _, rfl, rfl, SqL.of K.wl, at_1, .inl ⟨rfl, _, SqL.of K.l1⟩, _, z2', a1, _, _, rfl, rfl, K.l1, sz (by decide), ?_⟩
              exact ⟨_, _, _, K.put1 (s := 0), z0', z2', .inr (.inr ⟨rfl, rfl, rfl⟩)⟩
            · exact absurd (show 2 < 2 from hj) (by decide)
          · rintro σ H ⟨cv, x0, x1, I, z0, z2, hj2⟩
            rcases hj2 with ⟨h, _, _⟩ | ⟨h, _, _⟩ | ⟨_, rfl, rfl⟩
            · cases h
            · cases h
            · exact ⟨cv, _, _, I, z0, .inr (.inl ⟨rfl, rfl, rfl⟩)⟩
        · cases g2
          refine ⟨_, e3, r1, rfl, ⟨_, sql_ext J.R.xt sq2⟩, ?_⟩
          refine for_it (walk_list (xs := [.int 1])) (fun j σ H => ∃ cv x0 x1, Tr Z G σ H W a0 a1 cv x0 x1 ∧ σ[0]? = some (some (.ref n)) ∧ σ[2]? = some (some (.int 1)) ∧ ((j = 0 ∧ x0 = [0] ∧ x1 = [0]) ∨ (j = 1 ∧ x0 = [0] ∧ x1 = [0, 1]))) ⟨cv, _, _, J, by rw [List.getElem?_set_ne (by decide), List.getElem?_set_ne (by decide)]; exact z0, e2, .inl ⟨rfl, rfl, rfl⟩⟩ ?_ ?_ ?_
          · rintro j σ H _ ⟨cv, x0, x1, I, _⟩
            exact sql_ext I.R.xt sq2
          · rintro j y σ H _ hj ⟨cv, x0, x1, I, z0, z2, hj2⟩ ⟨rfl, hy⟩
            have len : σ.length = 6 := I.R.len
            have K := I.slot (i := 4) (.inr (.inr rfl)) (some y)
            have e4 : (σ.set 4 (some y))[4]? = some (some y) := List.getElem?_set_self (by omega)
            have z2' : (σ.set 4 (some y))[2]? = some (some (.int 1)) := by rw [List.getElem?_set_ne (by decide)]; exact z2
            have z0' : (σ.set 4 (some y))[0]? = some (some (.ref n)) := by rw [List.getElem?_set_ne (by decide)]; exact z0
            rcases hj2 with ⟨rfl, rfl, rfl⟩ | ⟨rfl, rfl, rfl⟩
            · cases hy
              refine ⟨_, K.e1, _, e4, W, _, _, _, rfl, rfl, SqL.of K.wl, at_1, .inl ⟨rfl, _, SqL.of K.l1⟩, _, z2', a1, _, _, rfl, rfl, K.l1, sz (by decide), ?_⟩
              exact ⟨_, _, _, K.put1 (s := 1), z0', z2', .inr ⟨rfl, rfl, rfl⟩⟩
            · exact absurd (show 1 < 1 from hj) (by decide)
          · rintro σ H ⟨cv, x0, x1, I, z0, z2, hj2⟩
            rcases hj2 with ⟨h, _, _⟩ | ⟨_, rfl, rfl⟩
            · cases h
            · exact ⟨cv, _, _, I, z0, .inr (.inr ⟨rfl, rfl, rfl⟩)⟩
        · exact absurd (show 2 < 2 from hi) (by decide)
      · rintro σ H ⟨cv, x0, x1, I, z0, hx⟩
        rcases hx with ⟨h, _, _⟩ | ⟨h, _, _⟩ | ⟨_, rfl, rfl⟩
        · cases h
        · cases h
        · refine ⟨_, I.e1, ?_⟩
          have wl := I.hW
          have l0 := I.h0
          have l1 := I.h1
          have notin : ∀ {b : Addr} {L : List Addr}, b ∉ L → ∀ o, (b, o) ∉ lsF L cv := fun h o m => h (mem_lsF.mp m).1
          obtain ⟨s1, R1⟩ := Rep.land tb (notin (b := W) (L := [a0, a1]) (by simp [I.n1, I.n2])) I.R
          obtain ⟨s2, R2⟩ := Rep.land s1.2 (notin (b := a0) (L := [a1]) (by simp [I.n3])) R1
          obtain ⟨s3, R3⟩ := Rep.land s2.2 (notin (b := a1) (L := []) List.not_mem_nil) R2
          have Rq := R.pastC ((s1.trans s2).trans s3) R3.sub R3.nt fun b w => by
            rcases w with ⟨i, c, e⟩ | ⟨o, m⟩
            · exact absurd e (no_sh1 i b c)
            · exact absurd m List.not_mem_nil
          refine hQ aheadG _ _ _ _ q (.sh .nil) ((s1.trans s2).trans s3) Rq ?_
          refine .lst (xs := [.ref a0, .ref a1]) (.inl (.inl ?_)) (.cons (.lst (xs := ([0] : List Int).map V.int) (.inl (.inl ?_)) (dwa_ints [0])) (.cons (.lst (xs := ([0, 1] : List Int).map V.int) (.inl (.inl ?_)) (dwa_ints [0, 1])) .nil))
          · rw [upd_ne I.n2, upd_ne I.n1, upd_same, wl]
          · rw [upd_ne I.n3, upd_same, l0]
          · rw [upd_same, l1]
end
end Lw
set_option Elab.async false
set_option linter.all false
set_option maxRecDepth 100000
set_option maxHeartbeats 1000000
set_option pp.deepTerms true
set_option pp.maxSteps 200000
namespace Lw
open PySem PySem.Spec PyProof PyProof.Rows L2 So Da Dl
local macro_rules | `(tactic| walk_at "z") => `(tactic| repeat (first | refine ⟨(by decide), ?_⟩ | refine ⟨(by omega), ?_⟩ | refine ⟨rfl, ?_⟩))
section
variable {Z : Zw}
abbrev s_finished : Stmt := top 8
theorem sc_finished : FnScope ["nexts", "kept", "begun", "order", "first", "todo", "state", "at", "behind", "one"] ["nexts", "kept"] (defScope s_finished) := ⟨rfl, rfl, rfl, by decide +kernel, rfl, by decide +kernel, by decide +kernel⟩
def unS : Sto := [.sh nextG, .sh kept2, .un, .un, .un, .un, .un, .un, .un, .un]
structure Fi (Z : Zw) (G : Hp) (σ : L2.St) (H : Hp) (L : List Addr) (cv : Addr → List V) : Prop where
  R : Rep Z (lsF L cv) G unS σ H
  nd : L.Nodup
section
variable {G H : Hp} {σ : L2.St} {L : List Addr} {a p : Addr} {cv : Addr → List V} {ys : List V}
theorem Fi.at (I : Fi Z G σ H L cv) (m : a ∈ L) : H a = some (.lst (cv a)) := I.R.at_ls m
theorem Fi.len (I : Fi Z G σ H L cv) : σ.length = 10 := I.R.len
theorem un_set {i : Nat} (h : 2 ≤ i) (h2 : i < 10) : unS.set i .un = unS ∧ ∀ a c, unS[i]? ≠ some (.ob a c) := by
  match i, h, h2 with
  | 2, _, _ | 3, _, _ | 4, _, _ | 5, _, _ | 6, _, _ | 7, _, _ | 8, _, _ | 9, _, _ => exact ⟨rfl, fun a c z => nomatch z⟩
theorem Fi.slot (i : Nat) (I : Fi Z G σ H L cv) (v : Option V) (h : 2 ≤ i := by decide) (h2 : i < 10 := by decide) : Fi Z G (σ.set i v) H L cv := by
  have := I.R.forget (un_set h h2).2 v
  rw [(un_set h h2).1] at this
  exact ⟨this, I.nd⟩
theorem Fi.mut (I : Fi Z G σ H L cv) (m : a ∈ L) : Fi Z G σ (upd H a (.lst ys)) L (setF cv a ys) := ⟨I.R.mutF m, I.nd⟩
theorem Fi.new (I : Fi Z G σ H L cv) (h : H p = none) : p ∉ L ∧ Fi Z G σ (upd H p (.lst ys)) (p :: L) (setF cv p ys) :=
  let ⟨h1, h2⟩ := I.R.newF (ys := ys) h
  ⟨h1, h2, List.nodup_cons.mpr ⟨h1, I.nd⟩⟩
end
/-- at the head of an inner turn -/
structure Wh (Z : Zw) (G : Hp) (n O B Td : Addr) (σ : L2.St) (H : Hp) (L : List Addr) (cv : Addr → List V) (bg od td : List V) : Prop where
  I : Fi Z G σ H L cv
  z0 : σ[0]? = some (some (.ref n))
  z2 : σ[2]? = some (some (.ref B))
  z3 : σ[3]? = some (some (.ref O))
  z5 : σ[5]? = some (some (.ref Td))
  mB : B ∈ L
  mO : O ∈ L
  mT : Td ∈ L
  hB : cv B = bg
  hO : cv O = od
  hT : cv Td = td
theorem Wh.slot {n O B Td : Addr} {σ : L2.St} {H : Hp} {L : List Addr} {cv : Addr → List V} {bg od td : List V} {G : Hp} (W : Wh Z G n O B Td σ H L cv bg od td) (i : Nat) (v : Option V) (h : 6 ≤ i := by decide) (h2 : i < 10 := by decide) : Wh Z G n O B Td (σ.set i v) H L cv bg od td :=
  ⟨W.I.slot i v (by omega) h2, by rw [List.getElem?_set_ne (by omega)]; exact W.z0, by rw [List.getElem?_set_ne (by omega)]; exact W.z2, by rw [List.getElem?_set_ne (by omega)]; exact W.z3, by rw [List.getElem?_set_ne (by omega)]; exact W.z5, W.mB, W.mO, W.mT, W.hB, W.hO, W.hT⟩
section
variable {n O B Td a p : Addr} {σ : L2.St} {H : Hp} {L : List Addr} {cv : Addr → List V} {bg od td ys : List V} {G : Hp}
theorem Wh.other (W : Wh Z G n O B Td σ H L cv bg od td) (m : a ∈ L) (h1 : B ≠ a) (h2 : O ≠ a) (h3 : Td ≠ a) : Wh Z G n O B Td σ (upd H a (.lst ys)) L (setF cv a ys) bg od td :=
  ⟨W.I.mut m, W.z0, W.z2, W.z3, W.z5, W.mB, W.mO, W.mT, by rw [setF_ne h1]; exact W.hB, by rw [setF_ne h2]; exact W.hO, by rw [setF_ne h3]; exact W.hT⟩
theorem Wh.setB (W : Wh Z G n O B Td σ H L cv bg od td) (h2 : O ≠ B) (h3 : Td ≠ B) : Wh Z G n O B Td σ (upd H B (.lst ys)) L (setF cv B ys) ys od td :=
  ⟨W.I.mut W.mB, W.z0, W.z2, W.z3, W.z5, W.mB, W.mO, W.mT, setF_same, by rw [setF_ne h2]; exact W.hO, by rw [setF_ne h3]; exact W.hT⟩
theorem Wh.setO (W : Wh Z G n O B Td σ H L cv bg od td) (h1 : B ≠ O) (h3 : Td ≠ O) : Wh Z G n O B Td σ (upd H O (.lst ys)) L (setF cv O ys) bg ys td :=
  ⟨W.I.mut W.mO, W.z0, W.z2, W.z3, W.z5, W.mB, W.mO, W.mT, by rw [setF_ne h1]; exact W.hB, setF_same, by rw [setF_ne h3]; exact W.hT⟩
theorem Wh.setT (W : Wh Z G n O B Td σ H L cv bg od td) (h1 : B ≠ Td) (h2 : O ≠ Td) : Wh Z G n O B Td σ (upd H Td (.lst ys)) L (setF cv Td ys) bg od ys :=
  ⟨W.I.mut W.mT, W.z0, W.z2, W.z3, W.z5, W.mB, W.mO, W.mT, by rw [setF_ne h1]; exact W.hB, by rw [setF_ne h2]; exact W.hO, setF_same⟩
theorem Wh.new (W : Wh Z G n O B Td σ H L cv bg od td) (h : H p = none) : p ∉ L ∧ Wh Z G n O B Td σ (upd H p (.lst ys)) (p :: L) (setF cv p ys) bg od td := by
  obtain ⟨np, I⟩ := W.I.new (ys := ys) h
  have ne : ∀ {x : Addr}, x ∈ L → x ≠ p := fun m e => np (e ▸ m)
  exact ⟨np, I, W.z0, W.z2, W.z3, W.z5, List.mem_cons_of_mem _ W.mB, List.mem_cons_of_mem _ W.mO, List.mem_cons_of_mem _ W.mT, by rw [setF_ne (ne W.mB)]; exact W.hB, by rw [setF_ne (ne W.mO)]; exact W.hO, by rw [setF_ne (ne W.mT)]; exact W.hT⟩
theorem Wh.aT (W : Wh Z G n O B Td σ H L cv bg od td) : H Td = some (.lst td) := by rw [← W.hT]; exact W.I.at W.mT
theorem Wh.aB (W : Wh Z G n O B Td σ H L cv bg od td) : H B = some (.lst bg) := by rw [← W.hB]; exact W.I.at W.mB
theorem Wh.aO (W : Wh Z G n O B Td σ H L cv bg od td) : H O = some (.lst od) := by rw [← W.hO]; exact W.I.at W.mO
theorem Wh.atA (W : Wh Z G n O B Td σ H L cv bg od td) (h : cv a = ys) (m : a ∈ L := by simp) : H a = some (.lst ys) := by rw [← h]; exact W.I.at m
end
def SA (Z : Zw) (G : Hp) (n O B Td P0 : Addr) (a : Int) (σ : L2.St) (H : Hp) : Prop := ∃ cv, Wh Z G n O B Td σ H [Td, P0, O, B] cv [.bl true, .bl false] [] [.ref P0] ∧ cv P0 = [.int 0, .int a]
def SB (Z : Zw) (G : Hp) (n O B Td P0 : Addr) (od : List V) (two : Bool) (td0 : Bool) (a : Int) (σ : L2.St) (H : Hp) : Prop := ∃ P1 cv, Wh Z G n O B Td σ H [P1, Td, P0, O, B] cv [.bl true, .bl true] od (if td0 = true then [] else if two = true then [.ref P0, .ref P1] else [.ref P0]) ∧ cv P0 = [.int 0, .int 2] ∧ cv P1 = [.int 1, .int a]
def rGetL (K : PySem.W.Frag) : V → V → Hp → VK → Prop := fun o i H Q => ∃ (p : Addr) (xs : List V) (j : Nat) (v : V), o = .ref p ∧ i = .int (j : Nat) ∧ SqL K H p xs ∧ j < 100 ∧ xs[j]? = some v ∧ Q v H
theorem get_list {X : Cx} : PGet X (rGetL X.K) := by
  intro pins s σ H o i ov iv Q I ro ri h
  obtain ⟨p, xs, j, v, rfl, rfl, hq, hj, hv, q⟩ := h
  cases ro
  obtain ⟨t, rfl⟩ := ri
  obtain ⟨its, r, pl, hz⟩ := I.list hq
  obtain ⟨w, ew, rw'⟩ := r.get hv
  exact wpAny_getItem_list pl.isList (by omega) (by omega) (by simpa using ew) ⟨v, H, I, rw', q⟩
theorem ok_finished {f : Addr} {fd : FuncData} (F : Fun Z.K "_finished" "_finished" s_finished f fd) (T : Tz Z.K Z.mg) : FnD Z.Pg Z.w Z.K Z.mg Z.base CX0 1 f fd ["nexts", "kept"] (spT Z (T_finished)) := by
  refine FnD.ok F sc_finished (spT_len fun as Q er h => ?_) (fun cdv A outer s H vs Q E hr hgd ⟨G, as, Q0, er, tb, R, hT, hQ, _⟩ => ?_)
  · obtain ⟨_, _, rfl, _⟩ := t2_inv h
    rfl
  · obtain ⟨_, _, rfl, rfl, rfl, q⟩ := t2_inv hT
    obtain ⟨v, w, rfl⟩ : ∃ v w, vs = [v, w] := by
      have := R.len
      match vs, this with
      | [v, w], _ => exact ⟨v, w, rfl⟩
    refine ⟨_, pss_cons (ps_setLc (i := 2) (own := [("one", 9)]) (g := gName 9) (tt := tYes) rfl sc_finished.nd rfl rfl (sw_true rfl rfl rfl (by decide +kernel)) (pi_list (pv 1)) (blkOk_by (N := ["nexts", "kept", "begun", "order", "first", "todo", "state", "at", "behind", "one"]) (sc := defScope s_finished) (by decide +kernel)) (fun _ _ _ _ _ => pg_name (i := 9) sc_finished.nd rfl (Or.inl rfl)) (fun _ _ _ _ _ => pts_nil) (fun _ _ _ _ _ => pe_not (pv 9)))
      (pss_cons (ps_set (i := 3) sc_finished.nd rfl (Or.inl rfl) (pe_lst pa_nil))
      (pss_cons (ps_for PassesOwn.never rfl (pi_range1 (by rfl) T.range (pa_cons (pe_callB call_len_seq (by rfl) T.len (by decide +kernel) (pa_cons (pv 0) pa_nil)) pa_nil)) (pg_name (i := 4) sc_finished.nd rfl (Or.inl rfl))
        (pss_cons (ps_set (i := 5) sc_finished.nd rfl (Or.inl rfl) (pe_ifExp (pt_val (pe_ix ix_list (pv 2) (pv 4) (fun _ _ => rfl))) (pe_lst pa_nil) (pe_lst (pa_cons (pe_lst (pa_cons (pv 4) (pa_cons pe_int pa_nil))) pa_nil))))
        (pss_cons (ps_asg pe_bl (pg_sub (pv 2) (pv 4) set_list))
        (pss_one (ps_while PassesOwn.never (pt_truth (pv 5) fun _ => rfl)
          (pss_cons (ps_asg (pe_ix ix_list (pv 5) (pe_un un_neg pe_int) (fun _ _ => rfl)) (show PG _ _ (gLst Z.K 2 (gCons (gName 6) (gCons (gName 7) gNil))) from pg_lst rfl (pgs_cons (pg_name (i := 6) sc_finished.nd rfl (Or.inl rfl)) (pgs_cons (pg_name (i := 7) sc_finished.nd rfl (Or.inl rfl)) pgs_nil))))
          (pss_cons (ps_if (pt_cmpR op_eq (pv 7) (pe_callB call_len_seq (by rfl) T.len (by decide +kernel) (pa_cons (pe_ix ix_list (pv 0) (pv 6) (fun _ _ => rfl)) pa_nil)) (nomark _))
            (pss_cons (ps_expr (pe_bm PySem.F.plainAttrs_list PySem.F.slot_list_append PySem.F.type_list_append mt_append (pv 3) (pa_cons (pv 6) pa_nil)))
            (pss_cons (ps_expr (pe_bm0 PySem.F.plainAttrs_list PySem.F.slot_list_pop PySem.F.type_list_pop mt_pop (pv 5)))
            (pss_one ps_continue))) pss_nil)
          (pss_cons (ps_augS (pe_ix ix_list (pv 5) (pe_un un_neg pe_int) (fun _ _ => rfl)) pe_int get_list pe_int ip_add set_list)
          (pss_cons (ps_set (i := 8) sc_finished.nd rfl (Or.inl rfl) (pe_ix ix_list (pe_ix ix_list (pv 0) (pv 6) (fun _ _ => rfl)) (pv 7) (fun _ _ => rfl)))
          (pss_one (ps_if (pt_not (pt_val (pe_ix ix_list (pv 2) (pv 8) (fun _ _ => rfl))))
            (pss_cons (ps_asg pe_bl (pg_sub (pv 2) (pv 8) set_list))
            (pss_one (ps_expr (pe_bm PySem.F.plainAttrs_list PySem.F.slot_list_append PySem.F.type_list_append mt_append (pv 5) (pa_cons (pe_lst (pa_cons (pv 8) (pa_cons pe_int pa_nil))) pa_nil))))) pss_nil)))))))))))
      (pss_one (ps_ret (pv 3))))), ?_⟩
    have sz : ∀ {n : Nat}, n ≤ 100 → n < sizeLine := fun h => Nat.lt_of_le_of_lt h (by decide)
    have szl : ∀ {n : Nat}, n ≤ 100 → n ≤ sizeLine := fun h => Nat.le_of_lt (sz h)
    obtain ⟨v0, e0, d0⟩ := R.sh (i := 0) rfl
    cases e0
    obtain ⟨w0, e1, d1⟩ := R.sh (i := 1) rfl
    cases e1
    have d0 : Dw Z G v (.list [.list [.int 0, .int 1], .list [.int 1]]) := d0
    have d1 : Dw Z G w (.list [.bool true, .bool true]) := d1
    obtain ⟨n, r0, r1, rfl, sq, sq1, sq2⟩ : ∃ n r0 r1, v = .ref n ∧ SqL Z.K G n [.ref r0, .ref r1] ∧ SqL Z.K G r0 [.int 0, .int 1] ∧ SqL Z.K G r1 [.int 1] := by
      cases d0 with
      | lst sq da =>
        cases da with
        | cons d1 da =>
          cases da with
          | cons d2 da =>
            cases da
            cases d1 with
            | lst sq1 da1 =>
              cases d2 with
              | lst sq2 da2 =>
                have ev1 := dw_vints (ns := [0, 1]) da1
                have ev2 := dw_vints (ns := [1]) da2
                subst ev1 ev2
                exact ⟨_, _, _, rfl, sq, sq1, sq2⟩
    obtain ⟨m, rfl, sqk⟩ : ∃ m, w = .ref m ∧ SqL Z.K G m [.bl true, .bl true] := by
      cases d1 with
      | lst sq da =>
        cases da with
        | cons d1 da =>
          cases da with
          | cons d2 da =>
            cases da
            cases d1
            cases d2
            exact ⟨_, rfl, sq⟩
    have R0 : Rep Z (lsF [] fun _ => []) G unS (L2.start ["nexts", "kept", "begun", "order", "first", "todo", "state", "at", "behind", "one"] [V.ref n, V.ref m]) H := R.more 8
    refine ⟨_, rfl, m, rfl, ⟨_, sql_ext R.xt sqk⟩, fun B hB0 => ?_⟩
    refine lc_it (walk_list (xs := [.bl true, .bl true])) (fun i H2 => ∃ cv, Fi Z G (L2.start ["nexts", "kept", "begun", "order", "first", "todo", "state", "at", "behind", "one"] [V.ref n, V.ref m]) H2 [B] cv ∧ cv B = List.replicate i (.bl false)) ?_ ?_ ?_ ?_
    · obtain ⟨_, R1⟩ := R0.newF (ys := []) hB0
      exact ⟨_, ⟨R1, List.nodup_cons.mpr ⟨List.not_mem_nil, List.nodup_nil⟩⟩, setF_same⟩
    · rintro i H2 _ ⟨cv, M, _⟩
      exact sql_ext M.R.xt sqk
    · rintro i x H2 H3 hi ⟨cv, M, hcv⟩ ⟨rfl, hx⟩
      have ex : x = .bl true := by
        match i, hx with
        | 0, hx => exact (Option.some.inj hx).symm
        | 1, hx => exact (Option.some.inj hx).symm
      subst ex
      have hl := M.at (a := B) List.mem_cons_self
      refine ⟨rfl, _, rfl, true, rfl, cv B, hl, by rw [hcv, List.length_replicate]; exact sz (by have : i < 2 := hi; omega), _, M.mut List.mem_cons_self, ?_⟩
      rw [setF_same, hcv, List.replicate_succ']
      rfl
    · rintro H2 ⟨cv, M, hcv⟩
      have M2 := M.slot 2 (some (.ref B))
      refine ⟨Nat.zero_le _, fun O hO => ?_⟩
      obtain ⟨nO, M3⟩ := M2.new (ys := []) hO
      have M4 := M3.slot 3 (some (.ref O))
      have OB : O ≠ B := fun z => nO (z ▸ List.mem_cons_self)
      refine ⟨_, rfl, n, _, rfl, .inl (sql_ext M4.R.xt sq), 2, rfl, by decide, by decide, ?_⟩
      refine for_it (walk_range (lo := 0) (n := 2)) (fun i σ H => ∃ L cv, Fi Z G σ H L cv ∧ B ∈ L ∧ O ∈ L ∧ σ[0]? = some (some (.ref n)) ∧ σ[2]? = some (some (.ref B)) ∧ σ[3]? = some (some (.ref O)) ∧ ((i = 0 ∧ L = [O, B] ∧ cv B = [.bl false, .bl false] ∧ cv O = []) ∨ (1 ≤ i ∧ cv B = [.bl true, .bl true] ∧ cv O = [.int 1, .int 0]))) ⟨_, _, M4, List.mem_cons_of_mem _ List.mem_cons_self, List.mem_cons_self, rfl, rfl, rfl, .inl ⟨rfl, rfl, by rw [setF_ne (Ne.symm OB)]; exact hcv, setF_same⟩⟩ ?_ ?_ ?_
      · exact fun _ _ _ _ _ => trivial
      · rintro i x σ H H' hi ⟨L, cv, I, mB, mO, z0, z2, z3, hx⟩ ⟨rfl, hxx⟩
        have len : σ.length = 10 := I.len
        have y0 : (σ.set 4 (some x))[0]? = some (some (.ref n)) := by rw [List.getElem?_set_ne (by decide)]; exact z0
        have y2 : (σ.set 4 (some x))[2]? = some (some (.ref B)) := by rw [List.getElem?_set_ne (by decide)]; exact z2
        have y3 : (σ.set 4 (some x))[3]? = some (some (.ref O)) := by rw [List.getElem?_set_ne (by decide)]; exact z3
        have y4 : (σ.set 4 (some x))[4]? = some (some x) := List.getElem?_set_self (by omega)
        have J := I.slot 4 (some x)
        rcases hx with ⟨rfl, rfl, hB, hO⟩ | ⟨h1, hB, hO⟩
        · obtain rfl : x = .int 0 := hxx
          have hb := J.at mB
          rw [hB] at hb
          refine ⟨_, y2, _, y4, B, _, _, _, rfl, rfl, SqL.of hb, at_0, false, rfl, iteF ⟨_, y4, szl (n := 2) (by decide), fun P0 hP0 => ⟨szl (n := 1) (by decide), fun Td hTd => ?_⟩⟩⟩
          obtain ⟨nP, J1⟩ := J.new (ys := [.int 0, .int 0]) hP0
          obtain ⟨nT, J2⟩ := J1.new (ys := [.ref P0]) hTd
          have J3 := J2.slot 5 (some (.ref Td))
          have nd := J3.nd
          simp only [List.nodup_cons, List.mem_cons, List.not_mem_nil, or_false, not_or] at nd
          have hb3 : setF (setF cv P0 [.int 0, .int 0]) Td [.ref P0] B = [.bl false, .bl false] := by rw [setF_ne (Ne.symm nd.1.2.2), setF_ne (Ne.symm nd.2.1.2)]; exact hB
          have hb4 := J3.at (a := B) (by simp)
          rw [hb3] at hb4
          refine ⟨_, by rw [List.getElem?_set_ne (by decide)]; exact y2, _, by rw [List.getElem?_set_ne (by decide)]; exact y4, B, _, _, 0, rfl, rfl, hb4, rfl, ?_⟩
          have J4 := J3.mut (a := B) (ys := [.bl true, .bl false]) (by simp)
          refine ⟨fun m σ H => match m with | 5 => SA Z G n O B Td P0 0 σ H | 4 => SA Z G n O B Td P0 1 σ H | 3 => SB Z G n O B Td P0 [] true false 0 σ H | 2 => SB Z G n O B Td P0 [] true false 1 σ H | 1 => SB Z G n O B Td P0 [.int 1] false false 1 σ H | 0 => SB Z G n O B Td P0 [.int 1, .int 0] false true 1 σ H | _ => False, ⟨5, _, ⟨J4, ?_, ?_, ?_, ?_, ?_, ?_, ?_, ?_, ?_, ?_⟩, ?_⟩, fun m σ H hw => ?_⟩
          · rw [List.getElem?_set_ne (by decide)]
            exact y0
          · rw [List.getElem?_set_ne (by decide)]
            exact y2
          · rw [List.getElem?_set_ne (by decide)]
            exact y3
          · exact List.getElem?_set_self (by rw [List.length_set]; omega)
          · simp
          · simp
          · simp
          · exact setF_same
          · rw [setF_ne OB, setF_ne (Ne.symm nd.1.2.1), setF_ne (Ne.symm nd.2.1.1)]
            exact hO
          · rw [setF_ne nd.1.2.2, setF_same]
          · rw [setF_ne nd.2.1.2, setF_ne (Ne.symm nd.1.1), setF_same]
          obtain ⟨⟨nTP, nTO, nTB⟩, ⟨nPO, nPB⟩, nOB, _⟩ := nd
          match m, hw with
          | 5, hw =>
            obtain ⟨cv, W, hP⟩ := hw
            have W1 := (W.slot 6 (some (.int 0))).slot 7 (some (.int 0))
            have l1 : σ.length = 10 := W.I.len
            have z7 : ((σ.set 6 (some (.int 0))).set 7 (some (.int 0)))[7]? = some (some (.int 0)) := List.getElem?_set_self (by rw [List.length_set]; omega)
            have z6 : ((σ.set 6 (some (.int 0))).set 7 (some (.int 0)))[6]? = some (some (.int 0)) := by rw [List.getElem?_set_ne (by decide)]; exact List.getElem?_set_self (by omega)
            refine ⟨_, W.z5, true, .inl ⟨_, SqL.of W.aT, rfl⟩, iteT ⟨fun σ H => SA Z G n O B Td P0 1 σ H, fun _ _ z => ⟨4, by decide, z⟩, ?_⟩⟩
            refine ⟨_, W.z5, 1, rfl, Td, _, _, _, rfl, rfl, SqL.of W.aT, rfl, P0, _, rfl, SqL.of (W.atA hP), rfl, _, _, rfl, _, _, rfl, rfl, ?_⟩
            have e8 : (((σ.set 6 (some (.int 0))).set 7 (some (.int 0))).set 8 (some (.int 0)))[8]? = some (some (.int 0)) := List.getElem?_set_self (by rw [List.length_set, List.length_set]; omega)
            have W2 := W1.other (a := P0) (ys := [.int 0, .int 1]) (by simp) (Ne.symm nPB) (Ne.symm nPO) nTP
            have W3 := W2.slot 8 (some (.int 0))
            refine ⟨_, z7, _, W1.z0, _, z6, n, _, _, _, rfl, rfl, sql_ext W1.I.R.xt sq, at_0, r0, _, rfl, .inl (sql_ext W1.I.R.xt sq1), rfl, false, rfl, iteF ?_⟩
            refine ⟨_, W1.z5, 1, rfl, Td, _, _, _, rfl, rfl, SqL.of W1.aT, rfl, P0, _, 1, _, rfl, rfl, SqL.of (W1.atA hP), by decide, rfl, _, _, rfl, rfl, P0, _, _, 1, rfl, rfl, W1.atA hP, rfl, ?_⟩
            refine ⟨_, W2.z0, _, z6, n, _, _, _, rfl, rfl, sql_ext W2.I.R.xt sq, at_0, _, z7, r0, _, _, _, rfl, rfl, sql_ext W2.I.R.xt sq1, at_0, ?_⟩
            refine ⟨_, W3.z2, _, e8, B, _, _, _, rfl, rfl, SqL.of W3.aB, at_0, true, rfl, iteF ⟨_, W3, setF_same⟩⟩
          | 4, hw =>
            obtain ⟨cv, W, hP⟩ := hw
            have W1 := (W.slot 6 (some (.int 0))).slot 7 (some (.int 1))
            have l1 : σ.length = 10 := W.I.len
            have z7 : ((σ.set 6 (some (.int 0))).set 7 (some (.int 1)))[7]? = some (some (.int 1)) := List.getElem?_set_self (by rw [List.length_set]; omega)
            have z6 : ((σ.set 6 (some (.int 0))).set 7 (some (.int 1)))[6]? = some (some (.int 0)) := by rw [List.getElem?_set_ne (by decide)]; exact List.getElem?_set_self (by omega)
            refine ⟨_, W.z5, true, .inl ⟨_, SqL.of W.aT, rfl⟩, iteT ⟨fun σ H => SB Z G n O B Td P0 [] true false 0 σ H, fun _ _ z => ⟨3, by decide, z⟩, ?_⟩⟩
            refine ⟨_, W.z5, 1, rfl, Td, _, _, _, rfl, rfl, SqL.of W.aT, rfl, P0, _, rfl, SqL.of (W.atA hP), rfl, _, _, rfl, _, _, rfl, rfl, ?_⟩
            have e8 : (((σ.set 6 (some (.int 0))).set 7 (some (.int 1))).set 8 (some (.int 1)))[8]? = some (some (.int 1)) := List.getElem?_set_self (by rw [List.length_set, List.length_set]; omega)
            have W2 := W1.other (a := P0) (ys := [.int 0, .int 2]) (by simp) (Ne.symm nPB) (Ne.symm nPO) nTP
            have W3 := W2.slot 8 (some (.int 1))
            refine ⟨_, z7, _, W1.z0, _, z6, n, _, _, _, rfl, rfl, sql_ext W1.I.R.xt sq, at_0, r0, _, rfl, .inl (sql_ext W1.I.R.xt sq1), rfl, false, rfl, iteF ?_⟩
            refine ⟨_, W1.z5, 1, rfl, Td, _, _, _, rfl, rfl, SqL.of W1.aT, rfl, P0, _, 1, _, rfl, rfl, SqL.of (W1.atA hP), by decide, rfl, _, _, rfl, rfl, P0, _, _, 1, rfl, rfl, W1.atA hP, rfl, ?_⟩
            refine ⟨_, W2.z0, _, z6, n, _, _, _, rfl, rfl, sql_ext W2.I.R.xt sq, at_0, _, z7, r0, _, _, _, rfl, rfl, sql_ext W2.I.R.xt sq1, at_1, ?_⟩
            refine ⟨_, W3.z2, _, e8, B, _, _, _, rfl, rfl, SqL.of W3.aB, at_1, false, rfl, iteT ?_⟩
            have W4 := W3.setB (ys := [.bl true, .bl true]) nOB nTB
            refine ⟨_, W3.z2, _, e8, B, _, _, 1, rfl, rfl, W3.aB, rfl, ?_⟩
            refine ⟨_, W4.z5, .inl ⟨rfl, _, SqL.of W4.aT⟩, _, e8, szl (n := 2) (by decide), fun P1 hP1 => ?_⟩
            obtain ⟨n1, W5⟩ := W4.new (ys := [.int 1, .int 0]) hP1
            simp only [List.mem_cons, List.not_mem_nil, or_false, not_or] at n1
            have W6 := W5.setT (ys := [.ref P0, .ref P1]) (Ne.symm nTB) (Ne.symm nTO)
            refine ⟨Td, _, _, rfl, rfl, W5.aT, sz (n := 1) (by decide), P1, _, W6, ?_, ?_⟩
            · rw [setF_ne (Ne.symm nTP), setF_ne (Ne.symm n1.2.1), setF_ne nPB, setF_same]
            · rw [setF_ne n1.1, setF_same]
          | 3, hw =>
            obtain ⟨P1, cv, W, hP, hP1⟩ := hw
            have W : Wh Z G n O B Td σ H [P1, Td, P0, O, B] cv [.bl true, .bl true] [] [.ref P0, .ref P1] := W
            have n1 := (List.nodup_cons.mp W.I.nd).1
            simp only [List.mem_cons, List.not_mem_nil, or_false, not_or] at n1
            have W1 := (W.slot 6 (some (.int 1))).slot 7 (some (.int 0))
            have l1 : σ.length = 10 := W.I.len
            have z7 : ((σ.set 6 (some (.int 1))).set 7 (some (.int 0)))[7]? = some (some (.int 0)) := List.getElem?_set_self (by rw [List.length_set]; omega)
            have z6 : ((σ.set 6 (some (.int 1))).set 7 (some (.int 0)))[6]? = some (some (.int 1)) := by rw [List.getElem?_set_ne (by decide)]; exact List.getElem?_set_self (by omega)
            refine ⟨_, W.z5, true, .inl ⟨_, SqL.of W.aT, rfl⟩, iteT ⟨fun σ H => SB Z G n O B Td P0 [] true false 1 σ H, fun _ _ z => ⟨2, by decide, z⟩, ?_⟩⟩
            refine ⟨_, W.z5, 1, rfl, Td, _, _, _, rfl, rfl, SqL.of W.aT, rfl, P1, _, rfl, SqL.of (W.atA hP1), rfl, _, _, rfl, _, _, rfl, rfl, ?_⟩
            have e8 : (((σ.set 6 (some (.int 1))).set 7 (some (.int 0))).set 8 (some (.int 1)))[8]? = some (some (.int 1)) := List.getElem?_set_self (by rw [List.length_set, List.length_set]; omega)
            have W2 := W1.other (a := P1) (ys := [.int 1, .int 1]) (by simp) (Ne.symm n1.2.2.2) (Ne.symm n1.2.2.1) (Ne.symm n1.1)
            have W3 := W2.slot 8 (some (.int 1))
            refine ⟨_, z7, _, W1.z0, _, z6, n, _, _, _, rfl, rfl, sql_ext W1.I.R.xt sq, at_1, r1, _, rfl, .inl (sql_ext W1.I.R.xt sq2), rfl, false, rfl, iteF ?_⟩
            refine ⟨_, W1.z5, 1, rfl, Td, _, _, _, rfl, rfl, SqL.of W1.aT, rfl, P1, _, 1, _, rfl, rfl, SqL.of (W1.atA hP1), by decide, rfl, _, _, rfl, rfl, P1, _, _, 1, rfl, rfl, W1.atA hP1, rfl, ?_⟩
            refine ⟨_, W2.z0, _, z6, n, _, _, _, rfl, rfl, sql_ext W2.I.R.xt sq, at_1, _, z7, r1, _, _, _, rfl, rfl, sql_ext W2.I.R.xt sq2, at_0, ?_⟩
            refine ⟨_, W3.z2, _, e8, B, _, _, _, rfl, rfl, SqL.of W3.aB, at_1, true, rfl, iteF ⟨P1, _, W3, ?_, setF_same⟩⟩
            rw [setF_ne (Ne.symm n1.2.1)]
            exact hP
          | 2, hw =>
            obtain ⟨P1, cv, W, hP, hP1⟩ := hw
            have W : Wh Z G n O B Td σ H [P1, Td, P0, O, B] cv [.bl true, .bl true] [] [.ref P0, .ref P1] := W
            have n1 := (List.nodup_cons.mp W.I.nd).1
            simp only [List.mem_cons, List.not_mem_nil, or_false, not_or] at n1
            have W1 := (W.slot 6 (some (.int 1))).slot 7 (some (.int 1))
            have l1 : σ.length = 10 := W.I.len
            have z7 : ((σ.set 6 (some (.int 1))).set 7 (some (.int 1)))[7]? = some (some (.int 1)) := List.getElem?_set_self (by rw [List.length_set]; omega)
            have z6 : ((σ.set 6 (some (.int 1))).set 7 (some (.int 1)))[6]? = some (some (.int 1)) := by rw [List.getElem?_set_ne (by decide)]; exact List.getElem?_set_self (by omega)
            refine ⟨_, W.z5, true, .inl ⟨_, SqL.of W.aT, rfl⟩, iteT ⟨fun σ H => SB Z G n O B Td P0 [.int 1] false false 1 σ H, fun _ _ z => ⟨1, by decide, z⟩, ?_⟩⟩
            refine ⟨_, W.z5, 1, rfl, Td, _, _, _, rfl, rfl, SqL.of W.aT, rfl, P1, _, rfl, SqL.of (W.atA hP1), rfl, _, _, rfl, _, _, rfl, rfl, ?_⟩
            refine ⟨_, z7, _, W1.z0, _, z6, n, _, _, _, rfl, rfl, sql_ext W1.I.R.xt sq, at_1, r1, _, rfl, .inl (sql_ext W1.I.R.xt sq2), rfl, true, rfl, iteT ?_⟩
            have W2 := W1.setO (ys := [.int 1]) (Ne.symm nOB) nTO
            have W3 := W2.setT (ys := [.ref P0]) (Ne.symm nTB) (Ne.symm nTO)
            refine ⟨_, W1.z3, .inl ⟨rfl, _, SqL.of W1.aO⟩, _, z6, O, _, _, rfl, rfl, W1.aO, sz (n := 0) (by decide), ?_⟩
            refine ⟨_, W2.z5, .inl ⟨rfl, _, SqL.of W2.aT⟩, Td, _, _, rfl, rfl, W2.aT, rfl, ?_⟩
            refine ⟨P1, _, W3, ?_, ?_⟩
            · rw [setF_ne (Ne.symm nTP), setF_ne nPO]
              exact hP
            · rw [setF_ne n1.1, setF_ne n1.2.2.1]
              exact hP1
          | 1, hw =>
            obtain ⟨P1, cv, W, hP, hP1⟩ := hw
            have W : Wh Z G n O B Td σ H [P1, Td, P0, O, B] cv [.bl true, .bl true] [.int 1] [.ref P0] := W
            have n1 := (List.nodup_cons.mp W.I.nd).1
            simp only [List.mem_cons, List.not_mem_nil, or_false, not_or] at n1
            have W1 := (W.slot 6 (some (.int 0))).slot 7 (some (.int 2))
            have l1 : σ.length = 10 := W.I.len
            have z7 : ((σ.set 6 (some (.int 0))).set 7 (some (.int 2)))[7]? = some (some (.int 2)) := List.getElem?_set_self (by rw [List.length_set]; omega)
            have z6 : ((σ.set 6 (some (.int 0))).set 7 (some (.int 2)))[6]? = some (some (.int 0)) := by rw [List.getElem?_set_ne (by decide)]; exact List.getElem?_set_self (by omega)
            refine ⟨_, W.z5, true, .inl ⟨_, SqL.of W.aT, rfl⟩, iteT ⟨fun σ H => SB Z G n O B Td P0 [.int 1, .int 0] false true 1 σ H, fun _ _ z => ⟨0, by decide, z⟩, ?_⟩⟩
            refine ⟨_, W.z5, 1, rfl, Td, _, _, _, rfl, rfl, SqL.of W.aT, rfl, P0, _, rfl, SqL.of (W.atA hP), rfl, _, _, rfl, _, _, rfl, rfl, ?_⟩
            refine ⟨_, z7, _, W1.z0, _, z6, n, _, _, _, rfl, rfl, sql_ext W1.I.R.xt sq, at_0, r0, _, rfl, .inl (sql_ext W1.I.R.xt sq1), rfl, true, rfl, iteT ?_⟩
            have W2 := W1.setO (ys := [.int 1, .int 0]) (Ne.symm nOB) nTO
            have W3 := W2.setT (ys := []) (Ne.symm nTB) (Ne.symm nTO)
            refine ⟨_, W1.z3, .inl ⟨rfl, _, SqL.of W1.aO⟩, _, z6, O, _, _, rfl, rfl, W1.aO, sz (n := 1) (by decide), ?_⟩
            refine ⟨_, W2.z5, .inl ⟨rfl, _, SqL.of W2.aT⟩, Td, _, _, rfl, rfl, W2.aT, rfl, ?_⟩
            refine ⟨P1, _, W3, ?_, ?_⟩
            · rw [setF_ne (Ne.symm nTP), setF_ne nPO]
              exact hP
            · rw [setF_ne n1.1, setF_ne n1.2.2.1]
              exact hP1
          | 0, hw =>
            obtain ⟨P1, cv, W, hP, hP1⟩ := hw
            have W : Wh Z G n O B Td σ H [P1, Td, P0, O, B] cv [.bl true, .bl true] [.int 1, .int 0] [] := W
            refine ⟨_, W.z5, false, .inl ⟨_, SqL.of W.aT, rfl⟩, iteF ?_⟩
            exact ⟨_, _, W.I, by simp, by simp, W.z0, W.z2, W.z3, .inr ⟨Nat.le_refl 1, W.hB, W.hO⟩⟩
        · obtain rfl : i = 1 := by omega
          obtain rfl : x = .int 1 := hxx
          have hb := J.at mB
          rw [hB] at hb
          refine ⟨_, y2, _, y4, B, _, _, _, rfl, rfl, SqL.of hb, at_1, true, rfl, iteT ⟨Nat.zero_le _, fun Td hTd => ?_⟩⟩
          obtain ⟨nT, J2⟩ := J.new (ys := []) hTd
          have BO : B ≠ O := fun e => by rw [e, hO] at hB; cases hB
          have nTB : Td ≠ B := fun e => nT (e ▸ mB)
          have nTO : Td ≠ O := fun e => nT (e ▸ mO)
          have J3 := J2.slot 5 (some (.ref Td))
          have W : Wh Z G n O B Td ((σ.set 4 (some (.int 1))).set 5 (some (.ref Td))) _ _ _ [.bl true, .bl true] [.int 1, .int 0] [] := ⟨J3, by rw [List.getElem?_set_ne (by decide)]; exact y0, by rw [List.getElem?_set_ne (by decide)]; exact y2, by rw [List.getElem?_set_ne (by decide)]; exact y3, List.getElem?_set_self (by rw [List.length_set]; omega), List.mem_cons_of_mem _ mB, List.mem_cons_of_mem _ mO, List.mem_cons_self, by rw [setF_ne (Ne.symm nTB)]; exact hB, by rw [setF_ne (Ne.symm nTO)]; exact hO, setF_same⟩
          refine ⟨_, W.z2, _, by rw [List.getElem?_set_ne (by decide)]; exact y4, B, _, _, 1, rfl, rfl, W.aB, rfl, ?_⟩
          have W2 := W.setB (ys := [.bl true, .bl true]) (Ne.symm BO) nTB
          refine ⟨fun m σ H => ∃ L cv, Wh Z G n O B Td σ H L cv [.bl true, .bl true] [.int 1, .int 0] [], ⟨0, _, _, W2⟩, fun m σ H hw => ?_⟩
          obtain ⟨L, cv, W⟩ := hw
          refine ⟨_, W.z5, false, .inl ⟨_, SqL.of W.aT, rfl⟩, iteF ?_⟩
          exact ⟨_, _, W.I, W.mB, W.mO, W.z0, W.z2, W.z3, .inr ⟨by decide, W.hB, W.hO⟩⟩
      · rintro σ H ⟨L, cv, I, mB, mO, z0, z2, z3, hx⟩
        rcases hx with ⟨h, _⟩ | ⟨_, hB, hO⟩
        · cases h
        refine ⟨_, z3, ?_⟩
        have lo := I.at mO
        rw [hO] at lo
        have Rl := I.R.subF (F' := lsF [O] cv) fun ⟨b, u⟩ m => by
          obtain ⟨m2, rfl⟩ := mem_lsF.mp m
          rw [List.mem_singleton.mp m2]
          exact mem_lsF.mpr ⟨mO, rfl⟩
        obtain ⟨s1, R1⟩ := Rep.land (F := []) tb (fun o m => nomatch m) Rl
        have Rq := R.pastC s1 R1.sub R1.nt fun b w => by
          rcases w with ⟨i, c, e⟩ | ⟨o, m⟩
          · match i, e with
            | 0, e => cases e
            | 1, e => cases e
          · exact absurd m List.not_mem_nil
        refine hQ (.list [.int 1, .int 0]) _ _ _ _ q (.sh (.sh .nil)) s1 Rq ?_
        refine .lst (xs := ([1, 0] : List Int).map V.int) (.inl (.inl ?_)) (dwa_ints [1, 0])
        rw [upd_same, hO]
        rfl
end
end Lw
set_option Elab.async false
set_option linter.all false
set_option maxRecDepth 100000
set_option maxHeartbeats 1000000
set_option pp.deepTerms true
set_option pp.maxSteps 200000
namespace Lw
open PySem PySem.Spec PyProof PyProof.Rows L2 So Da Dl
local macro_rules | `(tactic| walk_at "z") => `(tactic| repeat (first | refine ⟨(by decide), ?_⟩ | refine ⟨(by omega), ?_⟩ | refine ⟨rfl, ?_⟩))
section
variable {Z : Zw}
local macro_rules | `(tactic| walk_at "d") => `(tactic| simp only [↓dSeq, ↓dFor, ↓reprD, ↓dCallK, ↓dIfS, ↓dAndV, ↓dOrV, ↓dUn, ↓dOp, ↓dC, ↓dVar, ↓derefW, ↓deref, ↓known, ↓noOb, ↓nbO, ↓start0, ↓endsOf, ↓outA, ↓toB, ↓dAnd, ↓dOr, ↓dNot, ↓ofB, ↓dIf, ↓dChain, ↓dgName, ↓dgSeq, ↓dgCons, ↓dgNil, ↓dLc, ↓popW, ↓atOl, ↓isOl, ↓ownS, ↓frzD, ↓dCall, argsOf, argLc, obSlots, upS, upO, ↓noObs, ↓wipeD, List.map_cons, List.map_nil, List.length_cons, List.length_nil, Nat.sub_self, Nat.zero_add, Nat.reduceAdd, Nat.reduceSub, List.replicate, List.append_nil, List.cons_append, List.nil_append, List.getElem?_cons_zero, List.getElem?_cons_succ, List.getElem?_nil, List.set, List.head?, List.tail, Option.getD_some, Option.getD_none, List.nodup_nil, List.nodup_cons, List.not_mem_nil, List.mem_cons, List.mem_singleton, or_false, Nat.reduceEqDiff, true_and, and_true, Bool.not_true, Bool.not_false, if_true, Bool.false_eq_true, if_false, ite_true, ite_false, not_false_eq_true, reduceCtorEq, eqD_int, eqD_str, eqD_bl, eqD_tuple, eqD_list, eqD_tupleR, eqD_listR, eqD_non, neD_int, neD_str, neD_bl, neD_tuple, neD_list, neD_tupleR, neD_listR, neD_non, ↓isD, ↓notD, ix_0, ix_1, ix_2, ix_3, ix_4, ix_L0, ix_L1, ix_L2, itemsD_L, itemsD_T, tupleD_L, tupleD_T, listD_L, listD_T, lenD_L, lenD_T, lenD_S, slD_L, slD_T, addD_I, addD_S, addD_T, addD_L, subD_I, mulD_I, ltD_I, ltD_S, leD_I, gtD_I, geD_I, modD_I, fdivD_I, powD_I, intD_I, intD_B, negD_I, isND_N, isND_I, isND_S, isND_B, isND_T, isND_L, sq_T, sq_L, sq_N, sq_I, sq_S, sq_B, at_0, at_1, at_2, at_3, at_4, ↓isiD, pick, List.filterMap_cons_some, List.filterMap_nil, List.filterMap_cons, ↓ownC, ↓T1, ↓T2, ↓T3, ↓T4, ↓dHeard, ↓capsD, ↓slotsD, ↓lamW, lamSto, cpLc, ↓dHeardS, ↓dAsks, ↓asksW, ↓heardT, ↓Tbox, ↓Ttake, revD, sortSetD, dOl, isBD, ↓intW, goodD, stG, tpG, nextG, aheadG, kept2, lotsG])
local macro_rules | `(tactic| walk_at "c") => `(tactic| repeat (first | walk_at "d" | simp only [forW, lcW, en2, rep2, ix0, ix1, List.set_cons_zero, List.set_cons_succ, List.getLast?_singleton, List.dropLast_singleton, List.isEmpty_cons, List.isEmpty_nil, List.reverse_cons, List.reverse_nil, List.singleton_append]))
def oD : Option Int → PyData
  | none => .none
  | some i => .int i
/-- the good machine's steps -/
def stpG (s l : Int) : Option Int := if s = 0 then (if 0 = l then some 0 else if 1 = l then some 1 else none) else if 0 = l then some 1 else none
theorem stpG_in {s l t : Int} (h : stpG s l = some t) : t = 0 ∨ t = 1 := by
  unfold stpG at h
  repeat (first | split at h | (cases h; decide) | cases h)
abbrev T_step_of : TD := T3 fun D S L Q _ => ∃ s l : Int, D = goodD ∧ S = .int s ∧ L = .int l ∧ (s = 0 ∨ s = 1) ∧ Q (oD (stpG s l))
abbrev s_step_of : Stmt := top 27
theorem sc_step_of : FnScope ["words", "state", "letter", "other", "behind"] ["words", "state", "letter"] (defScope s_step_of) := ⟨rfl, rfl, rfl, by decide +kernel, rfl, by decide +kernel, by decide +kernel⟩
theorem ok_step_of {f : Addr} {fd : FuncData} (F : Fun Z.K "_step_of" "_step_of" s_step_of f fd) (T : Tz Z.K Z.mg) : FnD Z.Pg Z.w Z.K Z.mg Z.base CX0 1 f fd ["words", "state", "letter"] (spT Z (T_step_of)) := by
  refine okD F sc_step_of (fun as Q er h => ?_) (fun cdv A outer s H E G0 ca hr hgd hca => (dss_cons (ds_for PassesOwn.never rfl (di_seq (de_ix (dr_of (de_ix (dr_var 0) (dr_of de_int))) (dr_var 1))) (dg_seq (m := 2) rfl (dgs_cons (dg_name (i := 3) sc_step_of.nd rfl (Or.inl rfl)) (dgs_cons (dg_name (i := 4) sc_step_of.nd rfl (Or.inl rfl)) dgs_nil)))
        (dss_one (ds_if (dt_cmp (op_eqA hr.units) od_eq (dr_var 3) (dr_var 2) (nomark _))
          (dss_one (ds_ret (de_var 4)))
          dss_nil)))
      (dss_one (ds_ret de_non)))) (fun ca as Q er h => ?_)
  · obtain ⟨_, _, _, rfl, _⟩ := t3_inv h
    rfl
  · obtain ⟨a, b, c, rfl, q⟩ := t3_inv h
    obtain ⟨s, l, rfl, rfl, rfl, hs, q⟩ := q
    unfold stpG at q
    rcases hs with rfl | rfl
    · walk_at "c"
      rw [if_pos rfl] at q
      by_cases h0 : 0 = l
      · rw [if_pos h0] at q
        rw [if_pos (decide_eq_true h0)]
        exact q
      · rw [if_neg h0] at q
        rw [if_neg (fun h => h0 (of_decide_eq_true h))]
        by_cases h1 : 1 = l
        · rw [if_pos h1] at q
          rw [if_pos (decide_eq_true h1)]
          exact q
        · rw [if_neg h1] at q
          rw [if_neg (fun h => h1 (of_decide_eq_true h))]
          exact q
    · walk_at "c"
      rw [if_neg (by decide)] at q
      by_cases h0 : 0 = l
      · rw [if_pos h0] at q
        rw [if_pos (decide_eq_true h0)]
        exact q
      · rw [if_neg h0] at q
        rw [if_neg (fun h => h0 (of_decide_eq_true h))]
        exact q
def ledG : Int → List PyData → Option Int
  | s, [] => some s
  | s, d :: ds => match d with
    | .int l => if 0 ≤ l then (match stpG s l with
      | some t => ledG t ds
      | none => none) else none
    | _ => none
def ledD (s : Int) (V : PyData) : Option Int := if isSq V = true then ledG s (itD V) else none
abbrev T_led_by : TD := T3 fun D S V Q _ => ∃ s : Int, D = goodD ∧ S = .int s ∧ (s = 0 ∨ s = 1) ∧ Q (oD (ledD s V))
abbrev s_led_by : Stmt := top 31
theorem sc_led_by : FnScope ["words", "state", "letters", "led", "letter"] ["words", "state", "letters"] (defScope s_led_by) := ⟨rfl, rfl, rfl, by decide +kernel, rfl, by decide +kernel, by decide +kernel⟩
theorem ok_led_by {f : Addr} {fd : FuncData} (F : Fun Z.K "_led_by" "_led_by" s_led_by f fd) (T : Tz Z.K Z.mg)
    {f_is_sequence : Addr} {fd_is_sequence : FuncData} (D_is_sequence : Df Z.K Z.mg "is_sequence" s_is_sequence ["value"] f_is_sequence fd_is_sequence) (G_is_sequence : FnD Z.Pg Z.w Z.K Z.mg Z.base CX0 1 f_is_sequence fd_is_sequence ["value"] (spT Z (T_is_sequence)))
    {f_is_number : Addr} {fd_is_number : FuncData} (D_is_number : Df Z.K Z.mg "is_number" s_is_number ["value"] f_is_number fd_is_number) (G_is_number : FnD Z.Pg Z.w Z.K Z.mg Z.base CX0 1 f_is_number fd_is_number ["value"] (spT Z (T_is_number)))
    {f_step_of : Addr} {fd_step_of : FuncData} (D_step_of : Df Z.K Z.mg "_step_of" s_step_of ["words", "state", "letter"] f_step_of fd_step_of) (G_step_of : FnD Z.Pg Z.w Z.K Z.mg Z.base CX0 1 f_step_of fd_step_of ["words", "state", "letter"] (spT Z (T_step_of))) : FnD Z.Pg Z.w Z.K Z.mg Z.base CX0 2 f fd ["words", "state", "letters"] (spT Z (T_led_by)) := by
  refine okD F sc_led_by (fun as Q er h => ?_) (fun cdv A outer s H E G0 ca hr hgd hca => (dss_cons (ds_if (dt_not (dt_val (de_call G_is_sequence hr hgd (by rfl) D_is_sequence.g D_is_sequence.F.kp D_is_sequence.b (drs_cons (dr_var 2) drs_nil))))
        (dss_one (ds_ret de_non))
        dss_nil)
      (dss_cons (ds_set (i := 3) sc_led_by.nd rfl (Or.inl rfl) (de_var 1))
      (dss_cons (ds_for PassesOwn.never rfl (di_seq (de_var 2)) (dg_name (i := 4) sc_led_by.nd rfl (Or.inl rfl))
        (dss_cons (ds_set (i := 3) sc_led_by.nd rfl (Or.inl rfl) (de_if (dt_val (de_call G_is_number hr hgd (by rfl) D_is_number.g D_is_number.F.kp D_is_number.b (drs_cons (dr_var 4) drs_nil))) (de_call G_step_of hr hgd (by rfl) D_step_of.g D_step_of.F.kp D_step_of.b (drs_cons (dr_var 0) (drs_cons (dr_var 3) (drs_cons (dr_var 4) drs_nil)))) de_non))
        (dss_one (ds_if (dt_cmp op_isN od_is (dr_var 3) (dr_of de_non) (nomark _))
          (dss_one (ds_ret de_non))
          dss_nil))))
      (dss_one (ds_ret (de_var 3))))))) (fun ca as Q er h => ?_)
  · obtain ⟨_, _, _, rfl, _⟩ := t3_inv h
    rfl
  · obtain ⟨a, b, c, rfl, q⟩ := t3_inv h
    obtain ⟨s, rfl, rfl, hs, q⟩ := q
    walk_at "d"
    unfold ledD at q
    cases hc : isSq c with
    | false =>
      rw [hc, if_neg (by decide)] at q
      rw [if_pos (by rfl)]
      exact q
    | true =>
      rw [hc, if_pos rfl] at q
      rw [if_neg (by decide)]
      refine hiD' hc ?_
      refine forW_go (fun ds ρ => ∃ (t : Int) (s4 : Lc), ρ = [.sh goodD, .sh (.int s), .sh c, .sh (.int t), s4] ∧ (t = 0 ∨ t = 1) ∧ nbO (some s4) ∧ ledG s (itD c) = ledG t ds) ?_ ?_ _ _ ⟨s, .un, rfl, hs, trivial, rfl⟩
      · rintro ρ ⟨t, s4, rfl, ht, n4, e⟩
        rw [e] at q
        walk_at "d"
        exact q
      · rintro K d ds ρ ⟨t, s4, rfl, ht, n4, e⟩ ih
        have no : ledG t (d :: ds) = none → Q .none [.sh goodD, .sh (.int s), .sh c] := fun h => by
          rw [e, h] at q
          exact q
        walk_at "d"
        refine ⟨n4, ?_⟩
        cases hd : numB d with
        | false =>
          rw [if_neg (by decide)]
          refine no ?_
          unfold ledG
          cases d <;> first | rfl | skip
          rename_i l
          have : ¬ 0 ≤ l := fun h => by rw [show numB (.int l) = decide (0 ≤ l) from rfl, decide_eq_true h] at hd; cases hd
          dsimp only
          rw [if_neg this]
        | true =>
          obtain ⟨l, rfl⟩ : ∃ i, d = .int i := by
            cases d <;> first | exact ⟨_, rfl⟩ | cases hd
          have hl : 0 ≤ l := of_decide_eq_true hd
          rw [if_pos rfl]
          refine ⟨t, l, rfl, rfl, ht, ?_⟩
          have eu : ledG t (.int l :: ds) = match stpG t l with
            | some t => ledG t ds
            | none => none := by
            conv => lhs; unfold ledG
            dsimp only
            rw [if_pos hl]
          cases es : stpG t l with
          | none =>
            rw [es] at eu
            rw [if_pos (show isND (oD none) = true from rfl)]
            exact no eu
          | some u =>
            rw [es] at eu
            rw [if_neg (show ¬ isND (oD (some u)) = true from Bool.false_ne_true)]
            exact ih _ ⟨u, .sh (.int l), rfl, stpG_in es, trivial, by rw [e, eu]⟩
theorem ledG_in : ∀ {ds : List PyData} {s t : Int}, (s = 0 ∨ s = 1) → ledG s ds = some t → t = 0 ∨ t = 1
  | [], s, t, h, e => by
    have e : some s = some t := e
    cases e
    exact h
  | d :: ds, s, t, h, e => by
    unfold ledG at e
    split at e
    · split at e
      · split at e
        · rename_i hs
          exact ledG_in (stpG_in hs) e
        · cases e
      · cases e
    · cases e
theorem ledD_in {V : PyData} {s t : Int} (h : s = 0 ∨ s = 1) (e : ledD s V = some t) : t = 0 ∨ t = 1 := by
  unfold ledD at e
  split at e
  · exact ledG_in h e
  · cases e
abbrev T_leads_to_tops : TD := T3 fun D S V Q _ => ∃ s : Int, D = goodD ∧ S = .int s ∧ (s = 0 ∨ s = 1) ∧ Q (.bool (ledD s V).isSome)
abbrev s_leads_to_tops : Stmt := top 32
theorem sc_leads_to_tops : FnScope ["words", "state", "letters", "led"] ["words", "state", "letters"] (defScope s_leads_to_tops) := ⟨rfl, rfl, rfl, by decide +kernel, rfl, by decide +kernel, by decide +kernel⟩
theorem ok_leads_to_tops {f : Addr} {fd : FuncData} (F : Fun Z.K "_leads_to_tops" "_leads_to_tops" s_leads_to_tops f fd) (T : Tz Z.K Z.mg)
    {f_led_by : Addr} {fd_led_by : FuncData} (D_led_by : Df Z.K Z.mg "_led_by" s_led_by ["words", "state", "letters"] f_led_by fd_led_by) (G_led_by : FnD Z.Pg Z.w Z.K Z.mg Z.base CX0 2 f_led_by fd_led_by ["words", "state", "letters"] (spT Z (T_led_by))) : FnD Z.Pg Z.w Z.K Z.mg Z.base CX0 3 f fd ["words", "state", "letters"] (spT Z (T_leads_to_tops)) := by
  refine okD F sc_leads_to_tops (fun as Q er h => ?_) (fun cdv A outer s H E G0 ca hr hgd hca => (dss_cons (ds_set (i := 3) sc_leads_to_tops.nd rfl (Or.inl rfl) (de_call G_led_by hr hgd (by rfl) D_led_by.g D_led_by.F.kp D_led_by.b (drs_cons (dr_var 0) (drs_cons (dr_var 1) (drs_cons (dr_var 2) drs_nil)))))
      (dss_one (ds_ret (de_and (de_cmp op_notN od_isnot (dr_var 3) (dr_of de_non) (nomark _)) (de_one (de_cmp op_gt od_gt (dr_of (de_callB call_lenA cd_len (by rfl) T.len (by decide +kernel) (dr_of (de_ix (dr_of (de_ix (dr_var 0) (dr_of de_int))) (dr_var 3))))) (dr_of de_int) (nomark _)))))))) (fun ca as Q er h => ?_)
  · obtain ⟨_, _, _, rfl, _⟩ := t3_inv h
    rfl
  · obtain ⟨a, b, c, rfl, q⟩ := t3_inv h
    obtain ⟨s, rfl, rfl, hs, q⟩ := q
    walk_at "d"
    refine ⟨s, rfl, hs, ?_⟩
    cases e : ledD s c with
    | none =>
      rw [e] at q
      rw [if_neg (show ¬ (!isND (oD none)) = true by decide)]
      exact q
    | some t =>
      rw [e] at q
      rw [if_pos (show (!isND (oD (some t))) = true from rfl)]
      rcases ledD_in hs e with rfl | rfl
      · unfold oD
        walk_at "d"
        exact q
      · unfold oD
        walk_at "d"
        exact q
theorem led0 : ledD 0 (.tuple []) = some 0 := rfl
theorem led1 : ledD 0 (.tuple [.int 0]) = some 0 := rfl
theorem led2 : ledD 0 (.tuple [.int 1]) = some 1 := rfl
theorem led3 : ledD 0 .none = none := rfl
theorem led4 : ledD 0 (.tuple [.none]) = none := rfl
theorem oD1 {i : Int} : oD (some i) = .int i := rfl
theorem oD0 : oD none = .none := rfl
def papL : List PyData := [.none, .int 5, .tuple [], .tuple [.str "row"], .tuple [.str "row", .tuple [], .none], .tuple [.str "row", .none, .tuple []], .tuple [.str "row", .list [.tuple [.tuple [], .tuple []]], .tuple []], .tuple [.str "row", .list [.tuple [.tuple []]], .tuple []], .tuple [.str "Row", .tuple [], .tuple []],
  .tuple [.str "two", .tuple [], .tuple [.int 0], .tuple [.int 0], .tuple []], .tuple [.str "two", .tuple [], .tuple [.int 0], .tuple [.int 1], .tuple []], .tuple [.str "two", .tuple [], .none, .tuple [.int 1], .tuple []], .tuple [.str "two", .tuple []], .list [.str "row", .list [.list [.tuple [.none], .tuple [.int 0]]], .list []], .str "row"]
abbrev T_is_two_paper : TD := T2 fun D V Q _ => D = goodD ∧ V ∈ papL ∧ Q (.bool false)
abbrev s_is_two_paper : Stmt := top 33
theorem sc_is_two_paper : FnScope ["words", "value", "_", "way", "one", "other", "end", "state"] ["words", "value"] (defScope s_is_two_paper) := ⟨rfl, rfl, rfl, by decide +kernel, rfl, by decide +kernel, by decide +kernel⟩
theorem ok_is_two_paper {f : Addr} {fd : FuncData} (F : Fun Z.K "is_two_paper" "is_two_paper" s_is_two_paper f fd) (T : Tz Z.K Z.mg)
    {f_is_row_of : Addr} {fd_is_row_of : FuncData} (D_is_row_of : Df Z.K Z.mg "is_row_of" s_is_row_of ["value", "many"] f_is_row_of fd_is_row_of) (G_is_row_of : FnD Z.Pg Z.w Z.K Z.mg Z.base CX0 3 f_is_row_of fd_is_row_of ["value", "many"] (spT Z (T_is_row_of)))
    {f_led_by : Addr} {fd_led_by : FuncData} (D_led_by : Df Z.K Z.mg "_led_by" s_led_by ["words", "state", "letters"] f_led_by fd_led_by) (G_led_by : FnD Z.Pg Z.w Z.K Z.mg Z.base CX0 3 f_led_by fd_led_by ["words", "state", "letters"] (spT Z (T_led_by)))
    {f_leads_to_tops : Addr} {fd_leads_to_tops : FuncData} (D_leads_to_tops : Df Z.K Z.mg "_leads_to_tops" s_leads_to_tops ["words", "state", "letters"] f_leads_to_tops fd_leads_to_tops) (G_leads_to_tops : FnD Z.Pg Z.w Z.K Z.mg Z.base CX0 3 f_leads_to_tops fd_leads_to_tops ["words", "state", "letters"] (spT Z (T_leads_to_tops))) : FnD Z.Pg Z.w Z.K Z.mg Z.base CX0 4 f fd ["words", "value"] (spT Z (T_is_two_paper)) := by
  refine okD F sc_is_two_paper (fun as Q er h => ?_) (fun cdv A outer s H E G0 ca hr hgd hca => (dss_cons (ds_if (DW.dt (dw_or (dt_not (dt_val (de_call G_is_row_of hr hgd (by rfl) D_is_row_of.g D_is_row_of.F.kp D_is_row_of.b (drs_cons (dr_var 1) (drs_cons (dr_of de_int) drs_nil))))) (dw_or1 (dt_cmp (op_neA hr.units) od_ne (dr_of (de_ix (dr_var 1) (dr_of de_int))) (dr_of de_str) (nomark _)))))
        (dss_one (ds_ret de_bl))
        dss_nil)
      (dss_cons (ds_asg (de_var 1) (dg_seq (m := 5) rfl (dgs_cons (dg_name (i := 2) sc_is_two_paper.nd rfl (Or.inl rfl)) (dgs_cons (dg_name (i := 3) sc_is_two_paper.nd rfl (Or.inl rfl)) (dgs_cons (dg_name (i := 4) sc_is_two_paper.nd rfl (Or.inl rfl)) (dgs_cons (dg_name (i := 5) sc_is_two_paper.nd rfl (Or.inl rfl)) (dgs_cons (dg_name (i := 6) sc_is_two_paper.nd rfl (Or.inl rfl)) dgs_nil)))))))
      (dss_cons (ds_set (i := 7) sc_is_two_paper.nd rfl (Or.inl rfl) (de_call G_led_by hr hgd (by rfl) D_led_by.g D_led_by.F.kp D_led_by.b (drs_cons (dr_var 0) (drs_cons (dr_of (de_ix (dr_var 0) (dr_of de_int))) (drs_cons (dr_var 3) drs_nil)))))
      (dss_cons (ds_if (DW.dt (dw_or (dt_cmp op_isN od_is (dr_var 7) (dr_of de_non) (nomark _)) (dw_or (dt_cmp (op_neA hr.units) od_ne (dr_of (de_call G_led_by hr hgd (by rfl) D_led_by.g D_led_by.F.kp D_led_by.b (drs_cons (dr_var 0) (drs_cons (dr_var 7) (drs_cons (dr_var 4) drs_nil))))) (dr_var 7) (nomark _)) (dw_or1 (dt_cmp (op_neA hr.units) od_ne (dr_of (de_call G_led_by hr hgd (by rfl) D_led_by.g D_led_by.F.kp D_led_by.b (drs_cons (dr_var 0) (drs_cons (dr_var 7) (drs_cons (dr_var 5) drs_nil))))) (dr_var 7) (nomark _))))))
        (dss_one (ds_ret de_bl))
        dss_nil)
      (dss_one (ds_ret (de_and (de_cmp (op_eqA hr.units) od_eq (dr_of (de_callB call_lenA cd_len (by rfl) T.len (by decide +kernel) (dr_var 4))) (dr_of (de_callB call_lenA cd_len (by rfl) T.len (by decide +kernel) (dr_var 5))) (nomark _)) (de_and (de_cmp (op_neA hr.units) od_ne (dr_of (de_callTy call_tupleF cd_tuple (by rfl) T.tuple (by decide +kernel) (dr_var 4))) (dr_of (de_callTy call_tupleF cd_tuple (by rfl) T.tuple (by decide +kernel) (dr_var 5))) (nomark _)) (de_one (de_call G_leads_to_tops hr hgd (by rfl) D_leads_to_tops.g D_leads_to_tops.F.kp D_leads_to_tops.b (drs_cons (dr_var 0) (drs_cons (dr_var 7) (drs_cons (dr_var 6) drs_nil)))))))))))))) (fun ca as Q er h => ?_)
  · obtain ⟨_, _, rfl, _⟩ := t2_inv h
    rfl
  · obtain ⟨a, b, rfl, q⟩ := t2_inv h
    obtain ⟨rfl, hv, q⟩ := q
    unfold papL at hv
    simp only [List.mem_cons, List.not_mem_nil, or_false] at hv
    rcases hv with rfl | rfl | rfl | rfl | rfl | rfl | rfl | rfl | rfl | rfl | rfl | rfl | rfl | rfl | rfl
    all_goals walk_at "d"
    all_goals (try (rw [if_pos (by decide)]; exact q))
    all_goals rw [if_neg (by decide), if_neg (by decide)]
    all_goals refine ⟨0, rfl, .inl rfl, ?_⟩
    all_goals simp only [led0, oD1]
    all_goals walk_at "d"
    all_goals refine ⟨0, rfl, .inl rfl, ?_⟩
    · simp only [led1, oD1]
      walk_at "d"
      rw [if_neg (by decide)]
      refine ⟨0, rfl, .inl rfl, ?_⟩
      simp only [led1, oD1]
      walk_at "d"
      rw [if_neg (by decide), if_pos (by decide)]
      refine ⟨by decide +kernel, by decide +kernel, ?_⟩
      rw [if_neg (by decide +kernel)]
      exact q
    · simp only [led1, oD1]
      walk_at "d"
      rw [if_neg (by decide)]
      refine ⟨0, rfl, .inl rfl, ?_⟩
      simp only [led2, oD1]
      walk_at "d"
      rw [if_pos (by decide)]
      exact q
    · simp only [led3, oD0]
      walk_at "d"
      refine ⟨by decide +kernel, by decide +kernel, ?_⟩
      rw [if_pos (by decide +kernel)]
      exact q
abbrev T_is_row_paper : TD := T2 fun D V Q _ => D = goodD ∧ V ∈ papL ∧ Q (.bool false)
abbrev s_is_row_paper : Stmt := top 34
theorem sc_is_row_paper : FnScope ["words", "value", "numbers", "state", "ahead", "pair"] ["words", "value"] (defScope s_is_row_paper) := ⟨rfl, rfl, rfl, by decide +kernel, rfl, by decide +kernel, by decide +kernel⟩
theorem ok_is_row_paper {f : Addr} {fd : FuncData} (F : Fun Z.K "is_row_paper" "is_row_paper" s_is_row_paper f fd) (T : Tz Z.K Z.mg)
    {f_is_row_of : Addr} {fd_is_row_of : FuncData} (D_is_row_of : Df Z.K Z.mg "is_row_of" s_is_row_of ["value", "many"] f_is_row_of fd_is_row_of) (G_is_row_of : FnD Z.Pg Z.w Z.K Z.mg Z.base CX0 3 f_is_row_of fd_is_row_of ["value", "many"] (spT Z (T_is_row_of)))
    {f_is_sequence : Addr} {fd_is_sequence : FuncData} (D_is_sequence : Df Z.K Z.mg "is_sequence" s_is_sequence ["value"] f_is_sequence fd_is_sequence) (G_is_sequence : FnD Z.Pg Z.w Z.K Z.mg Z.base CX0 3 f_is_sequence fd_is_sequence ["value"] (spT Z (T_is_sequence)))
    {f_lot_numbers : Addr} {fd_lot_numbers : FuncData} (D_lot_numbers : Df Z.K Z.mg "lot_numbers" s_lot_numbers ["nexts", "kept"] f_lot_numbers fd_lot_numbers) (G_lot_numbers : FnD Z.Pg Z.w Z.K Z.mg Z.base CX0 3 f_lot_numbers fd_lot_numbers ["nexts", "kept"] (spT Z (T_lot_numbers)))
    {f_next_states : Addr} {fd_next_states : FuncData} (D_next_states : Df Z.K Z.mg "next_states" s_next_states ["words"] f_next_states fd_next_states) (G_next_states : FnD Z.Pg Z.w Z.K Z.mg Z.base CX0 3 f_next_states fd_next_states ["words"] (spT Z (T_next_states)))
    {f_led_by : Addr} {fd_led_by : FuncData} (D_led_by : Df Z.K Z.mg "_led_by" s_led_by ["words", "state", "letters"] f_led_by fd_led_by) (G_led_by : FnD Z.Pg Z.w Z.K Z.mg Z.base CX0 3 f_led_by fd_led_by ["words", "state", "letters"] (spT Z (T_led_by)))
    {f_leads_to_tops : Addr} {fd_leads_to_tops : FuncData} (D_leads_to_tops : Df Z.K Z.mg "_leads_to_tops" s_leads_to_tops ["words", "state", "letters"] f_leads_to_tops fd_leads_to_tops) (G_leads_to_tops : FnD Z.Pg Z.w Z.K Z.mg Z.base CX0 3 f_leads_to_tops fd_leads_to_tops ["words", "state", "letters"] (spT Z (T_leads_to_tops))) : FnD Z.Pg Z.w Z.K Z.mg Z.base CX0 4 f fd ["words", "value"] (spT Z (T_is_row_paper)) := by
  refine okD F sc_is_row_paper (fun as Q er h => ?_) (fun cdv A outer s H E G0 ca hr hgd hca => (dss_cons (ds_if (DW.dt (dw_or (dt_not (dt_val (de_call G_is_row_of hr hgd (by rfl) D_is_row_of.g D_is_row_of.F.kp D_is_row_of.b (drs_cons (dr_var 1) (drs_cons (dr_of de_int) drs_nil))))) (dw_or (dt_cmp (op_neA hr.units) od_ne (dr_of (de_ix (dr_var 1) (dr_of de_int))) (dr_of de_str) (nomark _)) (dw_or1 (dt_not (dt_val (de_call G_is_sequence hr hgd (by rfl) D_is_sequence.g D_is_sequence.F.kp D_is_sequence.b (drs_cons (dr_of (de_ix (dr_var 1) (dr_of de_int))) drs_nil))))))))
        (dss_one (ds_ret de_bl))
        dss_nil)
      (dss_cons (ds_set (i := 2) sc_is_row_paper.nd rfl (Or.inl rfl) (de_call G_lot_numbers hr hgd (by rfl) D_lot_numbers.g D_lot_numbers.F.kp D_lot_numbers.b (drs_cons (dr_of (de_call G_next_states hr hgd (by rfl) D_next_states.g D_next_states.F.kp D_next_states.b (drs_cons (dr_var 0) drs_nil))) (drs_cons (dr_of (de_of_df (df_rep de_bl (de_ix (dr_var 0) (dr_of de_int))))) drs_nil))))
      (dss_cons (ds_set (i := 3) sc_is_row_paper.nd rfl (Or.inl rfl) (de_ix (dr_var 0) (dr_of de_int)))
      (dss_cons (ds_set (i := 4) sc_is_row_paper.nd rfl (Or.inl rfl) de_non)
      (dss_cons (ds_for PassesOwn.never rfl (di_seq (de_ix (dr_var 1) (dr_of de_int))) (dg_name (i := 5) sc_is_row_paper.nd rfl (Or.inl rfl))
        (dss_cons (ds_if (dt_not (dt_val (de_call G_is_row_of hr hgd (by rfl) D_is_row_of.g D_is_row_of.F.kp D_is_row_of.b (drs_cons (dr_var 5) (drs_cons (dr_of de_int) drs_nil)))))
          (dss_one (ds_ret de_bl))
          dss_nil)
        (dss_cons (ds_set (i := 3) sc_is_row_paper.nd rfl (Or.inl rfl) (de_call G_led_by hr hgd (by rfl) D_led_by.g D_led_by.F.kp D_led_by.b (drs_cons (dr_var 0) (drs_cons (dr_var 3) (drs_cons (dr_of (de_ix (dr_var 5) (dr_of de_int))) drs_nil)))))
        (dss_cons (ds_if (DW.dt (dw_or (dt_cmp op_isN od_is (dr_var 3) (dr_of de_non) (nomark _)) (dw_or (dt_cmp (op_neA hr.units) od_ne (dr_of (de_call G_led_by hr hgd (by rfl) D_led_by.g D_led_by.F.kp D_led_by.b (drs_cons (dr_var 0) (drs_cons (dr_var 3) (drs_cons (dr_of (de_ix (dr_var 5) (dr_of de_int))) drs_nil))))) (dr_var 3) (nomark _)) (dw_or1 (dt_cmp (op_eqA hr.units) od_eq (dr_of (de_callB call_lenA cd_len (by rfl) T.len (by decide +kernel) (dr_of (de_ix (dr_var 5) (dr_of de_int))))) (dr_of de_int) (nomark _))))))
          (dss_one (ds_ret de_bl))
          dss_nil)
        (dss_cons (ds_if (dt_cmp (op_eqA hr.units) od_eq (dr_of (de_ix (dr_var 2) (dr_var 3))) (dr_var 4) (nomark _))
          (dss_one (ds_ret de_bl))
          dss_nil)
        (dss_one (ds_set (i := 4) sc_is_row_paper.nd rfl (Or.inl rfl) (de_ix (dr_var 2) (dr_var 3)))))))))
      (dss_one (ds_ret (de_call G_leads_to_tops hr hgd (by rfl) D_leads_to_tops.g D_leads_to_tops.F.kp D_leads_to_tops.b (drs_cons (dr_var 0) (drs_cons (dr_var 3) (drs_cons (dr_of (de_ix (dr_var 1) (dr_of de_int))) drs_nil)))))))))))) (fun ca as Q er h => ?_)
  · obtain ⟨_, _, rfl, _⟩ := t2_inv h
    rfl
  · obtain ⟨a, b, rfl, q⟩ := t2_inv h
    obtain ⟨rfl, hv, q⟩ := q
    unfold papL at hv
    simp only [List.mem_cons, List.not_mem_nil, or_false] at hv
    rcases hv with rfl | rfl | rfl | rfl | rfl | rfl | rfl | rfl | rfl | rfl | rfl | rfl | rfl | rfl | rfl
    all_goals walk_at "c"
    all_goals (try (rw [if_pos (by decide)]; exact q))
    all_goals (try rw [if_neg (by decide)])
    all_goals (try (rw [if_pos (by decide)]; exact q))
    all_goals (try rw [if_neg (by decide)])
    all_goals (try (rw [if_pos (by decide)]; exact q))
    all_goals (try exact q)
    all_goals refine ⟨by decide, by decide, by decide, rfl, ?_⟩
    · exact ⟨0, rfl, .inl rfl, q⟩
    · rw [if_neg (by decide)]
      refine ⟨0, rfl, .inl rfl, ?_⟩
      simp only [led0, oD1]
      walk_at "d"
      refine ⟨0, rfl, .inl rfl, ?_⟩
      simp only [led0, oD1]
      walk_at "d"
      rw [if_neg (by decide), if_pos (by decide)]
      exact q
    · rw [if_pos (by decide)]
      exact q
    · rw [if_neg (by decide)]
      refine ⟨0, rfl, .inl rfl, ?_⟩
      simp only [led4, oD0]
      walk_at "d"
      exact q
abbrev T_grows_holds (R : Addr) : TD := T2 fun D V Q er => BadW R D er ∨ (D = goodD ∧ V ∈ papL ∧ Q (.bool false))
abbrev s_grows_holds : Stmt := top 58
theorem sc_grows_holds : FnScope ["words", "value", "checked"] ["words", "value"] (defScope s_grows_holds) := ⟨rfl, rfl, rfl, by decide +kernel, rfl, by decide +kernel, by decide +kernel⟩
theorem ok_grows_holds {f : Addr} {fd : FuncData} (F : Fun Z.K "grows_holds" "grows_holds" s_grows_holds f fd) (T : Tz Z.K Z.mg) {C_Refused : Addr}
    {f_check_words_machine : Addr} {fd_check_words_machine : FuncData} (D_check_words_machine : Df Z.K Z.mg "check_words_machine" s_check_words_machine ["value"] f_check_words_machine fd_check_words_machine) (G_check_words_machine : FnD Z.Pg Z.w Z.K Z.mg Z.base (L2.CX Z.Pg Z.w) 5 f_check_words_machine fd_check_words_machine ["value"] (spT Z (T_check_words_machine C_Refused)))
    {f_is_two_paper : Addr} {fd_is_two_paper : FuncData} (D_is_two_paper : Df Z.K Z.mg "is_two_paper" s_is_two_paper ["words", "value"] f_is_two_paper fd_is_two_paper) (G_is_two_paper : FnD Z.Pg Z.w Z.K Z.mg Z.base CX0 5 f_is_two_paper fd_is_two_paper ["words", "value"] (spT Z (T_is_two_paper)))
    {f_is_row_paper : Addr} {fd_is_row_paper : FuncData} (D_is_row_paper : Df Z.K Z.mg "is_row_paper" s_is_row_paper ["words", "value"] f_is_row_paper fd_is_row_paper) (G_is_row_paper : FnD Z.Pg Z.w Z.K Z.mg Z.base CX0 5 f_is_row_paper fd_is_row_paper ["words", "value"] (spT Z (T_is_row_paper))) : FnD Z.Pg Z.w Z.K Z.mg Z.base (L2.CX Z.Pg Z.w) 6 f fd ["words", "value"] (spT Z (T_grows_holds C_Refused)) := by
  refine okDX F sc_grows_holds (fun as Q er h => ?_) (fun cdv A outer s H E G0 er ca hE hr hgd hca => (dss_cons (ds_set (i := 2) sc_grows_holds.nd rfl (Or.inl rfl) (de_callX hE (passes_call (takes_of rfl rfl rfl rfl) fun _ _ _ _ h => h) G_check_words_machine hr hgd (by rfl) D_check_words_machine.g D_check_words_machine.F.kp D_check_words_machine.b (drs_cons (dr_var 0) drs_nil)))
      (dss_one (ds_ret (de_or (de_call G_is_two_paper hr hgd (by rfl) D_is_two_paper.g D_is_two_paper.F.kp D_is_two_paper.b (drs_cons (dr_var 2) (drs_cons (dr_var 1) drs_nil))) (de_one (de_call G_is_row_paper hr hgd (by rfl) D_is_row_paper.g D_is_row_paper.F.kp D_is_row_paper.b (drs_cons (dr_var 2) (drs_cons (dr_var 1) drs_nil))))))))) (fun ca as Q er h => ?_)
  · obtain ⟨_, _, rfl, _⟩ := t2_inv h
    rfl
  · obtain ⟨a, b, rfl, q⟩ := t2_inv h
    walk_at "d"
    rcases q with h | ⟨rfl, hv, q⟩
    · exact .inl h
    · exact .inr ⟨rfl, hv, hv, q⟩
end
end Lw
set_option Elab.async false
set_option linter.all false
set_option maxRecDepth 100000
set_option maxHeartbeats 1000000
set_option pp.deepTerms true
set_option pp.maxSteps 200000
namespace Lw
open PySem PySem.Spec PyProof PyProof.Rows L2 So Da Dl
local macro_rules | `(tactic| walk_at "z") => `(tactic| repeat (first | refine ⟨(by decide), ?_⟩ | refine ⟨(by omega), ?_⟩ | refine ⟨rfl, ?_⟩))
section
variable {Z : Zw}
local macro_rules | `(tactic| walk_at "d") => `(tactic| simp only [↓dSeq, ↓dFor, ↓reprD, ↓dCallK, ↓dIfS, ↓dAndV, ↓dOrV, ↓dUn, ↓dOp, ↓dC, ↓dVar, ↓derefW, ↓deref, ↓known, ↓noOb, ↓nbO, ↓start0, ↓endsOf, ↓outA, ↓toB, ↓dAnd, ↓dOr, ↓dNot, ↓ofB, ↓dIf, ↓dChain, ↓dgName, ↓dgSeq, ↓dgCons, ↓dgNil, ↓dLc, ↓popW, ↓atOl, ↓isOl, ↓ownS, ↓frzD, ↓dCall, argsOf, argLc, obSlots, upS, upO, ↓noObs, ↓wipeD, List.map_cons, List.map_nil, List.length_cons, List.length_nil, Nat.sub_self, Nat.zero_add, Nat.reduceAdd, Nat.reduceSub, List.replicate, List.append_nil, List.cons_append, List.nil_append, List.getElem?_cons_zero, List.getElem?_cons_succ, List.getElem?_nil, List.set, List.head?, List.tail, Option.getD_some, Option.getD_none, List.nodup_nil, List.nodup_cons, List.not_mem_nil, List.mem_cons, List.mem_singleton, or_false, Nat.reduceEqDiff, true_and, and_true, Bool.not_true, Bool.not_false, if_true, Bool.false_eq_true, if_false, ite_true, ite_false, not_false_eq_true, reduceCtorEq, eqD_int, eqD_str, eqD_bl, eqD_tuple, eqD_list, eqD_tupleR, eqD_listR, eqD_non, neD_int, neD_str, neD_bl, neD_tuple, neD_list, neD_tupleR, neD_listR, neD_non, ↓isD, ↓notD, ix_0, ix_1, ix_2, ix_3, ix_4, ix_L0, ix_L1, ix_L2, itemsD_L, itemsD_T, tupleD_L, tupleD_T, listD_L, listD_T, lenD_L, lenD_T, lenD_S, slD_L, slD_T, addD_I, addD_S, addD_T, addD_L, subD_I, mulD_I, ltD_I, ltD_S, leD_I, gtD_I, geD_I, modD_I, fdivD_I, powD_I, intD_I, intD_B, negD_I, isND_N, isND_I, isND_S, isND_B, isND_T, isND_L, sq_T, sq_L, sq_N, sq_I, sq_S, sq_B, at_0, at_1, at_2, at_3, at_4, ↓isiD, pick, List.filterMap_cons_some, List.filterMap_nil, List.filterMap_cons, ↓ownC, ↓T1, ↓T2, ↓T3, ↓T4, ↓dHeard, ↓capsD, ↓slotsD, ↓lamW, lamSto, cpLc, ↓dHeardS, ↓dAsks, ↓asksW, ↓heardT, ↓Tbox, ↓Ttake, revD, sortSetD, dOl, isBD, ↓intW, goodD, stG, tpG, nextG, aheadG, kept2, lotsG])
local macro_rules | `(tactic| walk_at "c") => `(tactic| repeat (first | walk_at "d" | simp only [forW, lcW, en2, rep2, ix0, ix1, List.set_cons_zero, List.set_cons_succ, List.getLast?_singleton, List.dropLast_singleton, List.isEmpty_cons, List.isEmpty_nil, List.reverse_cons, List.reverse_nil, List.singleton_append]))
def rnkL : List PyData := [.tuple [.int 2, .int 0, .int 0], .tuple [.int 1, .int 0, .int 0], .list [.int 2, .int 0, .int 0], .list [.int 1, .int 0, .int 0]]
def badR : List PyData := [.tuple [.int 1, .int 0], .tuple [.int 1, .int 0, .str "0"], .tuple [.bool true, .int 0, .int 0]]
abbrev T_is_rank : TD := T1 fun D Q _ => (D ∈ rnkL ∧ Q (.bool true)) ∨ (D ∈ badR ∧ Q (.bool false))
abbrev s_is_rank : Stmt := top 21
theorem sc_is_rank : FnScope ["value"] ["value"] (defScope s_is_rank) := ⟨rfl, rfl, rfl, by decide +kernel, rfl, by decide +kernel, by decide +kernel⟩
theorem ok_is_rank {f : Addr} {fd : FuncData} (F : Fun Z.K "_is_rank" "_is_rank" s_is_rank f fd) (T : Tz Z.K Z.mg)
    {f_is_row_of : Addr} {fd_is_row_of : FuncData} (D_is_row_of : Df Z.K Z.mg "is_row_of" s_is_row_of ["value", "many"] f_is_row_of fd_is_row_of) (G_is_row_of : FnD Z.Pg Z.w Z.K Z.mg Z.base CX0 2 f_is_row_of fd_is_row_of ["value", "many"] (spT Z (T_is_row_of)))
    {f_is_number : Addr} {fd_is_number : FuncData} (D_is_number : Df Z.K Z.mg "is_number" s_is_number ["value"] f_is_number fd_is_number) (G_is_number : FnD Z.Pg Z.w Z.K Z.mg Z.base CX0 2 f_is_number fd_is_number ["value"] (spT Z (T_is_number))) : FnD Z.Pg Z.w Z.K Z.mg Z.base CX0 3 f fd ["value"] (spT Z (T_is_rank)) := by
  refine okD F sc_is_rank (fun as Q er h => ?_) (fun cdv A outer s H E G0 ca hr hgd hca => (dss_cons (ds_if (DW.dt (dw_or (dt_not (dt_val (de_call G_is_row_of hr hgd (by rfl) D_is_row_of.g D_is_row_of.F.kp D_is_row_of.b (drs_cons (dr_var 0) (drs_cons (dr_of de_int) drs_nil))))) (dw_or (dt_not (dt_val (de_call G_is_number hr hgd (by rfl) D_is_number.g D_is_number.F.kp D_is_number.b (drs_cons (dr_of (de_ix (dr_var 0) (dr_of de_int))) drs_nil)))) (dw_or1 (dt_not (dt_val (de_call G_is_number hr hgd (by rfl) D_is_number.g D_is_number.F.kp D_is_number.b (drs_cons (dr_of (de_ix (dr_var 0) (dr_of de_int))) drs_nil))))))))
        (dss_one (ds_ret de_bl))
        dss_nil)
      (dss_one (ds_ret (de_or (de_cmp op_isN od_is (dr_of (de_ix (dr_var 0) (dr_of de_int))) (dr_of de_non) (nomark _)) (de_one (de_call G_is_number hr hgd (by rfl) D_is_number.g D_is_number.F.kp D_is_number.b (drs_cons (dr_of (de_ix (dr_var 0) (dr_of de_int))) drs_nil)))))))) (fun ca as Q er h => ?_)
  · obtain ⟨_, rfl, _⟩ := t1_inv h
    rfl
  · obtain ⟨a, rfl, q⟩ := t1_inv h
    rcases q with ⟨h, q⟩ | ⟨h, q⟩
    · unfold rnkL at h
      simp only [List.mem_cons, List.not_mem_nil, or_false] at h
      rcases h with rfl | rfl | rfl | rfl
      all_goals walk_at "c"
      all_goals rw [if_neg (by decide), if_neg (by decide), if_neg (by decide)]
      all_goals exact q
    · unfold badR at h
      simp only [List.mem_cons, List.not_mem_nil, or_false] at h
      rcases h with rfl | rfl | rfl
      all_goals walk_at "c"
      · rw [if_pos (by decide)]
        exact q
      · rw [if_neg (by decide), if_neg (by decide), if_neg (by decide)]
        exact q
      · rw [if_neg (by decide), if_pos (by decide)]
        exact q
def ldsB (a l b : Int) : Bool := if a = b then decide (l = 0) else decide (b < a)
def rk (t : Bool) (a : Int) : PyData := if t = true then .tuple [.int a, .int 0, .int 0] else .list [.int a, .int 0, .int 0]
abbrev T_leads_down : TD := T3 fun D L E Q _ => ∃ (t : Bool) (a l b : Int), D = rk t a ∧ L = .int l ∧ E = rk t b ∧ Q (.bool (ldsB a l b))
abbrev s_leads_down : Stmt := top 22
theorem sc_leads_down : FnScope ["one", "letter", "other"] ["one", "letter", "other"] (defScope s_leads_down) := ⟨rfl, rfl, rfl, by decide +kernel, rfl, by decide +kernel, by decide +kernel⟩
theorem ok_leads_down {f : Addr} {fd : FuncData} (F : Fun Z.K "_leads_down" "_leads_down" s_leads_down f fd) (T : Tz Z.K Z.mg) : FnD Z.Pg Z.w Z.K Z.mg Z.base CX0 1 f fd ["one", "letter", "other"] (spT Z (T_leads_down)) := by
  refine okD F sc_leads_down (fun as Q er h => ?_) (fun cdv A outer s H E G0 ca hr hgd hca => (dss_cons (ds_if (dt_cmp (op_neA hr.units) od_ne (dr_of (de_ix (dr_var 0) (dr_of de_int))) (dr_of (de_ix (dr_var 2) (dr_of de_int))) (nomark _))
        (dss_one (ds_ret (de_cmp op_ltA od_lt (dr_of (de_ix (dr_var 2) (dr_of de_int))) (dr_of (de_ix (dr_var 0) (dr_of de_int))) (nomark _))))
        dss_nil)
      (dss_cons (ds_if (dt_cmp op_isN od_is (dr_of (de_ix (dr_var 0) (dr_of de_int))) (dr_of de_non) (nomark _))
        (dss_one (ds_ret (de_cmp op_ltA od_lt (dr_of (de_ix (dr_var 2) (dr_of de_int))) (dr_of (de_ix (dr_var 0) (dr_of de_int))) (nomark _))))
        dss_nil)
      (dss_one (ds_ret (de_and (de_cmp (op_eqA hr.units) od_eq (dr_var 1) (dr_of (de_ix (dr_var 0) (dr_of de_int))) (nomark _)) (de_one (de_cmp op_notN od_isnot (dr_of (de_ix (dr_var 2) (dr_of de_int))) (dr_of de_non) (nomark _))))))))) (fun ca as Q er h => ?_)
  · obtain ⟨_, _, _, rfl, _⟩ := t3_inv h
    rfl
  · obtain ⟨a, b, c, rfl, q⟩ := t3_inv h
    obtain ⟨t, a, l, b, rfl, rfl, rfl, q⟩ := q
    unfold ldsB at q
    cases t
    all_goals unfold rk
    all_goals simp only [Bool.false_eq_true, if_true, if_false]
    all_goals walk_at "c"
    all_goals by_cases h : a = b
    all_goals first | rw [if_pos h] at q | rw [if_neg h] at q
    all_goals first | rw [if_neg (by rw [decide_eq_true h]; decide)] | (rw [if_pos (by rw [decide_eq_false h]; rfl)]; exact q)
    all_goals by_cases h2 : l = 0
    all_goals first | rw [decide_eq_true h2] at q | rw [decide_eq_false h2] at q
    all_goals first | rw [if_pos (decide_eq_true h2)] | rw [if_neg (fun h => h2 (of_decide_eq_true h))]
    all_goals exact q
def fallL : List PyData := [.none, .int 5, .tuple [], .tuple [.tuple [.int 2, .int 0, .int 0]], .tuple [.tuple [.int 2, .int 0, .int 0], .none], .tuple [.tuple [.int 2, .int 0, .int 0], .tuple [.int 1, .int 0]], .tuple [.tuple [.int 2, .int 0, .int 0], .tuple [.int 1, .int 0, .str "0"]], .tuple [.tuple [.bool true, .int 0, .int 0], .tuple [.int 1, .int 0, .int 0]], .tuple [.tuple [.int 1, .int 0, .int 0], .tuple [.int 1, .int 0, .int 0]], .str "12"]
def fallG : PyData := .list [.list [.int 2, .int 0, .int 0], .list [.int 1, .int 0, .int 0]]
abbrev T_are_ranks_of : TD := T2 fun D V Q _ => D = goodD ∧ ((V ∈ fallL ∧ Q (.bool false)) ∨ (V = fallG ∧ Q (.bool true)))
abbrev s_are_ranks_of : Stmt := top 23
theorem sc_are_ranks_of : FnScope ["words", "value", "state", "is_told", "one", "letter", "behind"] ["words", "value"] (defScope s_are_ranks_of) := ⟨rfl, rfl, rfl, by decide +kernel, rfl, by decide +kernel, by decide +kernel⟩
theorem ok_are_ranks_of {f : Addr} {fd : FuncData} (F : Fun Z.K "are_ranks_of" "are_ranks_of" s_are_ranks_of f fd) (T : Tz Z.K Z.mg)
    {f_is_row_of : Addr} {fd_is_row_of : FuncData} (D_is_row_of : Df Z.K Z.mg "is_row_of" s_is_row_of ["value", "many"] f_is_row_of fd_is_row_of) (G_is_row_of : FnD Z.Pg Z.w Z.K Z.mg Z.base CX0 3 f_is_row_of fd_is_row_of ["value", "many"] (spT Z (T_is_row_of)))
    {f_is_rank : Addr} {fd_is_rank : FuncData} (D_is_rank : Df Z.K Z.mg "_is_rank" s_is_rank ["value"] f_is_rank fd_is_rank) (G_is_rank : FnD Z.Pg Z.w Z.K Z.mg Z.base CX0 3 f_is_rank fd_is_rank ["value"] (spT Z (T_is_rank)))
    {f_are_useful : Addr} {fd_are_useful : FuncData} (D_are_useful : Df Z.K Z.mg "are_useful" s_are_useful ["words"] f_are_useful fd_are_useful) (G_are_useful : FnD Z.Pg Z.w Z.K Z.mg Z.base CX0 3 f_are_useful fd_are_useful ["words"] (spT Z (T_are_useful)))
    {f_leads_down : Addr} {fd_leads_down : FuncData} (D_leads_down : Df Z.K Z.mg "_leads_down" s_leads_down ["one", "letter", "other"] f_leads_down fd_leads_down) (G_leads_down : FnD Z.Pg Z.w Z.K Z.mg Z.base CX0 3 f_leads_down fd_leads_down ["one", "letter", "other"] (spT Z (T_leads_down))) : FnD Z.Pg Z.w Z.K Z.mg Z.base CX0 4 f fd ["words", "value"] (spT Z (T_are_ranks_of)) := by
  refine okD F sc_are_ranks_of (fun as Q er h => ?_) (fun cdv A outer s H E G0 ca hr hgd hca => (dss_cons (ds_if (DW.dt (dw_or (dt_not (dt_val (de_call G_is_row_of hr hgd (by rfl) D_is_row_of.g D_is_row_of.F.kp D_is_row_of.b (drs_cons (dr_var 1) (drs_cons (dr_of (de_ix (dr_var 0) (dr_of de_int))) drs_nil))))) (dw_or1 (dt_not (dt_val (de_callB (cr_all rfl) cd_all (by rfl) T.all (by decide +kernel) (dr_of (de_of_df (df_lc (own := [("one", 4)]) rfl sc_are_ranks_of.nd (di_seq (de_var 1)) (blkOk_by (own := [("one", 4)]) (N := ["words", "value", "state", "is_told", "one", "letter", "behind"]) (sc := defScope s_are_ranks_of) (by decide +kernel)) (fun _ _ _ _ _ => (dg_name (i := 4) sc_are_ranks_of.nd rfl (Or.inl rfl))) (fun _ _ _ _ _ => dts_nil) (fun _ _ _ _ _ => (de_or (de_cmp op_isN od_is (dr_var 4) (dr_of de_non) (nomark _)) (de_one (de_call G_is_rank hr hgd (by rfl) D_is_rank.g D_is_rank.F.kp D_is_rank.b (drs_cons (dr_var 4) drs_nil))))))))))))))
        (dss_one (ds_ret de_bl))
        dss_nil)
      (dss_cons (ds_for PassesOwn.never rfl (di_enum (by rfl) T.enumerate (de_call G_are_useful hr hgd (by rfl) D_are_useful.g D_are_useful.F.kp D_are_useful.b (drs_cons (dr_var 0) drs_nil))) (dg_seq (m := 2) rfl (dgs_cons (dg_name (i := 2) sc_are_ranks_of.nd rfl (Or.inl rfl)) (dgs_cons (dg_name (i := 3) sc_are_ranks_of.nd rfl (Or.inl rfl)) dgs_nil)))
        (dss_cons (ds_if (dt_not (dt_val (de_var 3)))
          (dss_one ds_continue)
          dss_nil)
        (dss_cons (ds_set (i := 4) sc_are_ranks_of.nd rfl (Or.inl rfl) (de_ix (dr_var 1) (dr_var 2)))
        (dss_cons (ds_if (DW.dt (dw_or (dt_cmp op_isN od_is (dr_var 4) (dr_of de_non) (nomark _)) (dw_or1 (DW.dt (dw_and (dt_cmp op_notN od_isnot (dr_of (de_ix (dr_var 4) (dr_of de_int))) (dr_of de_non) (nomark _)) (dw_and1 (dt_cmp (op_eqA hr.units) od_eq (dr_of (de_ix (dr_var 4) (dr_of de_int))) (dr_of de_int) (nomark _))))))))
          (dss_one (ds_ret de_bl))
          dss_nil)
        (dss_one (ds_for PassesOwn.never rfl (di_seq (de_ix (dr_of (de_ix (dr_var 0) (dr_of de_int))) (dr_var 2))) (dg_seq (m := 2) rfl (dgs_cons (dg_name (i := 5) sc_are_ranks_of.nd rfl (Or.inl rfl)) (dgs_cons (dg_name (i := 6) sc_are_ranks_of.nd rfl (Or.inl rfl)) dgs_nil)))
          (dss_one (ds_if (DW.dt (dw_and (dt_cmp op_notN od_isnot (dr_of (de_ix (dr_var 1) (dr_var 6))) (dr_of de_non) (nomark _)) (dw_and1 (dt_not (dt_val (de_call G_leads_down hr hgd (by rfl) D_leads_down.g D_leads_down.F.kp D_leads_down.b (drs_cons (dr_var 4) (drs_cons (dr_var 5) (drs_cons (dr_of (de_ix (dr_var 1) (dr_var 6))) drs_nil)))))))))
            (dss_one (ds_ret de_bl))
            dss_nil))))))))
      (dss_one (ds_ret de_bl))))) (fun ca as Q er h => ?_)
  · obtain ⟨_, _, rfl, _⟩ := t2_inv h
    rfl
  · obtain ⟨a, b, rfl, q⟩ := t2_inv h
    obtain ⟨rfl, ⟨hv, q⟩ | ⟨rfl, q⟩⟩ := q
    · unfold fallL at hv
      simp only [List.mem_cons, List.not_mem_nil, or_false] at hv
      rcases hv with rfl | rfl | rfl | rfl | rfl | rfl | rfl | rfl | rfl | rfl
      all_goals walk_at "d"
      all_goals (try (rw [if_pos (by decide)]; exact q))
      all_goals rw [if_neg (by decide)]
      all_goals walk_at "c"
      · refine .inl ⟨by simp [rnkL], by decide, by decide, [true, true], rfl, ?_⟩
        dsimp only
        rw [if_neg (by decide), if_neg (by decide)]
        refine ⟨true, 2, 0, 2, rfl, rfl, rfl, ?_⟩
        rw [if_neg (by decide)]
        exact q
      · refine .inl ⟨by simp [rnkL], by decide, .inr ⟨by simp [badR], by decide, [true, false], rfl, ?_⟩⟩
        dsimp only
        rw [if_pos (by decide)]
        exact q
      · refine .inl ⟨by simp [rnkL], by decide, .inr ⟨by simp [badR], by decide, [true, false], rfl, ?_⟩⟩
        dsimp only
        rw [if_pos (by decide)]
        exact q
      · refine .inr ⟨by simp [badR], by decide, .inl ⟨by simp [rnkL], by decide, [false, true], rfl, ?_⟩⟩
        dsimp only
        rw [if_pos (by decide)]
        exact q
      · refine .inl ⟨by simp [rnkL], by decide, .inl ⟨by simp [rnkL], by decide, [true, true], rfl, ?_⟩⟩
        dsimp only
        rw [if_neg (by decide), if_neg (by decide)]
        refine ⟨true, 1, 0, 1, rfl, rfl, rfl, ?_⟩
        rw [if_neg (by decide)]
        refine ⟨true, 1, 1, 1, rfl, rfl, rfl, ?_⟩
        rw [if_pos (by decide)]
        exact q
    · unfold fallG
      walk_at "d"
      rw [if_neg (by decide)]
      walk_at "c"
      refine .inl ⟨by simp [rnkL], by decide, .inl ⟨by simp [rnkL], by decide, [true, true], rfl, ?_⟩⟩
      dsimp only
      rw [if_neg (by decide), if_neg (by decide)]
      refine ⟨false, 2, 0, 2, rfl, rfl, rfl, ?_⟩
      rw [if_neg (by decide)]
      refine ⟨false, 2, 1, 1, rfl, rfl, rfl, ?_⟩
      rw [if_neg (by decide), if_neg (by decide)]
      refine ⟨false, 1, 0, 1, rfl, rfl, rfl, ?_⟩
      rw [if_neg (by decide)]
      exact q
abbrev T_ranks_hold (R : Addr) : TD := T2 fun D V Q er => BadW R D er ∨ (D = goodD ∧ ((V ∈ fallL ∧ Q (.bool false)) ∨ (V = fallG ∧ Q (.bool true))))
abbrev s_ranks_hold : Stmt := top 60
theorem sc_ranks_hold : FnScope ["words", "value"] ["words", "value"] (defScope s_ranks_hold) := ⟨rfl, rfl, rfl, by decide +kernel, rfl, by decide +kernel, by decide +kernel⟩
theorem ok_ranks_hold {f : Addr} {fd : FuncData} (F : Fun Z.K "ranks_hold" "ranks_hold" s_ranks_hold f fd) (T : Tz Z.K Z.mg) {C_Refused : Addr}
    {f_are_ranks_of : Addr} {fd_are_ranks_of : FuncData} (D_are_ranks_of : Df Z.K Z.mg "are_ranks_of" s_are_ranks_of ["words", "value"] f_are_ranks_of fd_are_ranks_of) (G_are_ranks_of : FnD Z.Pg Z.w Z.K Z.mg Z.base CX0 5 f_are_ranks_of fd_are_ranks_of ["words", "value"] (spT Z (T_are_ranks_of)))
    {f_check_words_machine : Addr} {fd_check_words_machine : FuncData} (D_check_words_machine : Df Z.K Z.mg "check_words_machine" s_check_words_machine ["value"] f_check_words_machine fd_check_words_machine) (G_check_words_machine : FnD Z.Pg Z.w Z.K Z.mg Z.base (L2.CX Z.Pg Z.w) 5 f_check_words_machine fd_check_words_machine ["value"] (spT Z (T_check_words_machine C_Refused))) : FnD Z.Pg Z.w Z.K Z.mg Z.base (L2.CX Z.Pg Z.w) 6 f fd ["words", "value"] (spT Z (T_ranks_hold C_Refused)) := by
  refine okDX F sc_ranks_hold (fun as Q er h => ?_) (fun cdv A outer s H E G0 er ca hE hr hgd hca => (dss_one (ds_ret (de_call G_are_ranks_of hr hgd (by rfl) D_are_ranks_of.g D_are_ranks_of.F.kp D_are_ranks_of.b (drs_cons (dr_of (de_callX hE (passes_call (takes_of rfl rfl rfl rfl) fun _ _ _ _ h => h) G_check_words_machine hr hgd (by rfl) D_check_words_machine.g D_check_words_machine.F.kp D_check_words_machine.b (drs_cons (dr_var 0) drs_nil))) (drs_cons (dr_var 1) drs_nil)))))) (fun ca as Q er h => ?_)
  · obtain ⟨_, _, rfl, _⟩ := t2_inv h
    rfl
  · obtain ⟨a, b, rfl, q⟩ := t2_inv h
    walk_at "d"
    exact q
abbrev T_useful (R : Addr) : TD := T1 fun D Q er => BadW R D er
abbrev s_useful : Stmt := top 49
theorem sc_useful : FnScope ["words", "state", "is_told"] ["words"] (defScope s_useful) := ⟨rfl, rfl, rfl, by decide +kernel, rfl, by decide +kernel, by decide +kernel⟩
theorem ok_useful {f : Addr} {fd : FuncData} (F : Fun Z.K "useful" "useful" s_useful f fd) (T : Tz Z.K Z.mg) {C_Refused : Addr}
    {f_are_useful : Addr} {fd_are_useful : FuncData} (D_are_useful : Df Z.K Z.mg "are_useful" s_are_useful ["words"] f_are_useful fd_are_useful) (G_are_useful : FnD Z.Pg Z.w Z.K Z.mg Z.base CX0 5 f_are_useful fd_are_useful ["words"] (spT Z (T_are_useful)))
    {f_check_words_machine : Addr} {fd_check_words_machine : FuncData} (D_check_words_machine : Df Z.K Z.mg "check_words_machine" s_check_words_machine ["value"] f_check_words_machine fd_check_words_machine) (G_check_words_machine : FnD Z.Pg Z.w Z.K Z.mg Z.base (L2.CX Z.Pg Z.w) 5 f_check_words_machine fd_check_words_machine ["value"] (spT Z (T_check_words_machine C_Refused))) : FnD Z.Pg Z.w Z.K Z.mg Z.base (L2.CX Z.Pg Z.w) 6 f fd ["words"] (spT Z (T_useful C_Refused)) := by
  refine okDX F sc_useful (fun as Q er h => ?_) (fun cdv A outer s H E G0 er ca hE hr hgd hca => (dss_one (ds_ret (de_callTy call_tupleF cd_tuple (by rfl) T.tuple (by decide +kernel) (dr_of (de_of_df (df_lc (own := [("state", 1), ("is_told", 2)]) rfl sc_useful.nd (di_enum (by rfl) T.enumerate (de_call G_are_useful hr hgd (by rfl) D_are_useful.g D_are_useful.F.kp D_are_useful.b (drs_cons (dr_of (de_callX hE (passes_call (takes_of rfl rfl rfl rfl) fun _ _ _ _ h => h) G_check_words_machine hr hgd (by rfl) D_check_words_machine.g D_check_words_machine.F.kp D_check_words_machine.b (drs_cons (dr_var 0) drs_nil))) drs_nil))) (blkOk_by (own := [("state", 1), ("is_told", 2)]) (N := ["words", "state", "is_told"]) (sc := defScope s_useful) (by decide +kernel)) (fun _ _ _ _ _ => (dg_seq (m := 2) rfl (dgs_cons (dg_name (i := 1) sc_useful.nd rfl (Or.inl rfl)) (dgs_cons (dg_name (i := 2) sc_useful.nd rfl (Or.inl rfl)) dgs_nil)))) (fun _ _ _ _ _ => (dts_one (dt_val (de_var 2)))) (fun _ _ _ _ _ => (de_var 1))))))))) (fun ca as Q er h => ?_)
  · obtain ⟨_, rfl, _⟩ := t1_inv h
    rfl
  · obtain ⟨a, rfl, q⟩ := t1_inv h
    walk_at "d"
    exact .inl q
end
end Lw
set_option Elab.async false
set_option linter.all false
set_option maxRecDepth 100000
set_option maxHeartbeats 1000000
set_option pp.deepTerms true
set_option pp.maxSteps 200000
namespace Lw
open PySem PySem.Spec PyProof PyProof.Rows L2 So Da Dl
local macro_rules | `(tactic| walk_at "z") => `(tactic| repeat (first | refine ⟨(by decide), ?_⟩ | refine ⟨(by omega), ?_⟩ | refine ⟨rfl, ?_⟩))
section
variable {Z : Zw}
def TH_refused (C : Addr) : Out → (PyData → Prop) → Prop := fun o Q => match o with
  | .told _ => Q .none
  | .err C' D => C' = C ∧ repOk D ∧ Q (.tuple [.str (repD D), .bool true])
abbrev s_law_refused : Stmt := top 65
theorem sc_law_refused : FnScope ["ask", "fault"] ["ask"] (defScope s_law_refused) := ⟨rfl, rfl, rfl, by decide +kernel, rfl, by decide +kernel, by decide +kernel⟩
theorem ok_law_refused {f : Addr} {fd : FuncData} (F : Fun Z.K "_law_refused" "_law_refused" s_law_refused f fd) (T : Tz Z.K Z.mg) {C_Refused : Addr}
    (A_Refused : Z.T.an C_Refused = "at") (E_Refused : ErC Z.K Z.mg "Refused" "at" C_Refused)
    {C_OpenError : Addr} (g_OpenError : Z.mg "OpenError" = some (.ref C_OpenError)) (op_Refused_OpenError : PySem.W.kitOne Z.K (.ref C_Refused) (.ref C_OpenError) = some true) : FnD Z.Pg Z.w Z.K Z.mg Z.base CX0 63 f fd ["ask"] (spT Z (heardT 62 (TH_refused C_Refused))) := by
  refine okD F sc_law_refused (fun as Q er h => ?_) (fun cdv A outer s H E G0 ca hr hgd hca => (dss_cons (ds_try (X := (cxOf CX0 Z.Pg Z.w Z.K Z.mg Z.base ["ask", "fault"] "_law_refused" (defScope s_law_refused) f cdv A outer s H E).nox) (K := Z.K) rfl rfl rfl sc_law_refused.nd (fun W pn xe tk po => (dsw_expr (dew_ask tk (j := 62) hr hgd 0))) (.more (i := 1) ⟨by rfl, by decide, Or.inl E_Refused.g⟩ (by rfl) (by rfl) (fun _ _ _ _ _ hz hf => (dss_one (ds_ret (de_tup (da_cons (de_callB (call_reprA hgd hr.units) cd_repr (by rfl) T.repr (by decide +kernel) (dr_of (de_flt A_Refused E_Refused.xf E_Refused.na hz hf 1))) (da_cons (de_fltI E_Refused.is op_Refused_OpenError hz hf (by rfl) T.isi (by rfl) g_OpenError 1) da_nil)))))) .none))
      (dss_one (ds_ret de_non)))) (fun ca as Q er h => ?_)
  · obtain ⟨k, W, R, rfl, _⟩ := h
    rfl
  · obtain ⟨k, W, R, rfl, hk, hw, hr⟩ := h
    simp only [dSeq, dTry, dAsk, start0, List.replicate, List.cons_append, List.nil_append, List.getElem?_cons_zero, List.length_cons, List.length_nil]
    refine ⟨hk, R, hw, fun o ho => ?_⟩
    have ho := hr o ho
    cases o with
    | told D => exact ho
    | err C D =>
      obtain ⟨rfl, ok, q⟩ := ho
      exact ⟨true, E_Refused.te, fun _ => ⟨trivial, fun a d => ⟨rfl, rfl, rfl, rfl, ok, rfl, rfl, rfl, rfl, (by show 2 ≤ sizeLine; decide), q⟩⟩, fun z => nomatch z⟩
end
end Lw
set_option Elab.async false
set_option linter.all false
set_option maxRecDepth 100000
set_option maxHeartbeats 1000000
set_option pp.deepTerms true
set_option pp.maxSteps 200000
namespace Lw
open PySem PySem.Spec PyProof PyProof.Rows L2 So Da Dl
local macro_rules | `(tactic| walk_at "z") => `(tactic| repeat (first | refine ⟨(by decide), ?_⟩ | refine ⟨(by omega), ?_⟩ | refine ⟨rfl, ?_⟩))
section
variable {Z : Zw}
abbrev s_law_box : Stmt := top 62
theorem sc_law_box : FnScope ["script", "k", "cell", "great"] ["script", "k"] (defScope s_law_box) := ⟨rfl, rfl, rfl, by decide +kernel, rfl, by decide +kernel, by decide +kernel⟩
theorem item_int {ns : List Int} {j : Nat} (h : j < ns.length) : ∃ n, (ns.map V.int)[j]? = some (V.int n) := ⟨ns[j], by rw [List.getElem?_map, List.getElem?_eq_getElem h]; rfl⟩
theorem ok_law_box {f : Addr} {fd : FuncData} (F : Fun Z.K "_law_box" "_law_box" s_law_box f fd) (T : Tz Z.K Z.mg) : FnD Z.Pg Z.w Z.K Z.mg Z.base CX0 1 f fd ["script", "k"] (spO Z Tbox) := by
  refine box_T (.of (F.ok sc_law_box (fun vs H Q E h => ?_) (fun cdv A outer s H vs Q E hr h => ?_)))
  · obtain ⟨_, _, _, rfl, _⟩ := h
    rfl
  · obtain ⟨a, ns, k, rfl, hS, hlen, hk, kont⟩ := h
    refine ⟨_, pss_cons (ps_set (i := 2) sc_law_box.nd rfl (Or.inl rfl) (pe_op op_add (pe_op op_mul pe_int (pv 1)) pe_int))
      (pss_cons (ps_if (pt_cmpR op_lt (pv 1) (pe_callB call_len_seq (by rfl) T.len (by decide +kernel) (pa_cons (pv 0) pa_nil)) (nomark _))
        (pss_one (ps_set (i := 2) sc_law_box.nd rfl (Or.inl rfl) (pe_callB call_abs (by rfl) T.abs (by decide +kernel) (pa_cons (pe_callTy call_int1 (by rfl) T.int (by decide +kernel) (pa_cons (pe_ix ix_list (pv 0) (pv 1) (fun _ _ => rfl)) pa_nil)) pa_nil))))
        (pss_one (ps_if (pt_cmpR op_gt (pe_callB call_len_seq (by rfl) T.len (by decide +kernel) (pa_cons (pv 0) pa_nil)) pe_int (nomark _))
          (pss_one (ps_set (i := 2) sc_law_box.nd rfl (Or.inl rfl) (pe_op op_add (pv 2) (pe_op op_mul (pe_op op_mod (pe_callTy call_int1 (by rfl) T.int (by decide +kernel) (pa_cons (pe_callB call_abs (by rfl) T.abs (by decide +kernel) (pa_cons (pe_callTy call_int1 (by rfl) T.int (by decide +kernel)
              (pa_cons (pe_ix ix_list (pv 0) (pe_op op_mod (pe_callTy call_int1 (by rfl) T.int (by decide +kernel) (pa_cons (pv 1) pa_nil)) (pe_callB call_len_seq (by rfl) T.len (by decide +kernel) (pa_cons (pv 0) pa_nil))) (fun _ _ => rfl)) pa_nil)) pa_nil)) pa_nil)) pe_int) pe_int))))
          pss_nil)))
      (pss_cons (ps_set (i := 3) sc_law_box.nd rfl (Or.inl rfl) (pe_ifExp (pt_cmpR op_ge (pv 2) (pe_op op_pow pe_int pe_int) (nomark _)) (pv 2) pe_int))
      (pss_one (ps_ret (pe_lst (pa_cons (pv 3) (pa_cons (pe_op op_add (pe_op op_mod (pe_callTy call_int1 (by rfl) T.int (by decide +kernel) (pa_cons (pe_op op_add (pe_op op_mul (pe_op op_mod (pe_callTy call_int1 (by rfl) T.int (by decide +kernel) (pa_cons (pv 2) pa_nil)) pe_int) pe_int) (pe_op op_mul pe_int (pv 1))) pa_nil)) pe_int) pe_int) pa_nil))))))), ?_⟩
    refine ⟨_, rfl, _, _, rfl, rfl, .inl ⟨(by show -(2 ^ 64) < (11807 : Int); decide), (by show (11807 : Int) < 2 ^ 64; decide)⟩, _, _, rfl, rfl, ?_⟩
    refine ⟨_, rfl, _, rfl, a, _, rfl, .inl hS, _, _, rfl, rfl, _, rfl, ?_⟩
    refine ite2 (fun h1 => ?_) (fun h1 => ?_)
    · have h1' : (k : Int) < ((ns.map V.int).length : Nat) := of_decide_eq_true h1
      rw [List.length_map] at h1'
      obtain ⟨n, hn⟩ := item_int (ns := ns) (j := k) (by omega)
      refine ⟨_, rfl, _, rfl, a, _, _, _, rfl, rfl, hS, atI_nat hn, .inl ⟨_, rfl, _, rfl, ?_⟩⟩
      have c0 : 0 ≤ (if n < 0 then -n else n) := by split <;> omega
      generalize (if n < 0 then -n else n) = c at c0
      refine ⟨_, rfl, _, _, rfl, rfl, ⟨by decide, by decide, by decide⟩, _, _, rfl, rfl, _, rfl, ?_⟩
      refine ite2 (fun _ => ?_) (fun _ => ?_)
      · refine ⟨_, rfl, ?_⟩
        refine ⟨_, rfl, _, rfl, .inl ⟨_, rfl, _, _, rfl, rfl, (by show (0 : Int) < 2147483563; decide), _, _, rfl, rfl, .inr ⟨(by show -(2 ^ 64) < (40014 : Int); decide), (by show (40014 : Int) < 2 ^ 64; decide)⟩, _, rfl, _, _, rfl, rfl, .inl ⟨(by show -(2 ^ 64) < (4817 : Int); decide), (by show (4817 : Int) < 2 ^ 64; decide)⟩, _, _, rfl, rfl, .inl ⟨_, rfl, _, _, rfl, rfl, (by show (0 : Int) < 2147483563; decide), _, _, rfl, rfl, (by show 2 ≤ sizeLine; decide), fun q hq => ?_⟩⟩⟩
        exact kont q _ _ (c0) (by omega) (by omega) hq
      · refine ⟨_, rfl, _, rfl, .inl ⟨_, rfl, _, _, rfl, rfl, (by show (0 : Int) < 2147483563; decide), _, _, rfl, rfl, .inr ⟨(by show -(2 ^ 64) < (40014 : Int); decide), (by show (40014 : Int) < 2 ^ 64; decide)⟩, _, rfl, _, _, rfl, rfl, .inl ⟨(by show -(2 ^ 64) < (4817 : Int); decide), (by show (4817 : Int) < 2 ^ 64; decide)⟩, _, _, rfl, rfl, .inl ⟨_, rfl, _, _, rfl, rfl, (by show (0 : Int) < 2147483563; decide), _, _, rfl, rfl, (by show 2 ≤ sizeLine; decide), fun q hq => ?_⟩⟩⟩
        exact kont q _ _ (Int.le_refl 0) (by omega) (by omega) hq
    · refine ⟨_, rfl, a, _, rfl, .inl hS, _, _, rfl, rfl, _, rfl, ?_⟩
      have c1 : (0 : Int) ≤ 11807 * (k : Int) + 4817 := by omega
      refine ite2 (fun h2 => ?_) (fun h2 => ?_)
      · have h2' : ((ns.map V.int).length : Nat) > (0 : Int) := of_decide_eq_true h2
        rw [List.length_map] at h2'
        obtain ⟨n, hn⟩ := item_int (ns := ns) (j := k % ns.length) (Nat.mod_lt _ (by omega))
        have ej : (k : Int) % (((ns.map V.int).length : Nat) : Int) = ((k % ns.length : Nat) : Int) := by
          rw [List.length_map]
          exact (Int.natCast_emod k ns.length).symm
        have at2 : atI (ns.map V.int) ((k : Int) % (((ns.map V.int).length : Nat) : Int)) = some (V.int n) := by
          rw [ej]
          exact atI_nat hn
        refine ⟨_, rfl, _, rfl, _, rfl, .inl ⟨_, rfl, _, rfl, a, _, rfl, .inl hS, _, _, rfl, rfl, (by rw [List.length_map]; exact h2'), a, _, _, _, rfl, rfl, hS, at2, .inl ⟨_, rfl, _, rfl, .inl ⟨_, rfl, _, _, rfl, rfl, (by show (0 : Int) < 2147483563; decide), _, _, rfl, rfl, .inr ⟨(by show -(2 ^ 64) < (51109 : Int); decide), (by show (51109 : Int) < 2 ^ 64; decide)⟩, _, _, rfl, rfl, ?_⟩⟩⟩⟩
        have m0 : 0 ≤ (if n < 0 then -n else n) % 2147483563 := Int.emod_nonneg _ (by decide)
        have c0 : 0 ≤ 11807 * (k : Int) + 4817 + (if n < 0 then -n else n) % 2147483563 * 51109 := by omega
        refine ⟨_, rfl, _, _, rfl, rfl, ⟨by decide, by decide, by decide⟩, _, _, rfl, rfl, _, rfl, ?_⟩
        refine ite2 (fun _ => ?_) (fun _ => ?_)
        · refine ⟨_, rfl, ?_⟩
          refine ⟨_, rfl, _, rfl, .inl ⟨_, rfl, _, _, rfl, rfl, (by show (0 : Int) < 2147483563; decide), _, _, rfl, rfl, .inr ⟨(by show -(2 ^ 64) < (40014 : Int); decide), (by show (40014 : Int) < 2 ^ 64; decide)⟩, _, rfl, _, _, rfl, rfl, .inl ⟨(by show -(2 ^ 64) < (4817 : Int); decide), (by show (4817 : Int) < 2 ^ 64; decide)⟩, _, _, rfl, rfl, .inl ⟨_, rfl, _, _, rfl, rfl, (by show (0 : Int) < 2147483563; decide), _, _, rfl, rfl, (by show 2 ≤ sizeLine; decide), fun q hq => ?_⟩⟩⟩
          exact kont q _ _ (c0) (by omega) (by omega) hq
        · refine ⟨_, rfl, _, rfl, .inl ⟨_, rfl, _, _, rfl, rfl, (by show (0 : Int) < 2147483563; decide), _, _, rfl, rfl, .inr ⟨(by show -(2 ^ 64) < (40014 : Int); decide), (by show (40014 : Int) < 2 ^ 64; decide)⟩, _, rfl, _, _, rfl, rfl, .inl ⟨(by show -(2 ^ 64) < (4817 : Int); decide), (by show (4817 : Int) < 2 ^ 64; decide)⟩, _, _, rfl, rfl, .inl ⟨_, rfl, _, _, rfl, rfl, (by show (0 : Int) < 2147483563; decide), _, _, rfl, rfl, (by show 2 ≤ sizeLine; decide), fun q hq => ?_⟩⟩⟩
          exact kont q _ _ (Int.le_refl 0) (by omega) (by omega) hq
      · refine ⟨_, rfl, _, _, rfl, rfl, ⟨by decide, by decide, by decide⟩, _, _, rfl, rfl, _, rfl, ?_⟩
        refine ite2 (fun _ => ?_) (fun _ => ?_)
        · refine ⟨_, rfl, ?_⟩
          refine ⟨_, rfl, _, rfl, .inl ⟨_, rfl, _, _, rfl, rfl, (by show (0 : Int) < 2147483563; decide), _, _, rfl, rfl, .inr ⟨(by show -(2 ^ 64) < (40014 : Int); decide), (by show (40014 : Int) < 2 ^ 64; decide)⟩, _, rfl, _, _, rfl, rfl, .inl ⟨(by show -(2 ^ 64) < (4817 : Int); decide), (by show (4817 : Int) < 2 ^ 64; decide)⟩, _, _, rfl, rfl, .inl ⟨_, rfl, _, _, rfl, rfl, (by show (0 : Int) < 2147483563; decide), _, _, rfl, rfl, (by show 2 ≤ sizeLine; decide), fun q hq => ?_⟩⟩⟩
          exact kont q _ _ (c1) (by omega) (by omega) hq
        · refine ⟨_, rfl, _, rfl, .inl ⟨_, rfl, _, _, rfl, rfl, (by show (0 : Int) < 2147483563; decide), _, _, rfl, rfl, .inr ⟨(by show -(2 ^ 64) < (40014 : Int); decide), (by show (40014 : Int) < 2 ^ 64; decide)⟩, _, rfl, _, _, rfl, rfl, .inl ⟨(by show -(2 ^ 64) < (4817 : Int); decide), (by show (4817 : Int) < 2 ^ 64; decide)⟩, _, _, rfl, rfl, .inl ⟨_, rfl, _, _, rfl, rfl, (by show (0 : Int) < 2147483563; decide), _, _, rfl, rfl, (by show 2 ≤ sizeLine; decide), fun q hq => ?_⟩⟩⟩
          exact kont q _ _ (Int.le_refl 0) (by omega) (by omega) hq
abbrev s_law_take : Stmt := top 63
theorem sc_law_take : FnScope ["box", "many", "digit", "raw"] ["box", "many"] (defScope s_law_take) := ⟨rfl, rfl, rfl, by decide +kernel, rfl, by decide +kernel, by decide +kernel⟩
theorem ok_law_take {f : Addr} {fd : FuncData} (F : Fun Z.K "_law_take" "_law_take" s_law_take f fd) (T : Tz Z.K Z.mg) : FnD Z.Pg Z.w Z.K Z.mg Z.base CX0 1 f fd ["box", "many"] (spT Z Ttake) := by
  refine take_T (.of (F.ok sc_law_take (fun vs H Q E h => ?_) (fun cdv A outer s H vs Q E hr h => ?_)))
  · obtain ⟨_, _, _, _, rfl, _⟩ := h
    rfl
  · obtain ⟨b, n, g, z, rfl, ⟨hb, hg, hz, hz2⟩, hn, hn2, kont⟩ := h
    refine ⟨_, pss_cons (ps_if (pt_cmpR op_gt (pe_ix ix_list (pv 0) pe_int (fun _ _ => rfl)) pe_int (nomark _))
        (pss_cons (ps_set (i := 2) sc_law_take.nd rfl (Or.inl rfl) (pe_op op_mod (pe_callTy call_int1 (by rfl) T.int (by decide +kernel) (pa_cons (pe_ix ix_list (pv 0) pe_int (fun _ _ => rfl)) pa_nil)) (pv 1)))
        (pss_cons (ps_asg (pe_op op_fdiv (pe_ix ix_list (pv 0) pe_int (fun _ _ => rfl)) (pv 1)) (pg_sub (pv 0) pe_int set_list))
        (pss_one (ps_ret (pv 2))))) pss_nil)
      (pss_cons (ps_set (i := 3) sc_law_take.nd rfl (Or.inl rfl) (pe_op op_mod (pe_callTy call_int1 (by rfl) T.int (by decide +kernel) (pa_cons (pe_op op_add (pe_op op_mul (pe_ix ix_list (pv 0) pe_int (fun _ _ => rfl)) pe_int) pe_int) pa_nil)) pe_int))
      (pss_cons (ps_asg (pe_op op_add (pe_op op_mod (pe_callTy call_int1 (by rfl) T.int (by decide +kernel) (pa_cons (pe_op op_add (pe_op op_mul (pv 3) pe_int) pe_int) pa_nil)) pe_int) pe_int) (pg_sub (pv 0) pe_int set_list))
      (pss_one (ps_ret (pe_op op_mod (pe_callTy call_int1 (by rfl) T.int (by decide +kernel) (pa_cons (pe_op op_fdiv (pe_op op_add (pe_op op_mul (pv 3) pe_int) (pe_ix ix_list (pv 0) pe_int (fun _ _ => rfl))) pe_int) pa_nil)) (pv 1)))))), ?_⟩
    refine ⟨_, rfl, b, _, _, _, rfl, rfl, SqL.of hb, atI_nat (j := 0) rfl, _, _, rfl, rfl, _, rfl, ?_⟩
    refine ite2 (fun _ => ?_) (fun _ => ?_)
    · refine ⟨_, rfl, b, _, _, _, rfl, rfl, SqL.of hb, atI_nat (j := 0) rfl, .inl ⟨_, rfl, _, rfl, _, _, rfl, rfl, hn, ?_⟩⟩
      refine ⟨_, rfl, b, _, _, _, rfl, rfl, SqL.of hb, atI_nat (j := 0) rfl, _, rfl, _, _, rfl, rfl, ⟨hn, by omega⟩, ?_⟩
      refine ⟨_, rfl, b, _, _, 0, rfl, rfl, hb, rfl, ?_⟩
      refine ⟨_, rfl, ?_⟩
      exact kont _ (g / n) z (Int.emod_nonneg _ (by omega)) (Int.emod_lt_of_pos _ hn) (Int.ediv_nonneg hg (by omega)) hz hz2
    · refine ⟨_, rfl, b, _, _, _, rfl, rfl, SqL.of hb, atI_nat (j := 1) rfl, _, _, rfl, rfl, .inr ⟨(by show -(2 ^ 64) < (39373 : Int); decide), (by show (39373 : Int) < 2 ^ 64; decide)⟩, _, _, rfl, rfl, .inl ⟨_, rfl, _, _, rfl, rfl, (by show (0 : Int) < 2147483647; decide), ?_⟩⟩
      refine ⟨_, rfl, _, _, rfl, rfl, .inr ⟨(by show -(2 ^ 64) < (40692 : Int); decide), (by show (40692 : Int) < 2 ^ 64; decide)⟩, _, _, rfl, rfl, .inl ⟨_, rfl, _, _, rfl, rfl, (by show (0 : Int) < 2147483399; decide), _, _, rfl, rfl, ?_⟩⟩
      refine ⟨_, rfl, b, _, _, 1, rfl, rfl, hb, rfl, ?_⟩
      refine ⟨_, rfl, _, _, rfl, rfl, .inr ⟨(by show -(2 ^ 64) < (2147483629 : Int); decide), (by show (2147483629 : Int) < 2 ^ 64; decide)⟩, _, rfl, b, _, _, _, rfl, rfl, SqL.of upd_same, atI_nat (j := 1) rfl, _, _, rfl, rfl, _, _, rfl, rfl, ⟨by decide, by decide⟩, .inl ⟨_, rfl, _, rfl, _, _, rfl, rfl, hn, ?_⟩⟩
      exact kont _ g _ (Int.emod_nonneg _ (by omega)) (Int.emod_lt_of_pos _ hn) hg (by omega) (by omega)
end
end Lw
set_option Elab.async false
set_option linter.all false
set_option maxRecDepth 100000
set_option maxHeartbeats 1000000
set_option pp.deepTerms true
set_option pp.maxSteps 200000
namespace Lw
open PySem PySem.Spec PyProof PyProof.Rows L2 So Da Dl
local macro_rules | `(tactic| walk_at "z") => `(tactic| repeat (first | refine ⟨(by decide), ?_⟩ | refine ⟨(by omega), ?_⟩ | refine ⟨rfl, ?_⟩))
section
variable {Z : Zw}
def T_law_pick : TD := fun as Q _ => match as with
  | [.ob b .box, .sh D] => isSq D = true ∧ 0 < (itD D).length ∧ (itD D).length < 1000 ∧ ∀ d ∈ itD D, Q d [.ob b .box, .sh D]
  | _ => False
abbrev s_law_pick : Stmt := top 64
theorem sc_law_pick : FnScope ["box", "some"] ["box", "some"] (defScope s_law_pick) := ⟨rfl, rfl, rfl, by decide +kernel, rfl, by decide +kernel, by decide +kernel⟩
local macro_rules | `(tactic| walk_at "d") => `(tactic| simp only [↓dSeq, ↓dFor, ↓reprD, ↓dCallK, ↓dIfS, ↓dAndV, ↓dOrV, ↓dUn, ↓dOp, ↓dC, ↓dVar, ↓derefW, ↓deref, ↓known, ↓noOb, ↓nbO, ↓start0, ↓endsOf, ↓outA, ↓toB, ↓dAnd, ↓dOr, ↓dNot, ↓ofB, ↓dIf, ↓dChain, ↓dgName, ↓dgSeq, ↓dgCons, ↓dgNil, ↓dLc, ↓popW, ↓atOl, ↓isOl, ↓ownS, ↓frzD, ↓dCall, argsOf, argLc, obSlots, upS, upO, ↓noObs, ↓wipeD, List.map_cons, List.map_nil, List.length_cons, List.length_nil, Nat.sub_self, Nat.zero_add, Nat.reduceAdd, Nat.reduceSub, List.replicate, List.append_nil, List.cons_append, List.nil_append, List.getElem?_cons_zero, List.getElem?_cons_succ, List.getElem?_nil, List.set, List.head?, List.tail, Option.getD_some, Option.getD_none, List.nodup_nil, List.nodup_cons, List.not_mem_nil, List.mem_cons, List.mem_singleton, or_false, Nat.reduceEqDiff, true_and, and_true, Bool.not_true, Bool.not_false, if_true, Bool.false_eq_true, if_false, ite_true, ite_false, not_false_eq_true, reduceCtorEq, eqD_int, eqD_str, eqD_bl, eqD_tuple, eqD_list, eqD_tupleR, eqD_listR, eqD_non, neD_int, neD_str, neD_bl, neD_tuple, neD_list, neD_tupleR, neD_listR, neD_non, ↓isD, ↓notD, ix_0, ix_1, ix_2, ix_3, ix_4, ix_L0, ix_L1, ix_L2, itemsD_L, itemsD_T, tupleD_L, tupleD_T, listD_L, listD_T, lenD_L, lenD_T, lenD_S, slD_L, slD_T, addD_I, addD_S, addD_T, addD_L, subD_I, mulD_I, ltD_I, ltD_S, leD_I, gtD_I, geD_I, modD_I, fdivD_I, powD_I, intD_I, intD_B, negD_I, isND_N, isND_I, isND_S, isND_B, isND_T, isND_L, sq_T, sq_L, sq_N, sq_I, sq_S, sq_B, at_0, at_1, at_2, at_3, at_4, ↓isiD, pick, List.filterMap_cons_some, List.filterMap_nil, List.filterMap_cons, ↓ownC, ↓T1, ↓T2, ↓T3, ↓T4, ↓dHeard, ↓capsD, ↓slotsD, ↓lamW, lamSto, cpLc, ↓dHeardS, ↓dAsks, ↓asksW, ↓heardT, ↓Tbox, ↓Ttake, revD, sortSetD, dOl, isBD, ↓intW, ↓T_law_pick])
theorem ok_law_pick {f : Addr} {fd : FuncData} (F : Fun Z.K "_law_pick" "_law_pick" s_law_pick f fd) (T : Tz Z.K Z.mg)
    {f_law_take : Addr} {fd_law_take : FuncData} (D_law_take : Df Z.K Z.mg "_law_take" s_law_take ["box", "many"] f_law_take fd_law_take) (G_law_take : FnD Z.Pg Z.w Z.K Z.mg Z.base CX0 1 f_law_take fd_law_take ["box", "many"] (spT Z (Ttake))) : FnD Z.Pg Z.w Z.K Z.mg Z.base CX0 2 f fd ["box", "some"] (spT Z (T_law_pick)) := by
  refine okD F sc_law_pick (fun as Q er h => ?_) (fun cdv A outer s H E G0 ca hr hgd hca => (dss_one (ds_ret (de_ix (dr_var 1) (dr_of (de_call G_law_take hr hgd (by rfl) D_law_take.g D_law_take.F.kp D_law_take.b (drs_cons (dr_var 0) (drs_cons (dr_of (de_callB call_lenA cd_len (by rfl) T.len (by decide +kernel) (dr_var 1))) drs_nil)))))))) (fun ca as Q er h => ?_)
  · unfold T_law_pick at h
    split at h
    · rfl
    · exact h.elim
  · unfold T_law_pick at h
    split at h
    · rename_i b D
      obtain ⟨hs, h0, h1, q⟩ := h
      have fin : ∀ r : Int, 0 ≤ r → r < ((itD D).length : Nat) → ∃ d, d ∈ itD D ∧ atI (itD D) r = some d := fun r r0 r1 => by
        obtain ⟨j, rfl⟩ : ∃ j : Nat, r = (j : Int) := ⟨r.toNat, by omega⟩
        have hj : j < (itD D).length := by omega
        exact ⟨_, List.getElem_mem hj, atI_nat (List.getElem?_eq_getElem hj)⟩
      obtain ⟨ds, rfl | rfl⟩ : ∃ ds, D = .list ds ∨ D = .tuple ds := (by cases D <;> first | exact ⟨_, .inl rfl⟩ | exact ⟨_, .inr rfl⟩ | cases hs) <;> (
        walk_at "d"
        simp only [itD] at h0 h1 q fin
        refine ⟨by omega, by omega, fun r r0 r1 => ?_⟩
        obtain ⟨d, m, e⟩ := fin r r0 r1
        simp only [ixD, e]
        exact q d m)
    · exact h.elim
end
end Lw
set_option Elab.async false
set_option linter.all false
set_option maxRecDepth 100000
set_option maxHeartbeats 1000000
set_option pp.deepTerms true
set_option pp.maxSteps 200000
namespace Lw
open PySem PySem.Spec PyProof PyProof.Rows L2 So Da Dl
local macro_rules | `(tactic| walk_at "z") => `(tactic| repeat (first | refine ⟨(by decide), ?_⟩ | refine ⟨(by omega), ?_⟩ | refine ⟨rfl, ?_⟩))
section
variable {Z : Zw}
abbrev T_law : TD := T1 fun D Q _ => ∃ ns : List Int, D = .list (ns.map .int) ∧ ns.length ≤ 1000000 ∧ Q (.bool true)
local macro_rules | `(tactic| walk_at "k") => `(tactic| repeat (first | refine ⟨trivial, ?_⟩ | refine ⟨(by decide +kernel), ?_⟩))
/-- what is no machine of words, and can be shown -/
def badB (d : PyData) : Bool := wfB d && (!wmB d && clB d)
def some2 : List PyData := [.tuple [.int 2, .int 0, .tuple [.tuple [.tuple [.int 0, .int 0], .tuple [.int 0, .int 1]], .tuple []], tpG], .tuple [.int 2, .int 0, .tuple [.tuple [.tuple [.int 1, .int 0], .tuple [.int 0, .int 1]], .tuple []], tpG], .tuple [.int 2, .int 0, .tuple [.tuple [.tuple [.int 0, .int 2]], .tuple []], tpG]]
def some3 : List PyData := [.tuple [.int 2, .int 0, .tuple [.tuple [.tuple [.int 0, .int 0, .int 0]], .tuple []], tpG], .tuple [.int 2, .int 0, .tuple [.none, .tuple []], tpG], .tuple [.int 2, .int 0, .tuple [.tuple [], .tuple []], .tuple [.tuple [.int 1, .int 0], .tuple []]], .tuple [.int 2, .int 0, .tuple [.tuple [], .tuple []], .tuple [.none, .tuple []]]]
def some4 : List PyData := [.tuple [.bool true, .int 0, .tuple [.tuple []], .tuple [.tuple []]], .tuple [.int 2, .int 0, .tuple [.tuple [.tuple [.int (-1), .int 0]], .tuple []], tpG], .tuple [.int 2, .bool true, .tuple [.tuple [], .tuple []], .tuple [.tuple [], .tuple []]], .str "1234"]
def some5 : List PyData := [.tuple [.int 2, .int 0, .tuple [.tuple [], .tuple []], .tuple [.tuple [.int 2000], .tuple []]]]
theorem odd_ok {L : List PyData} (h : (L.all fun d => !numB d && clB d) = true) {d : PyData} (m : d ∈ L) : numB d = false ∧ clB d = true := by
  have := List.all_eq_true.mp h d m
  rw [Bool.and_eq_true, Bool.not_eq_true'] at this
  exact this
theorem rpt {d : PyData} (h : clB d = true) : repOk d ∧ SeqAt.shaped (.tuple [.str (repD d), .bool true]) = true ∧ PyData.bool (!(PyData.tuple [.str (repD d), .bool true]).eqv (.tuple [.str (repD d), .bool true])) = .bool false := by
  obtain ⟨ok, rp⟩ := cl_ok h
  have sh : SeqAt.shaped (.tuple [.str (repD d), .bool true]) = true := sh_flat fun y m => by
    simp only [List.mem_cons, List.not_mem_nil, or_false] at m
    rcases m with rfl | rfl
    · exact ⟨so_rep ok.lay, rfl⟩
    · exact ⟨rfl, rfl⟩
  have ly : (PyData.tuple [.str (repD d), .bool true]).canLay0 = true := by
    have := sh
    unfold SeqAt.shaped at this
    exact (Bool.and_eq_true_iff.mp this).1
  exact ⟨rp, sh, congrArg (fun z => PyData.bool (!z)) (eqv_l ly)⟩
def at1B (d : PyData) : Bool := clB d && match d with
  | .int i => decide (0 ≤ i) && !(decide (1 ≤ i) && decide (i ≤ 12))
  | d => !numB d
theorem at1_of {d : PyData} (h : at1B d = true) : clB d = true ∧ ∀ {P : Prop} {R : Int → Prop}, P → (numB d = false ∧ P) ∨ ∃ i, d = .int i ∧ 0 ≤ i ∧ ((¬ (1 ≤ i ∧ i ≤ 12) ∧ P) ∨ R i) := by
  unfold at1B at h
  rw [Bool.and_eq_true] at h
  refine ⟨h.1, fun {P R} p => ?_⟩
  cases d with
  | int i =>
    have h2 : (decide (0 ≤ i) && !(decide (1 ≤ i) && decide (i ≤ 12))) = true := h.2
    rw [Bool.and_eq_true, Bool.not_eq_true', decide_eq_true_eq] at h2
    refine .inr ⟨i, rfl, h2.1, .inl ⟨fun ⟨a, b⟩ => ?_, p⟩⟩
    rw [decide_eq_true a, decide_eq_true b] at h2
    exact absurd h2.2 (by decide)
  | _ => exact .inl ⟨rfl, p⟩
theorem somes_ok : (some2.all badB && (some3.all badB && (some4.all badB && some5.all badB))) = true := by decide +kernel
theorem b62 : (2 : Int) ^ 62 = 4611686018427387904 := by decide
/-- what stands in a turn of the law -/
def LwJ (S : PyData) (ρ : Sto) : Prop := ρ.length = 12 ∧ ρ[0]? = some (.sh S) ∧ ρ[1]? = some (.sh goodD) ∧ ∀ i : Nat, i ≠ 3 → i ≠ 6 → nbO ρ[i]?
theorem lwj_of {S : PyData} {ρ : Sto} (h : LwJ S ρ) : ∃ s2 s3 s4 s5 s6 s7 s8 s9 s10 s11, ρ = [.sh S, .sh goodD, s2, s3, s4, s5, s6, s7, s8, s9, s10, s11] ∧ nbO (some s2) ∧ nbO (some s4) ∧ nbO (some s5) ∧ nbO (some s7) ∧ nbO (some s8) ∧ nbO (some s9) ∧ nbO (some s10) ∧ nbO (some s11) := by
  obtain ⟨h1, h2, h2b, h3⟩ := h
  match ρ, h1 with
  | [s0, s1, s2, s3, s4, s5, s6, s7, s8, s9, s10, s11], _ =>
    cases h2
    cases h2b
    exact ⟨s2, s3, s4, s5, s6, s7, s8, s9, s10, s11, rfl, h3 2 (by decide) (by decide), h3 4 (by decide) (by decide), h3 5 (by decide) (by decide), h3 7 (by decide) (by decide), h3 8 (by decide) (by decide), h3 9 (by decide) (by decide), h3 10 (by decide) (by decide), h3 11 (by decide) (by decide)⟩
abbrev s_law : Stmt := top 66
theorem sc_law : FnScope ["script", "good", "k", "box", "some", "bad", "asks", "odd", "none", "paper", "fall", "ask"] ["script"] (defScope s_law) := ⟨rfl, rfl, rfl, by decide +kernel, rfl, by decide +kernel, by decide +kernel⟩
local macro_rules | `(tactic| walk_at "d") => `(tactic| simp only [↓dSeq, ↓dFor, ↓reprD, ↓dCallK, ↓dIfS, ↓dAndV, ↓dOrV, ↓dUn, ↓dOp, ↓dC, ↓dVar, ↓derefW, ↓deref, ↓known, ↓noOb, ↓nbO, ↓start0, ↓endsOf, ↓outA, ↓toB, ↓dAnd, ↓dOr, ↓dNot, ↓ofB, ↓dIf, ↓dChain, ↓dgName, ↓dgSeq, ↓dgCons, ↓dgNil, ↓dLc, ↓popW, ↓atOl, ↓isOl, ↓ownS, ↓frzD, ↓dCall, argsOf, argLc, obSlots, upS, upO, ↓noObs, ↓wipeD, List.map_cons, List.map_nil, List.length_cons, List.length_nil, Nat.sub_self, Nat.zero_add, Nat.reduceAdd, Nat.reduceSub, List.replicate, List.append_nil, List.cons_append, List.nil_append, List.getElem?_cons_zero, List.getElem?_cons_succ, List.getElem?_nil, List.set, List.head?, List.tail, Option.getD_some, Option.getD_none, List.nodup_nil, List.nodup_cons, List.not_mem_nil, List.mem_cons, List.mem_singleton, or_false, Nat.reduceEqDiff, true_and, and_true, Bool.not_true, Bool.not_false, if_true, Bool.false_eq_true, if_false, ite_true, ite_false, not_false_eq_true, reduceCtorEq, eqD_int, eqD_str, eqD_bl, eqD_tuple, eqD_list, eqD_tupleR, eqD_listR, eqD_non, neD_int, neD_str, neD_bl, neD_tuple, neD_list, neD_tupleR, neD_listR, neD_non, ↓isD, ↓notD, ix_0, ix_1, ix_2, ix_3, ix_4, ix_L0, ix_L1, ix_L2, itemsD_L, itemsD_T, tupleD_L, tupleD_T, listD_L, listD_T, lenD_L, lenD_T, lenD_S, slD_L, slD_T, addD_I, addD_S, addD_T, addD_L, subD_I, mulD_I, ltD_I, ltD_S, leD_I, gtD_I, geD_I, modD_I, fdivD_I, powD_I, intD_I, intD_B, negD_I, isND_N, isND_I, isND_S, isND_B, isND_T, isND_L, sq_T, sq_L, sq_N, sq_I, sq_S, sq_B, at_0, at_1, at_2, at_3, at_4, ↓isiD, pick, List.filterMap_cons_some, List.filterMap_nil, List.filterMap_cons, ↓ownC, ↓T1, ↓T2, ↓T3, ↓T4, ↓dHeard, ↓capsD, ↓slotsD, ↓lamW, lamSto, cpLc, ↓dHeardS, ↓dAsks, ↓asksW, ↓heardT, ↓Tbox, ↓Ttake, revD, sortSetD, dOl, isBD, ↓intW, ↓T_law_pick, goodD, stG, tpG, nextG, aheadG, kept2, lotsG, dForL, dAskE, boxT, swapT, unOb, noDi, noDiA])
theorem ok_law {f c Pl : Addr} {fd : FuncData} (F : DfC Z.K Z.mg "law" s_law ["script"] f fd c) (T : Tz Z.K Z.mg) (hst : ∀ s, Z.T.st s = none)
    (TB : LamX.TabB Z.base Z.mg c Pl) (hm : (Pl, fun _ _ => ("law" : Str) ++ ".<locals>." ++ "<lambda>") ∈ Z.T.L) (hu : ∀ p ∈ Z.T.L, p.1 = Pl → p.2 = fun _ _ => ("law" : Str) ++ ".<locals>." ++ "<lambda>") (hP : Pl ≠ Z.T.P) {C_Refused : Addr}
    {f_law_box : Addr} {fd_law_box : FuncData} (D_law_box : Df Z.K Z.mg "_law_box" s_law_box ["script", "k"] f_law_box fd_law_box) (G_law_box : FnD Z.Pg Z.w Z.K Z.mg Z.base CX0 63 f_law_box fd_law_box ["script", "k"] (spO Z (Tbox)))
    {f_law_pick : Addr} {fd_law_pick : FuncData} (D_law_pick : Df Z.K Z.mg "_law_pick" s_law_pick ["box", "some"] f_law_pick fd_law_pick) (G_law_pick : FnD Z.Pg Z.w Z.K Z.mg Z.base CX0 63 f_law_pick fd_law_pick ["box", "some"] (spT Z (T_law_pick)))
    {f_check_words_machine : Addr} {fd_check_words_machine : FuncData} (D_check_words_machine : Df Z.K Z.mg "check_words_machine" s_check_words_machine ["value"] f_check_words_machine fd_check_words_machine) (G_check_words_machine : FnD Z.Pg Z.w Z.K Z.mg Z.base (L2.CX Z.Pg Z.w) 59 f_check_words_machine fd_check_words_machine ["value"] (spT Z (T_check_words_machine C_Refused)))
    {f_counted : Addr} {fd_counted : FuncData} (D_counted : Df Z.K Z.mg "counted" s_counted ["words", "depth"] f_counted fd_counted) (G_counted : FnD Z.Pg Z.w Z.K Z.mg Z.base (L2.CX Z.Pg Z.w) 59 f_counted fd_counted ["words", "depth"] (spT Z (T_counted C_Refused)))
    {f_most_kinds : Addr} {fd_most_kinds : FuncData} (D_most_kinds : Df Z.K Z.mg "most_kinds" s_most_kinds ["words", "depth"] f_most_kinds fd_most_kinds) (G_most_kinds : FnD Z.Pg Z.w Z.K Z.mg Z.base (L2.CX Z.Pg Z.w) 59 f_most_kinds fd_most_kinds ["words", "depth"] (spT Z (T_most_kinds C_Refused)))
    {f_bits_at : Addr} {fd_bits_at : FuncData} (D_bits_at : Df Z.K Z.mg "bits_at" s_bits_at ["words", "depth"] f_bits_at fd_bits_at) (G_bits_at : FnD Z.Pg Z.w Z.K Z.mg Z.base (L2.CX Z.Pg Z.w) 59 f_bits_at fd_bits_at ["words", "depth"] (spT Z (T_bits_at C_Refused)))
    {f_useful : Addr} {fd_useful : FuncData} (D_useful : Df Z.K Z.mg "useful" s_useful ["words"] f_useful fd_useful) (G_useful : FnD Z.Pg Z.w Z.K Z.mg Z.base (L2.CX Z.Pg Z.w) 59 f_useful fd_useful ["words"] (spT Z (T_useful C_Refused)))
    {f_loops : Addr} {fd_loops : FuncData} (D_loops : Df Z.K Z.mg "loops" s_loops ["words"] f_loops fd_loops) (G_loops : FnD Z.Pg Z.w Z.K Z.mg Z.base (L2.CX Z.Pg Z.w) 59 f_loops fd_loops ["words"] (spT Z (T_loops C_Refused)))
    {f_growth : Addr} {fd_growth : FuncData} (D_growth : Df Z.K Z.mg "growth" s_growth ["words"] f_growth fd_growth) (G_growth : FnD Z.Pg Z.w Z.K Z.mg Z.base (L2.CX Z.Pg Z.w) 59 f_growth fd_growth ["words"] (spT Z (T_growth C_Refused)))
    {f_bits : Addr} {fd_bits : FuncData} (D_bits : Df Z.K Z.mg "bits" s_bits ["words"] f_bits fd_bits) (G_bits : FnD Z.Pg Z.w Z.K Z.mg Z.base (L2.CX Z.Pg Z.w) 59 f_bits fd_bits ["words"] (spT Z (T_bits C_Refused)))
    {f_rests : Addr} {fd_rests : FuncData} (D_rests : Df Z.K Z.mg "rests" s_rests ["words"] f_rests fd_rests) (G_rests : FnD Z.Pg Z.w Z.K Z.mg Z.base (L2.CX Z.Pg Z.w) 59 f_rests fd_rests ["words"] (spT Z (T_rests C_Refused)))
    {f_at_rest : Addr} {fd_at_rest : FuncData} (D_at_rest : Df Z.K Z.mg "at_rest" s_at_rest ["words", "modulo", "rest"] f_at_rest fd_at_rest) (G_at_rest : FnD Z.Pg Z.w Z.K Z.mg Z.base (L2.CX Z.Pg Z.w) 59 f_at_rest fd_at_rest ["words", "modulo", "rest"] (spT Z (T_at_rest C_Refused)))
    {f_grows : Addr} {fd_grows : FuncData} (D_grows : Df Z.K Z.mg "grows" s_grows ["words"] f_grows fd_grows) (G_grows : FnD Z.Pg Z.w Z.K Z.mg Z.base (L2.CX Z.Pg Z.w) 59 f_grows fd_grows ["words"] (spT Z (T_grows C_Refused)))
    {f_grows_holds : Addr} {fd_grows_holds : FuncData} (D_grows_holds : Df Z.K Z.mg "grows_holds" s_grows_holds ["words", "value"] f_grows_holds fd_grows_holds) (G_grows_holds : FnD Z.Pg Z.w Z.K Z.mg Z.base (L2.CX Z.Pg Z.w) 59 f_grows_holds fd_grows_holds ["words", "value"] (spT Z (T_grows_holds C_Refused)))
    {f_ranks : Addr} {fd_ranks : FuncData} (D_ranks : Df Z.K Z.mg "ranks" s_ranks ["words"] f_ranks fd_ranks) (G_ranks : FnD Z.Pg Z.w Z.K Z.mg Z.base (L2.CX Z.Pg Z.w) 59 f_ranks fd_ranks ["words"] (spT Z (T_ranks C_Refused)))
    {f_ranks_hold : Addr} {fd_ranks_hold : FuncData} (D_ranks_hold : Df Z.K Z.mg "ranks_hold" s_ranks_hold ["words", "value"] f_ranks_hold fd_ranks_hold) (G_ranks_hold : FnD Z.Pg Z.w Z.K Z.mg Z.base (L2.CX Z.Pg Z.w) 59 f_ranks_hold fd_ranks_hold ["words", "value"] (spT Z (T_ranks_hold C_Refused)))
    {f_law_refused : Addr} {fd_law_refused : FuncData} (D_law_refused : Df Z.K Z.mg "_law_refused" s_law_refused ["ask"] f_law_refused fd_law_refused) (G_law_refused : FnD Z.Pg Z.w Z.K Z.mg Z.base CX0 63 f_law_refused fd_law_refused ["ask"] (spT Z (heardT 62 (TH_refused C_Refused)))) : FnD Z.Pg Z.w Z.K Z.mg Z.base CX0 64 f fd ["script"] (spT Z (T_law)) := by
  refine okDC F sc_law (fun as Q er h => ?_) (fun A outer s H E G0 ca hr hgd hca => (dss_cons (ds_set (i := 1) sc_law.nd rfl (Or.inr rfl) (de_tup (da_cons de_int (da_cons de_int (da_cons (de_tup (da_cons (de_tup (da_cons (de_tup (da_cons de_int (da_cons de_int da_nil))) (da_cons (de_tup (da_cons de_int (da_cons de_int da_nil))) da_nil))) (da_cons (de_tup (da_cons (de_tup (da_cons de_int (da_cons de_int da_nil))) da_nil)) da_nil))) (da_cons (de_tup (da_cons (de_tup (da_cons de_int da_nil)) (da_cons (de_tup (da_cons de_int (da_cons de_int da_nil))) da_nil))) da_nil))))))
      (dss_cons (ds_for PassesOwn.never rfl (di_range (by rfl) T.range (de_max2 rfl (by rfl) T.max de_int (de_min2 rfl (by rfl) T.min (de_callB call_lenA cd_len (by rfl) T.len (by decide +kernel) (dr_var 0)) de_int))) (dg_name (i := 2) sc_law.nd rfl (Or.inl rfl))
        (dss_cons (ds_drop 3 (by decide) (ds_ownCall (i := 3) sc_law.nd rfl (Or.inl rfl) G_law_box hr hgd (by rfl) D_law_box.g D_law_box.F.kp D_law_box.b (drs_cons (dr_var 0) (drs_cons (dr_var 2) drs_nil))))
        (dss_cons (ds_drop 4 (by decide) (ds_own (i := 4) sc_law.nd rfl (Or.inl rfl) (df_lst (da_cons de_non (da_cons de_int (da_cons (de_slice (dr_var 1) do_none (do_some de_int)) (da_cons (de_tup (da_cons de_int (da_cons de_int (da_cons (de_tup da_nil) (da_cons (de_tup da_nil) da_nil))))) (da_cons (de_tup (da_cons de_int (da_cons de_int (da_cons (de_tup da_nil) (da_cons (de_tup da_nil) da_nil))))) (da_cons (de_op op_addA od_add (dr_of (de_tup (da_cons de_int (da_cons de_int da_nil)))) (dr_of (de_slice (dr_var 1) (do_some de_int) do_none))) (da_cons (de_tup (da_cons de_int (da_cons de_int (da_cons (de_slice (dr_of (de_ix (dr_var 1) (dr_of de_int))) do_none (do_some de_int)) (da_cons (de_ix (dr_var 1) (dr_of de_int)) da_nil))))) (da_cons (de_op op_addA od_add (dr_of (de_slice (dr_var 1) do_none (do_some de_int))) (dr_of (de_tup (da_cons (de_slice (dr_of (de_ix (dr_var 1) (dr_of de_int))) do_none (do_some de_int)) da_nil)))) da_nil)))))))))))
        (dss_cons (ds_frz 4 (by decide) (ds_own (i := 4) sc_law.nd rfl (Or.inl rfl) (df_cat (dr_var 4) (dr_of (de_of_df (df_lst (da_cons (de_tup (da_cons de_int (da_cons de_int (da_cons (de_tup (da_cons (de_tup (da_cons (de_tup (da_cons de_int (da_cons de_int da_nil))) (da_cons (de_tup (da_cons de_int (da_cons de_int da_nil))) da_nil))) (da_cons (de_tup da_nil) da_nil))) (da_cons (de_ix (dr_var 1) (dr_of de_int)) da_nil))))) (da_cons (de_tup (da_cons de_int (da_cons de_int (da_cons (de_tup (da_cons (de_tup (da_cons (de_tup (da_cons de_int (da_cons de_int da_nil))) (da_cons (de_tup (da_cons de_int (da_cons de_int da_nil))) da_nil))) (da_cons (de_tup da_nil) da_nil))) (da_cons (de_ix (dr_var 1) (dr_of de_int)) da_nil))))) (da_cons (de_tup (da_cons de_int (da_cons de_int (da_cons (de_tup (da_cons (de_tup (da_cons (de_tup (da_cons de_int (da_cons de_int da_nil))) da_nil)) (da_cons (de_tup da_nil) da_nil))) (da_cons (de_ix (dr_var 1) (dr_of de_int)) da_nil))))) da_nil)))))))))
        (dss_cons (ds_frz 4 (by decide) (ds_own (i := 4) sc_law.nd rfl (Or.inl rfl) (df_cat (dr_var 4) (dr_of (de_of_df (df_lst (da_cons (de_tup (da_cons de_int (da_cons de_int (da_cons (de_tup (da_cons (de_tup (da_cons (de_tup (da_cons de_int (da_cons de_int (da_cons de_int da_nil)))) da_nil)) (da_cons (de_tup da_nil) da_nil))) (da_cons (de_ix (dr_var 1) (dr_of de_int)) da_nil))))) (da_cons (de_tup (da_cons de_int (da_cons de_int (da_cons (de_tup (da_cons de_non (da_cons (de_tup da_nil) da_nil))) (da_cons (de_ix (dr_var 1) (dr_of de_int)) da_nil))))) (da_cons (de_tup (da_cons de_int (da_cons de_int (da_cons (de_tup (da_cons (de_tup da_nil) (da_cons (de_tup da_nil) da_nil))) (da_cons (de_tup (da_cons (de_tup (da_cons de_int (da_cons de_int da_nil))) (da_cons (de_tup da_nil) da_nil))) da_nil))))) (da_cons (de_tup (da_cons de_int (da_cons de_int (da_cons (de_tup (da_cons (de_tup da_nil) (da_cons (de_tup da_nil) da_nil))) (da_cons (de_tup (da_cons de_non (da_cons (de_tup da_nil) da_nil))) da_nil))))) da_nil))))))))))
        (dss_cons (ds_frz 4 (by decide) (ds_own (i := 4) sc_law.nd rfl (Or.inl rfl) (df_cat (dr_var 4) (dr_of (de_of_df (df_lst (da_cons (de_tup (da_cons de_bl (da_cons de_int (da_cons (de_tup (da_cons (de_tup da_nil) da_nil)) (da_cons (de_tup (da_cons (de_tup da_nil) da_nil)) da_nil))))) (da_cons (de_tup (da_cons de_int (da_cons de_int (da_cons (de_tup (da_cons (de_tup (da_cons (de_tup (da_cons (de_op op_sub od_sub (dr_of de_int) (dr_of de_int)) (da_cons de_int da_nil))) da_nil)) (da_cons (de_tup da_nil) da_nil))) (da_cons (de_ix (dr_var 1) (dr_of de_int)) da_nil))))) (da_cons (de_tup (da_cons de_int (da_cons de_bl (da_cons (de_tup (da_cons (de_tup da_nil) (da_cons (de_tup da_nil) da_nil))) (da_cons (de_tup (da_cons (de_tup da_nil) (da_cons (de_tup da_nil) da_nil))) da_nil))))) (da_cons de_str da_nil))))))))))
        (dss_cons (ds_app (ps_expr (pe_bm PySem.F.plainAttrs_list PySem.F.slot_list_append PySem.F.type_list_append mt_append (pv 4) (pa_cons (de_tup (da_cons de_int (da_cons de_int (da_cons (de_tup (da_cons (de_tup da_nil) (da_cons (de_tup da_nil) da_nil))) (da_cons (de_tup (da_cons (de_tup (da_cons de_int da_nil)) (da_cons (de_tup da_nil) da_nil))) da_nil))))) pa_nil))))
        (dss_cons (ds_frz 4 (by decide) (ds_set (i := 5) sc_law.nd rfl (Or.inr rfl) (de_call G_law_pick hr hgd (by rfl) D_law_pick.g D_law_pick.F.kp D_law_pick.b (drs_cons (dr_var 3) (drs_cons (dr_var 4) drs_nil)))))
        (dss_cons (ds_drop 6 (by decide) (ds_lams (ca := ca) (i := 6) sc_law.nd rfl (Or.inl rfl) (dl_cons hca (LamIs.mk (k := 59) (N := ["bad"]) (ps := []) (fr := ["bad"]) (js := [5]) (NdefX.nscope_by (by decide +kernel)) (free_by (sc := defScope s_law) rfl (by decide +kernel)) (by decide) rfl (fun _ _ _ _ _ us hl => match us, hl with | [], _ => rfl) (fun _ _ _ _ _ _ _ _ _ hEL hrL hgL => (de_callX hEL (passes_call (takes_of rfl rfl rfl rfl) fun _ _ _ _ h => h) G_check_words_machine hrL hgL (by rfl) D_check_words_machine.g D_check_words_machine.F.kp D_check_words_machine.b (drs_cons (dr_var 0) drs_nil)))) TB hm hu hP dl_nil)))
        (dss_cons (ds_appLam (ps_expr (pe_bm PySem.F.plainAttrs_list PySem.F.slot_list_append PySem.F.type_list_append mt_append (pv 6) (dl_cons hca (LamIs.mk (k := 59) (N := ["bad"]) (ps := []) (fr := ["bad"]) (js := [5]) (NdefX.nscope_by (by decide +kernel)) (free_by (sc := defScope s_law) rfl (by decide +kernel)) (by decide) rfl (fun _ _ _ _ _ us hl => match us, hl with | [], _ => rfl) (fun _ _ _ _ _ _ _ _ _ hEL hrL hgL => (de_callX hEL (passes_call (takes_of rfl rfl rfl rfl) fun _ _ _ _ h => h) G_counted hrL hgL (by rfl) D_counted.g D_counted.F.kp D_counted.b (drs_cons (dr_var 0) (drs_cons (dr_of de_non) drs_nil))))) TB hm hu hP dl_nil))))
        (dss_cons (ds_appLam (ps_expr (pe_bm PySem.F.plainAttrs_list PySem.F.slot_list_append PySem.F.type_list_append mt_append (pv 6) (dl_cons hca (LamIs.mk (k := 59) (N := ["bad"]) (ps := []) (fr := ["bad"]) (js := [5]) (NdefX.nscope_by (by decide +kernel)) (free_by (sc := defScope s_law) rfl (by decide +kernel)) (by decide) rfl (fun _ _ _ _ _ us hl => match us, hl with | [], _ => rfl) (fun _ _ _ _ _ _ _ _ _ hEL hrL hgL => (de_callX hEL (passes_call (takes_of rfl rfl rfl rfl) fun _ _ _ _ h => h) G_most_kinds hrL hgL (by rfl) D_most_kinds.g D_most_kinds.F.kp D_most_kinds.b (drs_cons (dr_var 0) (drs_cons (dr_of de_non) drs_nil))))) TB hm hu hP dl_nil))))
        (dss_cons (ds_appLam (ps_expr (pe_bm PySem.F.plainAttrs_list PySem.F.slot_list_append PySem.F.type_list_append mt_append (pv 6) (dl_cons hca (LamIs.mk (k := 59) (N := ["bad"]) (ps := []) (fr := ["bad"]) (js := [5]) (NdefX.nscope_by (by decide +kernel)) (free_by (sc := defScope s_law) rfl (by decide +kernel)) (by decide) rfl (fun _ _ _ _ _ us hl => match us, hl with | [], _ => rfl) (fun _ _ _ _ _ _ _ _ _ hEL hrL hgL => (de_callX hEL (passes_call (takes_of rfl rfl rfl rfl) fun _ _ _ _ h => h) G_bits_at hrL hgL (by rfl) D_bits_at.g D_bits_at.F.kp D_bits_at.b (drs_cons (dr_var 0) (drs_cons (dr_of de_non) drs_nil))))) TB hm hu hP dl_nil))))
        (dss_cons (ds_appLam (ps_expr (pe_bm PySem.F.plainAttrs_list PySem.F.slot_list_append PySem.F.type_list_append mt_append (pv 6) (dl_cons hca (LamIs.mk (k := 59) (N := ["bad"]) (ps := []) (fr := ["bad"]) (js := [5]) (NdefX.nscope_by (by decide +kernel)) (free_by (sc := defScope s_law) rfl (by decide +kernel)) (by decide) rfl (fun _ _ _ _ _ us hl => match us, hl with | [], _ => rfl) (fun _ _ _ _ _ _ _ _ _ hEL hrL hgL => (de_callX hEL (passes_call (takes_of rfl rfl rfl rfl) fun _ _ _ _ h => h) G_useful hrL hgL (by rfl) D_useful.g D_useful.F.kp D_useful.b (drs_cons (dr_var 0) drs_nil)))) TB hm hu hP dl_nil))))
        (dss_cons (ds_appLam (ps_expr (pe_bm PySem.F.plainAttrs_list PySem.F.slot_list_append PySem.F.type_list_append mt_append (pv 6) (dl_cons hca (LamIs.mk (k := 59) (N := ["bad"]) (ps := []) (fr := ["bad"]) (js := [5]) (NdefX.nscope_by (by decide +kernel)) (free_by (sc := defScope s_law) rfl (by decide +kernel)) (by decide) rfl (fun _ _ _ _ _ us hl => match us, hl with | [], _ => rfl) (fun _ _ _ _ _ _ _ _ _ hEL hrL hgL => (de_callX hEL (passes_call (takes_of rfl rfl rfl rfl) fun _ _ _ _ h => h) G_loops hrL hgL (by rfl) D_loops.g D_loops.F.kp D_loops.b (drs_cons (dr_var 0) drs_nil)))) TB hm hu hP dl_nil))))
        (dss_cons (ds_appLam (ps_expr (pe_bm PySem.F.plainAttrs_list PySem.F.slot_list_append PySem.F.type_list_append mt_append (pv 6) (dl_cons hca (LamIs.mk (k := 59) (N := ["bad"]) (ps := []) (fr := ["bad"]) (js := [5]) (NdefX.nscope_by (by decide +kernel)) (free_by (sc := defScope s_law) rfl (by decide +kernel)) (by decide) rfl (fun _ _ _ _ _ us hl => match us, hl with | [], _ => rfl) (fun _ _ _ _ _ _ _ _ _ hEL hrL hgL => (de_callX hEL (passes_call (takes_of rfl rfl rfl rfl) fun _ _ _ _ h => h) G_growth hrL hgL (by rfl) D_growth.g D_growth.F.kp D_growth.b (drs_cons (dr_var 0) drs_nil)))) TB hm hu hP dl_nil))))
        (dss_cons (ds_appLam (ps_expr (pe_bm PySem.F.plainAttrs_list PySem.F.slot_list_append PySem.F.type_list_append mt_append (pv 6) (dl_cons hca (LamIs.mk (k := 59) (N := ["bad"]) (ps := []) (fr := ["bad"]) (js := [5]) (NdefX.nscope_by (by decide +kernel)) (free_by (sc := defScope s_law) rfl (by decide +kernel)) (by decide) rfl (fun _ _ _ _ _ us hl => match us, hl with | [], _ => rfl) (fun _ _ _ _ _ _ _ _ _ hEL hrL hgL => (de_callX hEL (passes_call (takes_of rfl rfl rfl rfl) fun _ _ _ _ h => h) G_bits hrL hgL (by rfl) D_bits.g D_bits.F.kp D_bits.b (drs_cons (dr_var 0) drs_nil)))) TB hm hu hP dl_nil))))
        (dss_cons (ds_appLam (ps_expr (pe_bm PySem.F.plainAttrs_list PySem.F.slot_list_append PySem.F.type_list_append mt_append (pv 6) (dl_cons hca (LamIs.mk (k := 59) (N := ["bad"]) (ps := []) (fr := ["bad"]) (js := [5]) (NdefX.nscope_by (by decide +kernel)) (free_by (sc := defScope s_law) rfl (by decide +kernel)) (by decide) rfl (fun _ _ _ _ _ us hl => match us, hl with | [], _ => rfl) (fun _ _ _ _ _ _ _ _ _ hEL hrL hgL => (de_callX hEL (passes_call (takes_of rfl rfl rfl rfl) fun _ _ _ _ h => h) G_rests hrL hgL (by rfl) D_rests.g D_rests.F.kp D_rests.b (drs_cons (dr_var 0) drs_nil)))) TB hm hu hP dl_nil))))
        (dss_cons (ds_appLam (ps_expr (pe_bm PySem.F.plainAttrs_list PySem.F.slot_list_append PySem.F.type_list_append mt_append (pv 6) (dl_cons hca (LamIs.mk (k := 59) (N := ["bad"]) (ps := []) (fr := ["bad"]) (js := [5]) (NdefX.nscope_by (by decide +kernel)) (free_by (sc := defScope s_law) rfl (by decide +kernel)) (by decide) rfl (fun _ _ _ _ _ us hl => match us, hl with | [], _ => rfl) (fun _ _ _ _ _ _ _ _ _ hEL hrL hgL => (de_callX hEL (passes_call (takes_of rfl rfl rfl rfl) fun _ _ _ _ h => h) G_at_rest hrL hgL (by rfl) D_at_rest.g D_at_rest.F.kp D_at_rest.b (drs_cons (dr_var 0) (drs_cons (dr_of de_non) (drs_cons (dr_of de_non) drs_nil)))))) TB hm hu hP dl_nil))))
        (dss_cons (ds_appLam (ps_expr (pe_bm PySem.F.plainAttrs_list PySem.F.slot_list_append PySem.F.type_list_append mt_append (pv 6) (dl_cons hca (LamIs.mk (k := 59) (N := ["bad"]) (ps := []) (fr := ["bad"]) (js := [5]) (NdefX.nscope_by (by decide +kernel)) (free_by (sc := defScope s_law) rfl (by decide +kernel)) (by decide) rfl (fun _ _ _ _ _ us hl => match us, hl with | [], _ => rfl) (fun _ _ _ _ _ _ _ _ _ hEL hrL hgL => (de_callX hEL (passes_call (takes_of rfl rfl rfl rfl) fun _ _ _ _ h => h) G_grows hrL hgL (by rfl) D_grows.g D_grows.F.kp D_grows.b (drs_cons (dr_var 0) drs_nil)))) TB hm hu hP dl_nil))))
        (dss_cons (ds_appLam (ps_expr (pe_bm PySem.F.plainAttrs_list PySem.F.slot_list_append PySem.F.type_list_append mt_append (pv 6) (dl_cons hca (LamIs.mk (k := 59) (N := ["bad"]) (ps := []) (fr := ["bad"]) (js := [5]) (NdefX.nscope_by (by decide +kernel)) (free_by (sc := defScope s_law) rfl (by decide +kernel)) (by decide) rfl (fun _ _ _ _ _ us hl => match us, hl with | [], _ => rfl) (fun _ _ _ _ _ _ _ _ _ hEL hrL hgL => (de_callX hEL (passes_call (takes_of rfl rfl rfl rfl) fun _ _ _ _ h => h) G_grows_holds hrL hgL (by rfl) D_grows_holds.g D_grows_holds.F.kp D_grows_holds.b (drs_cons (dr_var 0) (drs_cons (dr_of de_non) drs_nil))))) TB hm hu hP dl_nil))))
        (dss_cons (ds_appLam (ps_expr (pe_bm PySem.F.plainAttrs_list PySem.F.slot_list_append PySem.F.type_list_append mt_append (pv 6) (dl_cons hca (LamIs.mk (k := 59) (N := ["bad"]) (ps := []) (fr := ["bad"]) (js := [5]) (NdefX.nscope_by (by decide +kernel)) (free_by (sc := defScope s_law) rfl (by decide +kernel)) (by decide) rfl (fun _ _ _ _ _ us hl => match us, hl with | [], _ => rfl) (fun _ _ _ _ _ _ _ _ _ hEL hrL hgL => (de_callX hEL (passes_call (takes_of rfl rfl rfl rfl) fun _ _ _ _ h => h) G_ranks hrL hgL (by rfl) D_ranks.g D_ranks.F.kp D_ranks.b (drs_cons (dr_var 0) drs_nil)))) TB hm hu hP dl_nil))))
        (dss_cons (ds_appLam (ps_expr (pe_bm PySem.F.plainAttrs_list PySem.F.slot_list_append PySem.F.type_list_append mt_append (pv 6) (dl_cons hca (LamIs.mk (k := 59) (N := ["bad"]) (ps := []) (fr := ["bad"]) (js := [5]) (NdefX.nscope_by (by decide +kernel)) (free_by (sc := defScope s_law) rfl (by decide +kernel)) (by decide) rfl (fun _ _ _ _ _ us hl => match us, hl with | [], _ => rfl) (fun _ _ _ _ _ _ _ _ _ hEL hrL hgL => (de_callX hEL (passes_call (takes_of rfl rfl rfl rfl) fun _ _ _ _ h => h) G_ranks_hold hrL hgL (by rfl) D_ranks_hold.g D_ranks_hold.F.kp D_ranks_hold.b (drs_cons (dr_var 0) (drs_cons (dr_of de_non) drs_nil))))) TB hm hu hP dl_nil))))
        (dss_cons (ds_if (dt_cmp (op_neA hr.units) od_ne (dr_of (de_of_df (df_asks (r := rNeA Z.K) (fO := neD) (ia := 6) (ik := 11) (ja := [1, 5, 7, 8]) rfl sc_law.nd hca (cj_cons ⟨_, rfl, rfl, rfl⟩ (cj_cons ⟨_, rfl, rfl, rfl⟩ (cj_cons ⟨_, rfl, rfl, rfl⟩ (cj_cons ⟨_, rfl, rfl, rfl⟩ cj_nil)))) hst (blkOk_by (own := [("ask", 11)]) (N := ["script", "good", "k", "box", "some", "bad", "asks", "odd", "none", "paper", "fall", "ask"]) (sc := defScope s_law) (by decide +kernel)) rfl (Or.inl rfl) (by decide) (by decide) G_law_refused hr hgd D_law_refused.g D_law_refused.F.kp D_law_refused.b (fun _ _ _ _ _ => by rfl) (fun _ _ _ _ _ => pg_name (i := 11) sc_law.nd rfl (Or.inl rfl) (by first | exact .inl rfl | exact .inr rfl)) (fun _ _ _ _ _ => pa_cons (pv 11) pa_nil) (fun _ _ _ _ _ => (op_neA hr.units)) (fun _ _ _ _ _ => od_ne) (fun _ _ _ _ _ => (de_tup (da_cons (de_callB (call_reprA hgd hr.units) cd_repr (by rfl) T.repr (by decide +kernel) (dr_var 5)) (da_cons de_bl da_nil)))) (nomark _)))) (dr_of (de_of_df (df_lst da_nil))) (nomark _))
          (dss_one (ds_ret de_bl))
          dss_nil)
        (dss_cons (ds_set (i := 7) sc_law.nd rfl (Or.inr rfl) (de_call G_law_pick hr hgd (by rfl) D_law_pick.g D_law_pick.F.kp D_law_pick.b (drs_cons (dr_var 3) (drs_cons (dr_of (de_of_df (df_lst (da_cons de_non (da_cons (de_op op_sub od_sub (dr_of de_int) (dr_of de_int)) (da_cons de_bl (da_cons de_str (da_cons (de_tup da_nil) da_nil)))))))) drs_nil))))
        (dss_cons (ds_drop 6 (by decide) (ds_lams (ca := ca) (i := 6) sc_law.nd rfl (Or.inl rfl) (dl_cons hca (LamIs.mk (k := 59) (N := ["good", "odd"]) (ps := []) (fr := ["good", "odd"]) (js := [1, 7]) (NdefX.nscope_by (by decide +kernel)) (free_by (sc := defScope s_law) rfl (by decide +kernel)) (by decide) rfl (fun _ _ _ _ _ us hl => match us, hl with | [], _ => rfl) (fun _ _ _ _ _ _ _ _ _ hEL hrL hgL => (de_callX hEL (passes_call (takes_of rfl rfl rfl rfl) fun _ _ _ _ h => h) G_counted hrL hgL (by rfl) D_counted.g D_counted.F.kp D_counted.b (drs_cons (dr_var 0) (drs_cons (dr_var 1) drs_nil))))) TB hm hu hP dl_nil)))
        (dss_cons (ds_appLam (ps_expr (pe_bm PySem.F.plainAttrs_list PySem.F.slot_list_append PySem.F.type_list_append mt_append (pv 6) (dl_cons hca (LamIs.mk (k := 59) (N := ["good", "odd"]) (ps := []) (fr := ["good", "odd"]) (js := [1, 7]) (NdefX.nscope_by (by decide +kernel)) (free_by (sc := defScope s_law) rfl (by decide +kernel)) (by decide) rfl (fun _ _ _ _ _ us hl => match us, hl with | [], _ => rfl) (fun _ _ _ _ _ _ _ _ _ hEL hrL hgL => (de_callX hEL (passes_call (takes_of rfl rfl rfl rfl) fun _ _ _ _ h => h) G_most_kinds hrL hgL (by rfl) D_most_kinds.g D_most_kinds.F.kp D_most_kinds.b (drs_cons (dr_var 0) (drs_cons (dr_var 1) drs_nil))))) TB hm hu hP dl_nil))))
        (dss_cons (ds_appLam (ps_expr (pe_bm PySem.F.plainAttrs_list PySem.F.slot_list_append PySem.F.type_list_append mt_append (pv 6) (dl_cons hca (LamIs.mk (k := 59) (N := ["good", "odd"]) (ps := []) (fr := ["good", "odd"]) (js := [1, 7]) (NdefX.nscope_by (by decide +kernel)) (free_by (sc := defScope s_law) rfl (by decide +kernel)) (by decide) rfl (fun _ _ _ _ _ us hl => match us, hl with | [], _ => rfl) (fun _ _ _ _ _ _ _ _ _ hEL hrL hgL => (de_callX hEL (passes_call (takes_of rfl rfl rfl rfl) fun _ _ _ _ h => h) G_bits_at hrL hgL (by rfl) D_bits_at.g D_bits_at.F.kp D_bits_at.b (drs_cons (dr_var 0) (drs_cons (dr_var 1) drs_nil))))) TB hm hu hP dl_nil))))
        (dss_cons (ds_if (dt_cmp (op_neA hr.units) od_ne (dr_of (de_of_df (df_asks (r := rNeA Z.K) (fO := neD) (ia := 6) (ik := 11) (ja := [1, 5, 7, 8]) rfl sc_law.nd hca (cj_cons ⟨_, rfl, rfl, rfl⟩ (cj_cons ⟨_, rfl, rfl, rfl⟩ (cj_cons ⟨_, rfl, rfl, rfl⟩ (cj_cons ⟨_, rfl, rfl, rfl⟩ cj_nil)))) hst (blkOk_by (own := [("ask", 11)]) (N := ["script", "good", "k", "box", "some", "bad", "asks", "odd", "none", "paper", "fall", "ask"]) (sc := defScope s_law) (by decide +kernel)) rfl (Or.inl rfl) (by decide) (by decide) G_law_refused hr hgd D_law_refused.g D_law_refused.F.kp D_law_refused.b (fun _ _ _ _ _ => by rfl) (fun _ _ _ _ _ => pg_name (i := 11) sc_law.nd rfl (Or.inl rfl) (by first | exact .inl rfl | exact .inr rfl)) (fun _ _ _ _ _ => pa_cons (pv 11) pa_nil) (fun _ _ _ _ _ => (op_neA hr.units)) (fun _ _ _ _ _ => od_ne) (fun _ _ _ _ _ => (de_tup (da_cons (de_callB (call_reprA hgd hr.units) cd_repr (by rfl) T.repr (by decide +kernel) (dr_var 7)) (da_cons de_bl da_nil)))) (nomark _)))) (dr_of (de_of_df (df_lst da_nil))) (nomark _))
          (dss_one (ds_ret de_bl))
          dss_nil)
        (dss_cons (ds_asg (de_tup (da_cons (de_call G_law_pick hr hgd (by rfl) D_law_pick.g D_law_pick.F.kp D_law_pick.b (drs_cons (dr_var 3) (drs_cons (dr_of (de_of_df (df_lst (da_cons de_non (da_cons de_int (da_cons de_int (da_cons de_bl (da_cons de_str da_nil)))))))) drs_nil))) (da_cons (de_call G_law_pick hr hgd (by rfl) D_law_pick.g D_law_pick.F.kp D_law_pick.b (drs_cons (dr_var 3) (drs_cons (dr_of (de_of_df (df_lst (da_cons de_non (da_cons de_int (da_cons (de_op op_sub od_sub (dr_of de_int) (dr_of de_int)) (da_cons de_bl (da_cons de_str da_nil)))))))) drs_nil))) da_nil))) (dg_seq (m := 2) rfl (dgs_cons (dg_name (i := 7) sc_law.nd rfl (Or.inr rfl)) (dgs_cons (dg_name (i := 8) sc_law.nd rfl (Or.inr rfl)) dgs_nil))))
        (dss_cons (ds_if (dt_cmp (op_neA hr.units) od_ne (dr_of (de_heardL (ja := [1, 5, 7, 8]) sc_law.nd hca (cj_cons ⟨_, rfl, rfl, rfl⟩ (cj_cons ⟨_, rfl, rfl, rfl⟩ (cj_cons ⟨_, rfl, rfl, rfl⟩ (cj_cons ⟨_, rfl, rfl, rfl⟩ cj_nil)))) (LamIs.mk (k := 61) (N := ["good", "odd", "none"]) (ps := []) (fr := ["good", "odd", "none"]) (js := [1, 7, 8]) (NdefX.nscope_by (by decide +kernel)) (free_by (sc := defScope s_law) rfl (by decide +kernel)) (by decide) rfl (fun _ _ _ _ _ us hl => match us, hl with | [], _ => rfl) (fun _ _ _ _ _ _ _ _ _ hEL hrL hgL => (de_callX hEL (passes_call (takes_of rfl rfl rfl rfl) fun _ _ _ _ h => h) (G_at_rest.mono (by decide)) hrL hgL (by rfl) D_at_rest.g D_at_rest.F.kp D_at_rest.b (drs_cons (dr_var 0) (drs_cons (dr_var 1) (drs_cons (dr_var 2) drs_nil)))))) (by decide) (by decide) hst TB hm hu hP G_law_refused hr hgd (by rfl) D_law_refused.g D_law_refused.F.kp D_law_refused.b)) (dr_of (de_tup (da_cons (de_callB (call_reprA hgd hr.units) cd_repr (by rfl) T.repr (by decide +kernel) (dr_var 7)) (da_cons de_bl da_nil)))) (nomark _))
          (dss_one (ds_ret de_bl))
          dss_nil)
        (dss_cons (ds_if (dt_cmp (op_neA hr.units) od_ne (dr_of (de_heardL (ja := [1, 5, 7, 8]) sc_law.nd hca (cj_cons ⟨_, rfl, rfl, rfl⟩ (cj_cons ⟨_, rfl, rfl, rfl⟩ (cj_cons ⟨_, rfl, rfl, rfl⟩ (cj_cons ⟨_, rfl, rfl, rfl⟩ cj_nil)))) (LamIs.mk (k := 61) (N := ["good", "none"]) (ps := []) (fr := ["good", "none"]) (js := [1, 8]) (NdefX.nscope_by (by decide +kernel)) (free_by (sc := defScope s_law) rfl (by decide +kernel)) (by decide) rfl (fun _ _ _ _ _ us hl => match us, hl with | [], _ => rfl) (fun _ _ _ _ _ _ _ _ _ hEL hrL hgL => (de_callX hEL (passes_call (takes_of rfl rfl rfl rfl) fun _ _ _ _ h => h) (G_at_rest.mono (by decide)) hrL hgL (by rfl) D_at_rest.g D_at_rest.F.kp D_at_rest.b (drs_cons (dr_var 0) (drs_cons (dr_of de_int) (drs_cons (dr_var 1) drs_nil)))))) (by decide) (by decide) hst TB hm hu hP G_law_refused hr hgd (by rfl) D_law_refused.g D_law_refused.F.kp D_law_refused.b)) (dr_of (de_tup (da_cons (de_callB (call_reprA hgd hr.units) cd_repr (by rfl) T.repr (by decide +kernel) (dr_var 8)) (da_cons de_bl da_nil)))) (nomark _))
          (dss_one (ds_ret de_bl))
          dss_nil)
        (dss_cons (ds_set (i := 9) sc_law.nd rfl (Or.inl rfl) (de_call G_law_pick hr hgd (by rfl) D_law_pick.g D_law_pick.F.kp D_law_pick.b (drs_cons (dr_var 3) (drs_cons (dr_of (de_of_df (df_lst (da_cons de_non (da_cons de_int (da_cons (de_tup da_nil) (da_cons (de_tup (da_cons de_str da_nil)) (da_cons (de_tup (da_cons de_str (da_cons (de_tup da_nil) (da_cons de_non da_nil)))) (da_cons (de_tup (da_cons de_str (da_cons de_non (da_cons (de_tup da_nil) da_nil)))) (da_cons (de_tup (da_cons de_str (da_cons (de_of_df (df_lst (da_cons (de_tup (da_cons (de_tup da_nil) (da_cons (de_tup da_nil) da_nil))) da_nil))) (da_cons (de_tup da_nil) da_nil)))) (da_cons (de_tup (da_cons de_str (da_cons (de_of_df (df_lst (da_cons (de_tup (da_cons (de_tup da_nil) da_nil)) da_nil))) (da_cons (de_tup da_nil) da_nil)))) (da_cons (de_tup (da_cons de_str (da_cons (de_tup da_nil) (da_cons (de_tup da_nil) da_nil)))) da_nil)))))))))))) drs_nil))))
        (dss_cons (ds_set (i := 9) sc_law.nd rfl (Or.inl rfl) (de_call G_law_pick hr hgd (by rfl) D_law_pick.g D_law_pick.F.kp D_law_pick.b (drs_cons (dr_var 3) (drs_cons (dr_of (de_of_df (df_lst (da_cons (de_var 9) (da_cons (de_tup (da_cons de_str (da_cons (de_tup da_nil) (da_cons (de_tup (da_cons de_int da_nil)) (da_cons (de_tup (da_cons de_int da_nil)) (da_cons (de_tup da_nil) da_nil)))))) (da_cons (de_tup (da_cons de_str (da_cons (de_tup da_nil) (da_cons (de_tup (da_cons de_int da_nil)) (da_cons (de_tup (da_cons de_int da_nil)) (da_cons (de_tup da_nil) da_nil)))))) (da_cons (de_tup (da_cons de_str (da_cons (de_tup da_nil) (da_cons de_non (da_cons (de_tup (da_cons de_int da_nil)) (da_cons (de_tup da_nil) da_nil)))))) (da_cons (de_tup (da_cons de_str (da_cons (de_tup da_nil) da_nil))) (da_cons (de_of_df (df_lst (da_cons de_str (da_cons (de_of_df (df_lst (da_cons (de_of_df (df_lst (da_cons (de_tup (da_cons de_non da_nil)) (da_cons (de_tup (da_cons de_int da_nil)) da_nil)))) da_nil))) (da_cons (de_of_df (df_lst da_nil)) da_nil))))) (da_cons de_str da_nil)))))))))) drs_nil))))
        (dss_cons (ds_if (dt_cmp op_isnotB od_isB (dr_of (de_callX errL_no passes_no (G_grows_holds.mono (by decide)) hr hgd (by rfl) D_grows_holds.g D_grows_holds.F.kp D_grows_holds.b (drs_cons (dr_var 1) (drs_cons (dr_var 9) drs_nil)))) (dr_of de_bl) (nomark _))
          (dss_one (ds_ret de_bl))
          dss_nil)
        (dss_cons (ds_set (i := 10) sc_law.nd rfl (Or.inl rfl) (de_call G_law_pick hr hgd (by rfl) D_law_pick.g D_law_pick.F.kp D_law_pick.b (drs_cons (dr_var 3) (drs_cons (dr_of (de_of_df (df_lst (da_cons de_non (da_cons de_int (da_cons (de_tup da_nil) (da_cons (de_tup (da_cons (de_tup (da_cons de_int (da_cons de_int (da_cons de_int da_nil)))) da_nil)) (da_cons (de_tup (da_cons (de_tup (da_cons de_int (da_cons de_int (da_cons de_int da_nil)))) (da_cons de_non da_nil))) (da_cons (de_tup (da_cons (de_tup (da_cons de_int (da_cons de_int (da_cons de_int da_nil)))) (da_cons (de_tup (da_cons de_int (da_cons de_int da_nil))) da_nil))) (da_cons (de_tup (da_cons (de_tup (da_cons de_int (da_cons de_int (da_cons de_int da_nil)))) (da_cons (de_tup (da_cons de_int (da_cons de_int (da_cons de_str da_nil)))) da_nil))) (da_cons (de_tup (da_cons (de_tup (da_cons de_bl (da_cons de_int (da_cons de_int da_nil)))) (da_cons (de_tup (da_cons de_int (da_cons de_int (da_cons de_int da_nil)))) da_nil))) (da_cons (de_tup (da_cons (de_tup (da_cons de_int (da_cons de_int (da_cons de_int da_nil)))) (da_cons (de_tup (da_cons de_int (da_cons de_int (da_cons de_int da_nil)))) da_nil))) (da_cons de_str da_nil))))))))))))) drs_nil))))
        (dss_one (ds_if (DW.dt (dw_or (dt_cmp op_isnotB od_isB (dr_of (de_callX errL_no passes_no (G_ranks_hold.mono (by decide)) hr hgd (by rfl) D_ranks_hold.g D_ranks_hold.F.kp D_ranks_hold.b (drs_cons (dr_var 1) (drs_cons (dr_var 10) drs_nil)))) (dr_of de_bl) (nomark _)) (dw_or1 (dt_cmp op_isnotB od_isB (dr_of (de_callX errL_no passes_no (G_ranks_hold.mono (by decide)) hr hgd (by rfl) D_ranks_hold.g D_ranks_hold.F.kp D_ranks_hold.b (drs_cons (dr_var 1) (drs_cons (dr_of (de_of_df (df_lst (da_cons (de_of_df (df_lst (da_cons de_int (da_cons de_int (da_cons de_int da_nil))))) (da_cons (de_of_df (df_lst (da_cons de_int (da_cons de_int (da_cons de_int da_nil))))) da_nil))))) drs_nil)))) (dr_of de_bl) (nomark _)))))
          (dss_one (ds_ret de_bl))
          dss_nil)))))))))))))))))))))))))))))))))))))
      (dss_one (ds_ret de_bl))))) (fun ca as Q er h => ?_)
  · obtain ⟨D, rfl, _⟩ := t1_inv h
    rfl
  · obtain ⟨D, rfl, ns, rfl, hl, q⟩ := t1_inv h
    refine dSeq_go fun N1 hN1 => ?_
    walk_at "d"
    have b2 : 2 ≤ sizeLine := by decide
    have b1 : 1 ≤ sizeLine := by decide
    have b4 : 4 ≤ sizeLine := by decide
    refine ⟨b2, b2, b2, b2, b1, b2, b1, b2, b2, b4, ?_⟩
    subst hN1
    refine dSeq_for fun B N hB hN => ?_
    walk_at "d"
    rw [b62]
    refine ⟨by split <;> (try split) <;> omega, by split <;> (try split) <;> omega, ?_⟩
    have rm : ∀ d ∈ rngD 0 (if (if 12 < ((List.map PyData.int ns).length : Int) then 12 else ((List.map PyData.int ns).length : Int)) > 5 then if 12 < ((List.map PyData.int ns).length : Int) then 12 else ((List.map PyData.int ns).length : Int) else 5).toNat, ∃ k : Nat, d = .int (k : Nat) ∧ k < 1000 := fun d m => by
      unfold rngD at m
      obtain ⟨k, mk, rfl⟩ := List.mem_map.mp m
      have := List.mem_range.mp mk
      exact ⟨k, by rw [Int.zero_add], by revert this; split <;> (try split) <;> omega⟩
    refine forW_go (fun ds ρ => (∀ d ∈ ds, ∃ k : Nat, d = .int (k : Nat) ∧ k < 1000) ∧ LwJ (.list (ns.map .int)) ρ) ?_ ?_ _ _ ⟨rm, rfl, rfl, rfl, fun i _ _ => ?_⟩
    · rintro ρ ⟨_, j⟩
      obtain ⟨s2, s3, s4, s5, s6, s7, s8, s9, s10, s11, rfl, _⟩ := lwj_of j
      subst hN
      walk_at "d"
      exact q
    · rintro K d ds ρ ⟨hd, j⟩ ih
      obtain ⟨k, rfl, hk⟩ := hd d List.mem_cons_self
      obtain ⟨s2, s3, s4, s5, s6, s7, s8, s9, s10, s11, rfl, h2, h4, h5, h7, h8, h9, h10, h11⟩ := lwj_of j
      walk_at "d"
      refine ⟨h2, ?_⟩
      subst hB
      refine dSeq_go fun N1 hN1 => ?_
      walk_at "d"
      refine ⟨ns, k, rfl, hl, by omega, by decide, fun b => ?_⟩
      subst hN1
      refine dSeq_go fun N2 hN2 => ?_
      walk_at "k"
      refine ⟨(by show 4 < 12; decide), trivial, fun p => ?_⟩
      dsimp only [List.set]
      generalize hA : [PyData.none, .int 5, .tuple _, .tuple _, .tuple _, .tuple _, .tuple _, .tuple _] = A
      have okA : (A.all badB) = true := by
        rw [← hA]
        decide +kernel
      have lA : A.length = 8 := by
        rw [← hA]
        rfl
      clear hA
      have oks := somes_ok
      rw [Bool.and_eq_true, Bool.and_eq_true, Bool.and_eq_true] at oks
      obtain ⟨oksome2, oksome3, oksome4, oksome5⟩ := oks
      subst hN2
      refine dSeq_go fun N3 hN3 => ?_
      walk_at "k"
      refine ⟨(by show A.length + 3 ≤ sizeLine; rw [lA]; decide), (by show 4 < 12; decide), trivial, fun p2 => ?_⟩
      show N3 [.sh (.list (ns.map .int)), .sh goodD, .sh (.int (k : Nat)), .ob b .box, .ob p2 (.lst (A ++ some2)), s5, s6, s7, s8, s9, s10, s11]
      obtain ⟨B, hB⟩ : ∃ L0, A ++ some2 = L0 := ⟨_, rfl⟩
      have lB : B.length = 11 := by rw [← hB, List.length_append, lA]; rfl
      have okB : (B.all badB) = true := by rw [← hB, List.all_append, okA, oksome2]; rfl
      rw [hB]
      clear hB okA lA
      subst hN3
      refine dSeq_go fun N4 hN4 => ?_
      walk_at "k"
      refine ⟨(by show B.length + 4 ≤ sizeLine; rw [lB]; decide), (by show 4 < 12; decide), trivial, fun p3 => ?_⟩
      show N4 [.sh (.list (ns.map .int)), .sh goodD, .sh (.int (k : Nat)), .ob b .box, .ob p3 (.lst (B ++ some3)), s5, s6, s7, s8, s9, s10, s11]
      obtain ⟨A2, hA2⟩ : ∃ L0, B ++ some3 = L0 := ⟨_, rfl⟩
      have lA2 : A2.length = 15 := by rw [← hA2, List.length_append, lB]; rfl
      have okA2 : (A2.all badB) = true := by rw [← hA2, List.all_append, okB, oksome3]; rfl
      rw [hA2]
      clear hA2 okB lB
      subst hN4
      refine dSeq_go fun N5 hN5 => ?_
      walk_at "k"
      refine ⟨(by show A2.length + 4 ≤ sizeLine; rw [lA2]; decide), (by show 4 < 12; decide), trivial, fun p4 => ?_⟩
      show N5 [.sh (.list (ns.map .int)), .sh goodD, .sh (.int (k : Nat)), .ob b .box, .ob p4 (.lst (A2 ++ some4)), s5, s6, s7, s8, s9, s10, s11]
      obtain ⟨B2, hB2⟩ : ∃ L0, A2 ++ some4 = L0 := ⟨_, rfl⟩
      have lB2 : B2.length = 19 := by rw [← hB2, List.length_append, lA2]; rfl
      have okB2 : (B2.all badB) = true := by rw [← hB2, List.all_append, okA2, oksome4]; rfl
      rw [hB2]
      clear hB2 okA2 lA2
      subst hN5
      refine dSeq_go fun N6 hN6 => ?_
      walk_at "k"
      refine ⟨(by show B2.length < sizeLine; rw [lB2]; decide), ?_⟩
      show N6 [.sh (.list (ns.map .int)), .sh goodD, .sh (.int (k : Nat)), .ob b .box, .ob p4 (.lst (B2 ++ some5)), s5, s6, s7, s8, s9, s10, s11]
      obtain ⟨L, hL⟩ : ∃ L0, B2 ++ some5 = L0 := ⟨_, rfl⟩
      have lL : L.length = 20 := by rw [← hL, List.length_append, lB2]; rfl
      have okL : (L.all badB) = true := by rw [← hL, List.all_append, okB2, oksome5]; rfl
      rw [hL]
      clear hL okB2 lB2
      subst hN6
      refine dSeq_go fun N7 hN7 => ?_
      walk_at "d"
      refine ⟨by show 0 < L.length; rw [lL]; decide, by show L.length < 1000; rw [lL]; decide, fun bad hbad => ⟨h5, ?_⟩⟩
      have okb : badB bad = true := List.all_eq_true.mp okL bad hbad
      clear hbad
      subst hN7
      refine dSeq_go fun N8 hN8 => ?_
      walk_at "d"
      refine ⟨⟨by decide, by decide⟩, fun pa => ?_⟩
      subst hN8
      refine dSeq_go fun N9 hN9 => ?_
      walk_at "d"
      (try refine ⟨by decide, ?_⟩)
      subst hN9
      refine dSeq_go fun N10 hN10 => ?_
      walk_at "d"
      (try refine ⟨by decide, ?_⟩)
      subst hN10
      refine dSeq_go fun N11 hN11 => ?_
      walk_at "d"
      (try refine ⟨by decide, ?_⟩)
      subst hN11
      refine dSeq_go fun N12 hN12 => ?_
      walk_at "d"
      (try refine ⟨by decide, ?_⟩)
      subst hN12
      refine dSeq_go fun N13 hN13 => ?_
      walk_at "d"
      (try refine ⟨by decide, ?_⟩)
      subst hN13
      refine dSeq_go fun N14 hN14 => ?_
      walk_at "d"
      (try refine ⟨by decide, ?_⟩)
      subst hN14
      refine dSeq_go fun N15 hN15 => ?_
      walk_at "d"
      (try refine ⟨by decide, ?_⟩)
      subst hN15
      refine dSeq_go fun N16 hN16 => ?_
      walk_at "d"
      (try refine ⟨by decide, ?_⟩)
      subst hN16
      refine dSeq_go fun N17 hN17 => ?_
      walk_at "d"
      (try refine ⟨by decide, ?_⟩)
      subst hN17
      refine dSeq_go fun N18 hN18 => ?_
      walk_at "d"
      (try refine ⟨by decide, ?_⟩)
      subst hN18
      refine dSeq_go fun N19 hN19 => ?_
      walk_at "d"
      (try refine ⟨by decide, ?_⟩)
      subst hN19
      refine dSeq_go fun N20 hN20 => ?_
      walk_at "d"
      (try refine ⟨by decide, ?_⟩)
      subst hN20
      refine dSeq_go fun N21 hN21 => ?_
      walk_at "d"
      (try refine ⟨by decide, ?_⟩)
      subst hN21
      refine dSeq_go fun N22 hN22 => ?_
      walk_at "d"
      have okb2 := okb
      unfold badB at okb2
      rw [Bool.and_eq_true, Bool.and_eq_true, Bool.not_eq_true'] at okb2
      obtain ⟨wf, wm, clb⟩ := okb2
      obtain ⟨okD, rp⟩ := cl_ok clb
      have shb : SeqAt.shaped (.tuple [.str (repD bad), .bool true]) = true := sh_flat fun y m => by
        simp only [List.mem_cons, List.not_mem_nil, or_false] at m
        rcases m with rfl | rfl
        · exact ⟨so_rep okD.lay, rfl⟩
        · exact ⟨rfl, rfl⟩
      have lyb : (PyData.tuple [.str (repD bad), .bool true]).canLay0 = true := by
        unfold SeqAt.shaped at shb
        exact (Bool.and_eq_true_iff.mp shb).1
      have evb : PyData.bool (!(PyData.tuple [.str (repD bad), .bool true]).eqv (.tuple [.str (repD bad), .bool true])) = .bool false := congrArg (fun z => PyData.bool (!z)) (eqv_l lyb)
      have m5 : ∀ j : Nat, j = 5 → j = 1 ∨ j = 5 ∨ j = 7 ∨ j = 8 := fun j e => .inr (.inl e)
      have bw : BadW C_Refused bad (fun er => TH_refused C_Refused (.err er.1 er.2) fun D => repOk bad ∧ 2 ≤ sizeLine ∧ SeqAt.shaped D = true ∧ SeqAt.shaped (.tuple [.str (repD bad), .bool true]) = true ∧ (PyData.bool (!D.eqv (.tuple [.str (repD bad), .bool true]))) = .bool false) := ⟨wf, wm, rfl, rp, rp, b2, shb, shb, evb⟩
      refine ⟨⟨by decide, by decide, h11, by decide⟩, ?_⟩
      refine ⟨⟨⟨m5, .inl bw⟩, ⟨m5, .inl bw⟩, ⟨m5, .inl bw⟩, ⟨m5, .inl bw⟩, ⟨m5, bw⟩, ⟨m5, bw⟩, ⟨m5, bw⟩, ⟨m5, bw⟩, ⟨m5, bw⟩, ⟨m5, .inl bw⟩, ⟨m5, bw⟩, ⟨m5, .inl bw⟩, ⟨m5, bw⟩, m5, .inl bw⟩, ?_⟩
      generalize Oc.lams ca _ = la
      have b0 : 0 ≤ sizeLine := by decide
      refine ⟨b0, rfl, rfl, ?_⟩
      rw [if_neg (by decide)]
      clear bw okb
      subst hN22
      refine dSeq_go fun N1 hN1 => ?_
      walk_at "d"
      walk_at "k"
      refine fun odd hodd => ⟨h7, ?_⟩
      obtain ⟨nod, cod⟩ := odd_ok (L := [.none, .int (0 - 1), .bool true, .str "1", .tuple []]) (by decide +kernel) hodd
      clear hodd
      subst hN1
      refine dSeq_go fun N2 hN2 => ?_
      walk_at "d"
      refine ⟨⟨by decide, by decide⟩, fun pb => ?_⟩
      subst hN2
      refine dSeq_go fun N1 hN1 => ?_
      walk_at "d"
      (try refine ⟨by decide, ?_⟩)
      subst hN1
      refine dSeq_go fun N2 hN2 => ?_
      walk_at "d"
      (try refine ⟨by decide, ?_⟩)
      subst hN2
      refine dSeq_go fun N1 hN1 => ?_
      walk_at "d"
      obtain ⟨rpo, sho, evo⟩ := rpt cod
      have m17 : ∀ j : Nat, j = 1 ∨ j = 7 → j = 1 ∨ j = 5 ∨ j = 7 ∨ j = 8 := fun j e => e.elim .inl fun e => .inr (.inr (.inl e))
      refine ⟨⟨by decide, by decide, h11, by decide⟩, ?_⟩
      refine ⟨⟨⟨m17, .inr ⟨nod, rfl, rpo, rpo, b2, sho, sho, evo⟩⟩, ⟨m17, .inr ⟨nod, rfl, rpo, rpo, b2, sho, sho, evo⟩⟩, ⟨m17, .inr ⟨nod, rfl, rpo, rpo, b2, sho, sho, evo⟩⟩⟩, ?_⟩
      generalize Oc.lams ca _ = lb
      refine ⟨b0, rfl, rfl, ?_⟩
      rw [if_neg (by decide)]
      clear nod cod rpo sho evo
      subst hN1
      refine dSeq_go fun N2 hN2 => ?_
      walk_at "d"
      refine ⟨by decide, (by show 0 < 5; decide), (by show 5 < 1000; decide), fun odd hodd => ⟨by decide, (by show 0 < 5; decide), (by show 5 < 1000; decide), fun none hnone => ⟨by decide, h8, ?_⟩⟩⟩
      have hod : at1B odd = true := List.all_eq_true.mp (show ([PyData.none, .int 0, .int 13, .bool true, .str "2"].all at1B) = true by decide +kernel) odd hodd
      have hno : (!belB none 3 && clB none) = true := List.all_eq_true.mp (show ([PyData.none, .int 3, .int (0 - 1), .bool true, .str "0"].all fun d => !belB d 3 && clB d) = true by decide +kernel) none hnone
      clear hodd hnone
      rw [Bool.and_eq_true, Bool.not_eq_true'] at hno
      obtain ⟨co, ho⟩ := at1_of hod
      obtain ⟨rpo, sho, evo⟩ := rpt co
      obtain ⟨rpn, shn, evn⟩ := rpt hno.2
      have evo : (!(PyData.tuple [.str (repD odd), .bool true]).eqv (.tuple [.str (repD odd), .bool true])) = false := PyData.bool.inj evo
      have evn : (!(PyData.tuple [.str (repD none), .bool true]).eqv (.tuple [.str (repD none), .bool true])) = false := PyData.bool.inj evn
      subst hN2
      refine dSeq_go fun N1 hN1 => ?_
      walk_at "d"
      refine .inr (ho ⟨rfl, rpo, rpo, b2, sho, sho, ?_⟩)
      rw [evo, if_neg (by decide)]
      subst hN1
      refine dSeq_go fun N2 hN2 => ?_
      walk_at "d"
      refine .inr (.inr ⟨3, rfl, by decide, .inr ⟨by decide, by decide, hno.1, rfl, rpn, rpn, b2, shn, shn, ?_⟩⟩)
      rw [evn, if_neg (by decide)]
      clear rpo sho evo rpn shn evn ho hno
      subst hN2
      refine dSeq_go fun N1 hN1 => ?_
      walk_at "d"
      walk_at "k"
      refine fun paper hpaper => ⟨h9, ?_⟩
      have hp1 : paper ∈ papL := List.mem_of_mem_take (show paper ∈ papL.take 9 from hpaper)
      clear hpaper
      subst hN1
      refine dSeq_go fun N2 hN2 => ?_
      walk_at "d"
      walk_at "k"
      refine ⟨(by show 0 < 7; decide), (by show 7 < 1000; decide), fun pap hpap => ?_⟩
      have hp2 : pap ∈ papL := by
        rcases List.mem_cons.mp hpap with rfl | m
        · exact hp1
        · exact List.mem_of_mem_drop (show pap ∈ papL.drop 9 from m)
      clear hpap hp1
      subst hN2
      refine dSeq_go fun N1 hN1 => ?_
      walk_at "d"
      refine .inr ⟨hp2, ?_⟩
      rw [if_neg (by decide)]
      subst hN1
      refine dSeq_go fun N2 hN2 => ?_
      walk_at "d"
      walk_at "k"
      refine fun fall hfall => ⟨h10, ?_⟩
      have hf : fall ∈ fallL := hfall
      clear hfall
      subst hN2
      walk_at "d"
      refine .inr (.inl ⟨hf, ?_⟩)
      rw [if_neg (by decide)]
      refine ⟨by decide, by decide, by decide, .inr (.inr ⟨rfl, ?_⟩)⟩
      rw [if_neg (by decide)]
      exact ih _ ⟨fun x m => hd x (List.mem_cons_of_mem _ m), rfl, rfl, rfl, fun j n3 n6 => match j, n3, n6 with
        | 0, _, _ => trivial
        | 1, _, _ => trivial
        | 2, _, _ => trivial
        | 4, _, _ => trivial
        | 5, _, _ => trivial
        | 7, _, _ => trivial
        | 8, _, _ => trivial
        | 9, _, _ => trivial
        | 10, _, _ => trivial
        | 11, _, _ => h11
        | _ + 12, _, _ => trivial⟩
    · match i with
      | 0 | 1 | 2 | 3 | 4 | 5 | 6 | 7 | 8 | 9 | 10 | 11 => exact trivial
      | i + 12 => exact trivial
end
end Lw
set_option Elab.async false
set_option linter.all false
set_option maxRecDepth 100000
set_option maxHeartbeats 1000000
set_option pp.deepTerms true
set_option pp.maxSteps 200000
namespace Lw
open PySem PySem.Spec PyProof PyProof.Rows L2 So Da Dl
local macro_rules | `(tactic| walk_at "z") => `(tactic| repeat (first | refine ⟨(by decide), ?_⟩ | refine ⟨(by omega), ?_⟩ | refine ⟨rfl, ?_⟩))
section
variable {Z : Zw}
end
end Lw
set_option Elab.async false
set_option linter.all false
set_option maxRecDepth 100000
set_option maxHeartbeats 8000000
namespace K6
open PySem PySem.Spec PyProof PyProof.Rows L2 So Dl Lw
theorem scIni_Refused : FnScope ["self", "at"] ["self", "at"] (defScope (inClass c_Refused 0)) := ⟨rfl, rfl, rfl, by decide +kernel, rfl, by decide +kernel, by decide +kernel⟩
theorem ok_ini_Refused {Z : Zw} {C fI : Addr} {fdI : FuncData} (B : Er Z.K Z.mg "Refused" "Refused.__init__" "at" c_Refused C fI fdI) : FnOk Z.Pg Z.w Z.K Z.mg Z.base CX0 1 fI fdI ["self", "at"] (spIni C "at") := by
  refine B.F.ok scIni_Refused (fun vs H Q E h => ?_) (fun cdv A outer s H vs Q E hr h => ?_)
  · obtain ⟨a, v, rfl, _⟩ := h
    rfl
  · obtain ⟨a, v, rfl, ha, k⟩ := h
    exact ⟨_, pss_one (ps_ost (pv 0) (pv 1)), _, rfl, _, rfl, a, C, rfl, B.T, B.na, .inl ⟨ha, fun dx n ne => k dx n ne⟩⟩
def tabL (P1 : Addr) : List Addr := [P1]
/-- what is known of the program behind its top -/
def Known (Pg : Program) (w : World) (K : PySem.W.Frag) (mg : Str → Option Value) (fa : Addr) : Prop := ∃ (c0 P0 c1 P1 : Addr) (fd : FuncData), PySem.W.tabIn K "led_to" = some (c0, P0) ∧ K.lookup P0 = none ∧ PySem.W.tabIn K "law" = some (c1, P1) ∧ K.lookup P1 = none ∧
  (∀ (s : Shared) (u : Value), BindsTo s fd ⟨[u], []⟩ [("script", u)]) ∧
  ∀ base : Heap, K.In base → base.Ns mainGlobals mg → GxR.TabB base mg c0 P0 → GxR.TabB base mg c1 P1 → SoG.GOk Pg w K mg base fa fd (spLawS K (P0 :: tabL P1))
theorem all_mk {Pg : Program} {w : World} {K : PySem.W.Frag} {h : Heap} {mg : Str → Option Value} {fa O : Addr} (X : K.In h) (G : h.Ns mainGlobals mg) (hfa : mg "law" = some (.ref fa))
    {f1 f2 f3 f4 f5 f6 f7 f8 f9 f10 f11 f12 f13 f14 f15 f16 f17 f18 f19 f20 f21 f22 f23 f24 f25 f26 f27 f28 f29 f30 f31 f32 f33 f34 f35 f36 f37 f38 f39 f40 f41 f42 q21 P21 q42 P42 : Addr}
    {od1 an1 od2 an2 od3 an3 od4 an4 od5 an5 od6 an6 od7 an7 od8 an8 od9 an9 od10 an10 od11 an11 od12 an12 od13 an13 od14 an14 od15 an15 od16 an16 od17 an17 od18 an18 od19 an19 od20 an20 od21 an21 od22 an22 od23 an23 od24 an24 od25 an25 od26 an26 od27 an27 od28 an28 od29 an29 od30 an30 od31 an31 od32 an32 od33 an33 od34 an34 od35 an35 od36 an36 od37 an37 od38 an38 od39 an39 od40 an40 od41 an41 od42 an42 u21 u42 : Option Addr} {sl1 sl2 sl3 sl4 sl5 sl6 sl7 sl8 sl9 sl10 sl11 sl12 sl13 sl14 sl15 sl16 sl17 sl18 sl19 sl20 sl21 sl22 sl23 sl24 sl25 sl26 sl27 sl28 sl29 sl30 sl31 sl32 sl33 sl34 sl35 sl36 sl37 sl38 sl39 sl40 sl41 sl42 x21 x42 : Array (Option Value)} {oc1 kV1 dc1 pm1 ct1 oc2 kV2 dc2 pm2 ct2 oc3 kV3 dc3 pm3 ct3 oc4 kV4 dc4 pm4 ct4 oc5 kV5 dc5 pm5 ct5 oc6 kV6 dc6 pm6 ct6 oc7 kV7 dc7 pm7 ct7 oc8 kV8 dc8 pm8 ct8 oc9 kV9 dc9 pm9 ct9 oc10 kV10 dc10 pm10 ct10 oc11 kV11 dc11 pm11 ct11 oc12 kV12 dc12 pm12 ct12 oc13 kV13 dc13 pm13 ct13 oc14 kV14 dc14 pm14 ct14 oc15 kV15 dc15 pm15 ct15 oc16 kV16 dc16 pm16 ct16 oc17 kV17 dc17 pm17 ct17 oc18 kV18 dc18 pm18 ct18 oc19 kV19 dc19 pm19 ct19 oc20 kV20 dc20 pm20 ct20 oc21 kV21 dc21 pm21 ct21 oc22 kV22 dc22 pm22 ct22 oc23 kV23 dc23 pm23 ct23 oc24 kV24 dc24 pm24 ct24 oc25 kV25 dc25 pm25 ct25 oc26 kV26 dc26 pm26 ct26 oc27 kV27 dc27 pm27 ct27 oc28 kV28 dc28 pm28 ct28 oc29 kV29 dc29 pm29 ct29 oc30 kV30 dc30 pm30 ct30 oc31 kV31 dc31 pm31 ct31 oc32 kV32 dc32 pm32 ct32 oc33 kV33 dc33 pm33 ct33 oc34 kV34 dc34 pm34 ct34 oc35 kV35 dc35 pm35 ct35 oc36 kV36 dc36 pm36 ct36 oc37 kV37 dc37 pm37 ct37 oc38 kV38 dc38 pm38 ct38 oc39 kV39 dc39 pm39 ct39 oc40 kV40 dc40 pm40 ct40 oc41 kV41 dc41 pm41 ct41 oc42 kV42 dc42 pm42 ct42 cd1 cd2 cd3 cd4 cd5 cd6 cd7 cd8 cd9 cd10 cd11 cd12 cd13 cd14 cd15 cd16 cd17 cd18 cd19 cd20 cd22 cd23 cd24 cd25 cd26 cd27 cd28 cd29 cd30 cd31 cd32 cd33 cd34 cd35 cd36 cd37 cd38 cd39 cd40 cd41 y21 y42 : Value} {vs21 vs42 : Array Value} {t_STATES_MOST t_TOPS_BELOW t_MODULO_MOST : Tok}
    (a1 : PySem.W.nsIn K mainGlobals "is_number" = some (some (.ref f1))) (l1 : K.lookup f1 = some ⟨oc1, od1, .func (PySem.W.fnOf "is_number" "is_number" (defArgs s_is_number) (defBody s_is_number) (defScope s_is_number) .none kV1 dc1 pm1 an1 cd1 ct1), sl1⟩) (c1 : PySem.W.codeIn K cd1 "is_number" = true) (k1 : PySem.W.keepIn K (.ref f1) = true)
    (a2 : PySem.W.nsIn K mainGlobals "is_number_below" = some (some (.ref f2))) (l2 : K.lookup f2 = some ⟨oc2, od2, .func (PySem.W.fnOf "is_number_below" "is_number_below" (defArgs s_is_number_below) (defBody s_is_number_below) (defScope s_is_number_below) .none kV2 dc2 pm2 an2 cd2 ct2), sl2⟩) (c2 : PySem.W.codeIn K cd2 "is_number_below" = true) (k2 : PySem.W.keepIn K (.ref f2) = true)
    (a3 : PySem.W.nsIn K mainGlobals "is_sequence" = some (some (.ref f3))) (l3 : K.lookup f3 = some ⟨oc3, od3, .func (PySem.W.fnOf "is_sequence" "is_sequence" (defArgs s_is_sequence) (defBody s_is_sequence) (defScope s_is_sequence) .none kV3 dc3 pm3 an3 cd3 ct3), sl3⟩) (c3 : PySem.W.codeIn K cd3 "is_sequence" = true) (k3 : PySem.W.keepIn K (.ref f3) = true)
    (a4 : PySem.W.nsIn K mainGlobals "is_row_of" = some (some (.ref f4))) (l4 : K.lookup f4 = some ⟨oc4, od4, .func (PySem.W.fnOf "is_row_of" "is_row_of" (defArgs s_is_row_of) (defBody s_is_row_of) (defScope s_is_row_of) .none kV4 dc4 pm4 an4 cd4 ct4), sl4⟩) (c4 : PySem.W.codeIn K cd4 "is_row_of" = true) (k4 : PySem.W.keepIn K (.ref f4) = true)
    (a5 : PySem.W.nsIn K mainGlobals "_are_steps" = some (some (.ref f5))) (l5 : K.lookup f5 = some ⟨oc5, od5, .func (PySem.W.fnOf "_are_steps" "_are_steps" (defArgs s_are_steps) (defBody s_are_steps) (defScope s_are_steps) .none kV5 dc5 pm5 an5 cd5 ct5), sl5⟩) (c5 : PySem.W.codeIn K cd5 "_are_steps" = true) (k5 : PySem.W.keepIn K (.ref f5) = true)
    (a6 : PySem.W.nsIn K mainGlobals "_are_tops" = some (some (.ref f6))) (l6 : K.lookup f6 = some ⟨oc6, od6, .func (PySem.W.fnOf "_are_tops" "_are_tops" (defArgs s_are_tops) (defBody s_are_tops) (defScope s_are_tops) .none kV6 dc6 pm6 an6 cd6 ct6), sl6⟩) (c6 : PySem.W.codeIn K cd6 "_are_tops" = true) (k6 : PySem.W.keepIn K (.ref f6) = true)
    (a7 : PySem.W.nsIn K mainGlobals "_is_words_machine" = some (some (.ref f7))) (l7 : K.lookup f7 = some ⟨oc7, od7, .func (PySem.W.fnOf "_is_words_machine" "_is_words_machine" (defArgs s_is_words_machine) (defBody s_is_words_machine) (defScope s_is_words_machine) .none kV7 dc7 pm7 an7 cd7 ct7), sl7⟩) (c7 : PySem.W.codeIn K cd7 "_is_words_machine" = true) (k7 : PySem.W.keepIn K (.ref f7) = true)
    (a8 : PySem.W.nsIn K mainGlobals "check_words_machine" = some (some (.ref f8))) (l8 : K.lookup f8 = some ⟨oc8, od8, .func (PySem.W.fnOf "check_words_machine" "check_words_machine" (defArgs s_check_words_machine) (defBody s_check_words_machine) (defScope s_check_words_machine) .none kV8 dc8 pm8 an8 cd8 ct8), sl8⟩) (c8 : PySem.W.codeIn K cd8 "check_words_machine" = true) (k8 : PySem.W.keepIn K (.ref f8) = true)
    (a9 : PySem.W.nsIn K mainGlobals "counted" = some (some (.ref f9))) (l9 : K.lookup f9 = some ⟨oc9, od9, .func (PySem.W.fnOf "counted" "counted" (defArgs s_counted) (defBody s_counted) (defScope s_counted) .none kV9 dc9 pm9 an9 cd9 ct9), sl9⟩) (c9 : PySem.W.codeIn K cd9 "counted" = true) (k9 : PySem.W.keepIn K (.ref f9) = true)
    (a10 : PySem.W.nsIn K mainGlobals "most_kinds" = some (some (.ref f10))) (l10 : K.lookup f10 = some ⟨oc10, od10, .func (PySem.W.fnOf "most_kinds" "most_kinds" (defArgs s_most_kinds) (defBody s_most_kinds) (defScope s_most_kinds) .none kV10 dc10 pm10 an10 cd10 ct10), sl10⟩) (c10 : PySem.W.codeIn K cd10 "most_kinds" = true) (k10 : PySem.W.keepIn K (.ref f10) = true)
    (a11 : PySem.W.nsIn K mainGlobals "bits_at" = some (some (.ref f11))) (l11 : K.lookup f11 = some ⟨oc11, od11, .func (PySem.W.fnOf "bits_at" "bits_at" (defArgs s_bits_at) (defBody s_bits_at) (defScope s_bits_at) .none kV11 dc11 pm11 an11 cd11 ct11), sl11⟩) (c11 : PySem.W.codeIn K cd11 "bits_at" = true) (k11 : PySem.W.keepIn K (.ref f11) = true)
    (a12 : PySem.W.nsIn K mainGlobals "loops" = some (some (.ref f12))) (l12 : K.lookup f12 = some ⟨oc12, od12, .func (PySem.W.fnOf "loops" "loops" (defArgs s_loops) (defBody s_loops) (defScope s_loops) .none kV12 dc12 pm12 an12 cd12 ct12), sl12⟩) (c12 : PySem.W.codeIn K cd12 "loops" = true) (k12 : PySem.W.keepIn K (.ref f12) = true)
    (a13 : PySem.W.nsIn K mainGlobals "growth" = some (some (.ref f13))) (l13 : K.lookup f13 = some ⟨oc13, od13, .func (PySem.W.fnOf "growth" "growth" (defArgs s_growth) (defBody s_growth) (defScope s_growth) .none kV13 dc13 pm13 an13 cd13 ct13), sl13⟩) (c13 : PySem.W.codeIn K cd13 "growth" = true) (k13 : PySem.W.keepIn K (.ref f13) = true)
    (a14 : PySem.W.nsIn K mainGlobals "_power" = some (some (.ref f14))) (l14 : K.lookup f14 = some ⟨oc14, od14, .func (PySem.W.fnOf "_power" "_power" (defArgs s_power) (defBody s_power) (defScope s_power) .none kV14 dc14 pm14 an14 cd14 ct14), sl14⟩) (c14 : PySem.W.codeIn K cd14 "_power" = true) (k14 : PySem.W.keepIn K (.ref f14) = true)
    (a15 : PySem.W.nsIn K mainGlobals "bits" = some (some (.ref f15))) (l15 : K.lookup f15 = some ⟨oc15, od15, .func (PySem.W.fnOf "bits" "bits" (defArgs s_bits) (defBody s_bits) (defScope s_bits) .none kV15 dc15 pm15 an15 cd15 ct15), sl15⟩) (c15 : PySem.W.codeIn K cd15 "bits" = true) (k15 : PySem.W.keepIn K (.ref f15) = true)
    (a16 : PySem.W.nsIn K mainGlobals "rests" = some (some (.ref f16))) (l16 : K.lookup f16 = some ⟨oc16, od16, .func (PySem.W.fnOf "rests" "rests" (defArgs s_rests) (defBody s_rests) (defScope s_rests) .none kV16 dc16 pm16 an16 cd16 ct16), sl16⟩) (c16 : PySem.W.codeIn K cd16 "rests" = true) (k16 : PySem.W.keepIn K (.ref f16) = true)
    (a17 : PySem.W.nsIn K mainGlobals "grows" = some (some (.ref f17))) (l17 : K.lookup f17 = some ⟨oc17, od17, .func (PySem.W.fnOf "grows" "grows" (defArgs s_grows) (defBody s_grows) (defScope s_grows) .none kV17 dc17 pm17 an17 cd17 ct17), sl17⟩) (c17 : PySem.W.codeIn K cd17 "grows" = true) (k17 : PySem.W.keepIn K (.ref f17) = true)
    (a18 : PySem.W.nsIn K mainGlobals "ranks" = some (some (.ref f18))) (l18 : K.lookup f18 = some ⟨oc18, od18, .func (PySem.W.fnOf "ranks" "ranks" (defArgs s_ranks) (defBody s_ranks) (defScope s_ranks) .none kV18 dc18 pm18 an18 cd18 ct18), sl18⟩) (c18 : PySem.W.codeIn K cd18 "ranks" = true) (k18 : PySem.W.keepIn K (.ref f18) = true)
    (a19 : PySem.W.nsIn K mainGlobals "at_rest" = some (some (.ref f19))) (l19 : K.lookup f19 = some ⟨oc19, od19, .func (PySem.W.fnOf "at_rest" "at_rest" (defArgs s_at_rest) (defBody s_at_rest) (defScope s_at_rest) .none kV19 dc19 pm19 an19 cd19 ct19), sl19⟩) (c19 : PySem.W.codeIn K cd19 "at_rest" = true) (k19 : PySem.W.keepIn K (.ref f19) = true)
    (a20 : PySem.W.nsIn K mainGlobals "next_states" = some (some (.ref f20))) (l20 : K.lookup f20 = some ⟨oc20, od20, .func (PySem.W.fnOf "next_states" "next_states" (defArgs s_next_states) (defBody s_next_states) (defScope s_next_states) .none kV20 dc20 pm20 an20 cd20 ct20), sl20⟩) (c20 : PySem.W.codeIn K cd20 "next_states" = true) (k20 : PySem.W.keepIn K (.ref f20) = true)
    (a21 : PySem.W.nsIn K mainGlobals "led_to" = some (some (.ref f21))) (l21 : K.lookup f21 = some ⟨oc21, od21, .func (PySem.W.fnOf "led_to" "led_to" (defArgs s_led_to) (defBody s_led_to) (defScope s_led_to) .none kV21 dc21 pm21 an21 (.ref q21) ct21), sl21⟩) (c21 : PySem.W.codeIn K (.ref q21) "led_to" = true) (k21 : PySem.W.keepIn K (.ref f21) = true)
    (a22 : PySem.W.nsIn K mainGlobals "_turned_round" = some (some (.ref f22))) (l22 : K.lookup f22 = some ⟨oc22, od22, .func (PySem.W.fnOf "_turned_round" "_turned_round" (defArgs s_turned_round) (defBody s_turned_round) (defScope s_turned_round) .none kV22 dc22 pm22 an22 cd22 ct22), sl22⟩) (c22 : PySem.W.codeIn K cd22 "_turned_round" = true) (k22 : PySem.W.keepIn K (.ref f22) = true)
    (a23 : PySem.W.nsIn K mainGlobals "are_useful" = some (some (.ref f23))) (l23 : K.lookup f23 = some ⟨oc23, od23, .func (PySem.W.fnOf "are_useful" "are_useful" (defArgs s_are_useful) (defBody s_are_useful) (defScope s_are_useful) .none kV23 dc23 pm23 an23 cd23 ct23), sl23⟩) (c23 : PySem.W.codeIn K cd23 "are_useful" = true) (k23 : PySem.W.keepIn K (.ref f23) = true)
    (a24 : PySem.W.nsIn K mainGlobals "_finished" = some (some (.ref f24))) (l24 : K.lookup f24 = some ⟨oc24, od24, .func (PySem.W.fnOf "_finished" "_finished" (defArgs s_finished) (defBody s_finished) (defScope s_finished) .none kV24 dc24 pm24 an24 cd24 ct24), sl24⟩) (c24 : PySem.W.codeIn K cd24 "_finished" = true) (k24 : PySem.W.keepIn K (.ref f24) = true)
    (a25 : PySem.W.nsIn K mainGlobals "lots_of" = some (some (.ref f25))) (l25 : K.lookup f25 = some ⟨oc25, od25, .func (PySem.W.fnOf "lots_of" "lots_of" (defArgs s_lots_of) (defBody s_lots_of) (defScope s_lots_of) .none kV25 dc25 pm25 an25 cd25 ct25), sl25⟩) (c25 : PySem.W.codeIn K cd25 "lots_of" = true) (k25 : PySem.W.keepIn K (.ref f25) = true)
    (a26 : PySem.W.nsIn K mainGlobals "lot_numbers" = some (some (.ref f26))) (l26 : K.lookup f26 = some ⟨oc26, od26, .func (PySem.W.fnOf "lot_numbers" "lot_numbers" (defArgs s_lot_numbers) (defBody s_lot_numbers) (defScope s_lot_numbers) .none kV26 dc26 pm26 an26 cd26 ct26), sl26⟩) (c26 : PySem.W.codeIn K cd26 "lot_numbers" = true) (k26 : PySem.W.keepIn K (.ref f26) = true)
    (a27 : PySem.W.nsIn K mainGlobals "_step_of" = some (some (.ref f27))) (l27 : K.lookup f27 = some ⟨oc27, od27, .func (PySem.W.fnOf "_step_of" "_step_of" (defArgs s_step_of) (defBody s_step_of) (defScope s_step_of) .none kV27 dc27 pm27 an27 cd27 ct27), sl27⟩) (c27 : PySem.W.codeIn K cd27 "_step_of" = true) (k27 : PySem.W.keepIn K (.ref f27) = true)
    (a28 : PySem.W.nsIn K mainGlobals "_led_by" = some (some (.ref f28))) (l28 : K.lookup f28 = some ⟨oc28, od28, .func (PySem.W.fnOf "_led_by" "_led_by" (defArgs s_led_by) (defBody s_led_by) (defScope s_led_by) .none kV28 dc28 pm28 an28 cd28 ct28), sl28⟩) (c28 : PySem.W.codeIn K cd28 "_led_by" = true) (k28 : PySem.W.keepIn K (.ref f28) = true)
    (a29 : PySem.W.nsIn K mainGlobals "_leads_to_tops" = some (some (.ref f29))) (l29 : K.lookup f29 = some ⟨oc29, od29, .func (PySem.W.fnOf "_leads_to_tops" "_leads_to_tops" (defArgs s_leads_to_tops) (defBody s_leads_to_tops) (defScope s_leads_to_tops) .none kV29 dc29 pm29 an29 cd29 ct29), sl29⟩) (c29 : PySem.W.codeIn K cd29 "_leads_to_tops" = true) (k29 : PySem.W.keepIn K (.ref f29) = true)
    (a30 : PySem.W.nsIn K mainGlobals "is_two_paper" = some (some (.ref f30))) (l30 : K.lookup f30 = some ⟨oc30, od30, .func (PySem.W.fnOf "is_two_paper" "is_two_paper" (defArgs s_is_two_paper) (defBody s_is_two_paper) (defScope s_is_two_paper) .none kV30 dc30 pm30 an30 cd30 ct30), sl30⟩) (c30 : PySem.W.codeIn K cd30 "is_two_paper" = true) (k30 : PySem.W.keepIn K (.ref f30) = true)
    (a31 : PySem.W.nsIn K mainGlobals "is_row_paper" = some (some (.ref f31))) (l31 : K.lookup f31 = some ⟨oc31, od31, .func (PySem.W.fnOf "is_row_paper" "is_row_paper" (defArgs s_is_row_paper) (defBody s_is_row_paper) (defScope s_is_row_paper) .none kV31 dc31 pm31 an31 cd31 ct31), sl31⟩) (c31 : PySem.W.codeIn K cd31 "is_row_paper" = true) (k31 : PySem.W.keepIn K (.ref f31) = true)
    (a32 : PySem.W.nsIn K mainGlobals "grows_holds" = some (some (.ref f32))) (l32 : K.lookup f32 = some ⟨oc32, od32, .func (PySem.W.fnOf "grows_holds" "grows_holds" (defArgs s_grows_holds) (defBody s_grows_holds) (defScope s_grows_holds) .none kV32 dc32 pm32 an32 cd32 ct32), sl32⟩) (c32 : PySem.W.codeIn K cd32 "grows_holds" = true) (k32 : PySem.W.keepIn K (.ref f32) = true)
    (a33 : PySem.W.nsIn K mainGlobals "_is_rank" = some (some (.ref f33))) (l33 : K.lookup f33 = some ⟨oc33, od33, .func (PySem.W.fnOf "_is_rank" "_is_rank" (defArgs s_is_rank) (defBody s_is_rank) (defScope s_is_rank) .none kV33 dc33 pm33 an33 cd33 ct33), sl33⟩) (c33 : PySem.W.codeIn K cd33 "_is_rank" = true) (k33 : PySem.W.keepIn K (.ref f33) = true)
    (a34 : PySem.W.nsIn K mainGlobals "_leads_down" = some (some (.ref f34))) (l34 : K.lookup f34 = some ⟨oc34, od34, .func (PySem.W.fnOf "_leads_down" "_leads_down" (defArgs s_leads_down) (defBody s_leads_down) (defScope s_leads_down) .none kV34 dc34 pm34 an34 cd34 ct34), sl34⟩) (c34 : PySem.W.codeIn K cd34 "_leads_down" = true) (k34 : PySem.W.keepIn K (.ref f34) = true)
    (a35 : PySem.W.nsIn K mainGlobals "are_ranks_of" = some (some (.ref f35))) (l35 : K.lookup f35 = some ⟨oc35, od35, .func (PySem.W.fnOf "are_ranks_of" "are_ranks_of" (defArgs s_are_ranks_of) (defBody s_are_ranks_of) (defScope s_are_ranks_of) .none kV35 dc35 pm35 an35 cd35 ct35), sl35⟩) (c35 : PySem.W.codeIn K cd35 "are_ranks_of" = true) (k35 : PySem.W.keepIn K (.ref f35) = true)
    (a36 : PySem.W.nsIn K mainGlobals "ranks_hold" = some (some (.ref f36))) (l36 : K.lookup f36 = some ⟨oc36, od36, .func (PySem.W.fnOf "ranks_hold" "ranks_hold" (defArgs s_ranks_hold) (defBody s_ranks_hold) (defScope s_ranks_hold) .none kV36 dc36 pm36 an36 cd36 ct36), sl36⟩) (c36 : PySem.W.codeIn K cd36 "ranks_hold" = true) (k36 : PySem.W.keepIn K (.ref f36) = true)
    (a37 : PySem.W.nsIn K mainGlobals "useful" = some (some (.ref f37))) (l37 : K.lookup f37 = some ⟨oc37, od37, .func (PySem.W.fnOf "useful" "useful" (defArgs s_useful) (defBody s_useful) (defScope s_useful) .none kV37 dc37 pm37 an37 cd37 ct37), sl37⟩) (c37 : PySem.W.codeIn K cd37 "useful" = true) (k37 : PySem.W.keepIn K (.ref f37) = true)
    (a38 : PySem.W.nsIn K mainGlobals "_law_refused" = some (some (.ref f38))) (l38 : K.lookup f38 = some ⟨oc38, od38, .func (PySem.W.fnOf "_law_refused" "_law_refused" (defArgs s_law_refused) (defBody s_law_refused) (defScope s_law_refused) .none kV38 dc38 pm38 an38 cd38 ct38), sl38⟩) (c38 : PySem.W.codeIn K cd38 "_law_refused" = true) (k38 : PySem.W.keepIn K (.ref f38) = true)
    (a39 : PySem.W.nsIn K mainGlobals "_law_box" = some (some (.ref f39))) (l39 : K.lookup f39 = some ⟨oc39, od39, .func (PySem.W.fnOf "_law_box" "_law_box" (defArgs s_law_box) (defBody s_law_box) (defScope s_law_box) .none kV39 dc39 pm39 an39 cd39 ct39), sl39⟩) (c39 : PySem.W.codeIn K cd39 "_law_box" = true) (k39 : PySem.W.keepIn K (.ref f39) = true)
    (a40 : PySem.W.nsIn K mainGlobals "_law_take" = some (some (.ref f40))) (l40 : K.lookup f40 = some ⟨oc40, od40, .func (PySem.W.fnOf "_law_take" "_law_take" (defArgs s_law_take) (defBody s_law_take) (defScope s_law_take) .none kV40 dc40 pm40 an40 cd40 ct40), sl40⟩) (c40 : PySem.W.codeIn K cd40 "_law_take" = true) (k40 : PySem.W.keepIn K (.ref f40) = true)
    (a41 : PySem.W.nsIn K mainGlobals "_law_pick" = some (some (.ref f41))) (l41 : K.lookup f41 = some ⟨oc41, od41, .func (PySem.W.fnOf "_law_pick" "_law_pick" (defArgs s_law_pick) (defBody s_law_pick) (defScope s_law_pick) .none kV41 dc41 pm41 an41 cd41 ct41), sl41⟩) (c41 : PySem.W.codeIn K cd41 "_law_pick" = true) (k41 : PySem.W.keepIn K (.ref f41) = true)
    (a42 : PySem.W.nsIn K mainGlobals "law" = some (some (.ref f42))) (l42 : K.lookup f42 = some ⟨oc42, od42, .func (PySem.W.fnOf "law" "law" (defArgs s_law) (defBody s_law) (defScope s_law) .none kV42 dc42 pm42 an42 (.ref q42) ct42), sl42⟩) (c42 : PySem.W.codeIn K (.ref q42) "law" = true) (k42 : PySem.W.keepIn K (.ref f42) = true)
    (lc21 : K.lookup q21 = some ⟨y21, u21, .fields vs21, x21⟩) (hp21 : vs21[11]? = some (.ref P21)) (nT21 : K.lookup P21 = none)
    (lc42 : K.lookup q42 = some ⟨y42, u42, .fields vs42, x42⟩) (hp42 : vs42[11]? = some (.ref P42)) (nT42 : K.lookup P42 = none)
    (d21x42 : P21 ≠ P42)
    (z_abs : PySem.W.nsIn K mainGlobals "abs" = some none)
    (z_all : PySem.W.nsIn K mainGlobals "all" = some none)
    (z_bool : PySem.W.nsIn K mainGlobals "bool" = some none)
    (z_enumerate : PySem.W.nsIn K mainGlobals "enumerate" = some none)
    (z_int : PySem.W.nsIn K mainGlobals "int" = some none)
    (z_isinstance : PySem.W.nsIn K mainGlobals "isinstance" = some none)
    (z_len : PySem.W.nsIn K mainGlobals "len" = some none)
    (z_list : PySem.W.nsIn K mainGlobals "list" = some none)
    (z_max : PySem.W.nsIn K mainGlobals "max" = some none)
    (z_min : PySem.W.nsIn K mainGlobals "min" = some none)
    (z_range : PySem.W.nsIn K mainGlobals "range" = some none)
    (z_repr : PySem.W.nsIn K mainGlobals "repr" = some none)
    (z_reversed : PySem.W.nsIn K mainGlobals "reversed" = some none)
    (z_set : PySem.W.nsIn K mainGlobals "set" = some none)
    (z_sorted : PySem.W.nsIn K mainGlobals "sorted" = some none)
    (z_sum : PySem.W.nsIn K mainGlobals "sum" = some none)
    (z_tuple : PySem.W.nsIn K mainGlobals "tuple" = some none)
    (z_zip : PySem.W.nsIn K mainGlobals "zip" = some none)
    (v_STATES_MOST : PySem.W.nsIn K mainGlobals "STATES_MOST" = some (some (.int 2000 t_STATES_MOST)))
    (v_TOPS_BELOW : PySem.W.nsIn K mainGlobals "TOPS_BELOW" = some (some (.int 2000 t_TOPS_BELOW)))
    (v_MODULO_MOST : PySem.W.nsIn K mainGlobals "MODULO_MOST" = some (some (.int 12 t_MODULO_MOST)))
    (hkd : kdIn K = true)
    (aO : PySem.W.nsIn K mainGlobals "OpenError" = some (some (.ref O)))
    (cg : PySem.W.specialIn K (.builtin "object.__class__") "__get__" = some (some (.builtin "getset_descriptor.__get__"))) (ctk : PySem.W.takesIn K (.builtin "object.__class__") = some true)
    {C_Refused fI_Refused : Addr} {nm_Refused qq_Refused : Str} {N_Refused : Addr} {bs_Refused : List Value} {sn_Refused : List Str} {sub_Refused : List Value} {ab_Refused : Bool} {col_Refused : Option Bool} {dd_Refused : Option Addr} {m0_Refused m1_Refused m2_Refused m3_Refused m5_Refused : Option Value} {od_Refused an_Refused : Option Addr} {sl_Refused : Array (Option Value)} {oc_Refused kV_Refused dc_Refused pm_Refused cd_Refused ct_Refused : Value}
    (aC_Refused : PySem.W.nsIn K mainGlobals "Refused" = some (some (.ref C_Refused)))
    (xL_Refused : K.lookup C_Refused = some (excClassObj nm_Refused qq_Refused C_Refused N_Refused bs_Refused [.ref O, .type "ValueError", .type "Exception", .type "BaseException", .type "object"] true sn_Refused sub_Refused ab_Refused col_Refused dd_Refused m0_Refused m1_Refused m2_Refused m3_Refused m5_Refused "ValueError.__new__"))
    (sa_Refused : PySem.W.findIn K (.ref C_Refused) "__setattr__" = some (some (.builtin "object.__setattr__"))) (na_Refused : PySem.W.findIn K (.ref C_Refused) "at" = some none)
    (aI_Refused : PySem.W.findIn K (.ref C_Refused) "__init__" = some (some (.ref fI_Refused))) (tI_Refused : PySem.W.typeIn K (.ref fI_Refused) = some (.type "function"))
    (lI_Refused : K.lookup fI_Refused = some ⟨oc_Refused, od_Refused, .func (PySem.W.fnOf "__init__" "Refused.__init__" (defArgs (inClass c_Refused 0)) (defBody (inClass c_Refused 0)) (defScope (inClass c_Refused 0)) .none kV_Refused dc_Refused pm_Refused an_Refused cd_Refused ct_Refused), sl_Refused⟩) (cI_Refused : PySem.W.codeIn K cd_Refused "Refused.__init__" = true) (kI_Refused : PySem.W.keepIn K (.ref fI_Refused) = true)
    (kC_Refused : PySem.W.keepIn K (.ref C_Refused) = true) (eC_Refused : PySem.W.subIn K (.ref C_Refused) (.type "BaseException") = some true) (tC_Refused : PySem.W.typeIn K (.ref C_Refused) = some (.type "type")) (iC_Refused : PySem.W.isClsIn K C_Refused = true) (sC_Refused : PySem.W.subIn K (.ref C_Refused) (.ref C_Refused) = some true)
    (ga_Refused : PySem.W.findIn K (.ref C_Refused) "__getattribute__" = some (some (.builtin "BaseException.__getattribute__"))) (gg_Refused : PySem.W.findIn K (.ref C_Refused) "__getattr__" = some none) (hd_Refused : PySem.W.hasDictIn K C_Refused = true)
    (ca_Refused : PySem.W.findIn K (.ref C_Refused) "__class__" = some (some (.builtin "object.__class__"))) (mo_Refused : PySem.W.mroIn K C_Refused (.type "object") = some true) (op_Refused : PySem.W.kitOne K (.ref C_Refused) (.ref O) = some true) :
    Known Pg w K mg fa := by
  have e := hfa.symm.trans (PySem.W.mg_of X G a42)
  cases e
  have T : Lw.Tz K mg := ⟨kd_of hkd, PySem.W.mg_none_of X G z_abs, PySem.W.mg_none_of X G z_all, PySem.W.mg_none_of X G z_bool, PySem.W.mg_none_of X G z_enumerate, PySem.W.mg_none_of X G z_int, PySem.W.mg_none_of X G z_isinstance, PySem.W.mg_none_of X G z_len, PySem.W.mg_none_of X G z_list, PySem.W.mg_none_of X G z_max, PySem.W.mg_none_of X G z_min, PySem.W.mg_none_of X G z_range, PySem.W.mg_none_of X G z_repr, PySem.W.mg_none_of X G z_reversed, PySem.W.mg_none_of X G z_set, PySem.W.mg_none_of X G z_sorted, PySem.W.mg_none_of X G z_sum, PySem.W.mg_none_of X G z_tuple, PySem.W.mg_none_of X G z_zip, ⟨t_STATES_MOST, PySem.W.mg_of X G v_STATES_MOST⟩, ⟨t_TOPS_BELOW, PySem.W.mg_of X G v_TOPS_BELOW⟩, ⟨t_MODULO_MOST, PySem.W.mg_of X G v_MODULO_MOST⟩⟩
  have FI_Refused := fun_mk (st := inClass c_Refused 0) lI_Refused cI_Refused kI_Refused
  have bI_Refused := FI_Refused.binds (ps := ["self", "at"]) fun _ _ _ _ _ _ us hl => match us, hl with | [_, _], _ => rfl
  have B_Refused : Er K mg "Refused" "Refused.__init__" "at" c_Refused C_Refused fI_Refused _ := ⟨⟨⟨nm_Refused, qq_Refused, N_Refused, bs_Refused, _, sn_Refused, sub_Refused, ab_Refused, col_Refused, dd_Refused, m0_Refused, m1_Refused, m2_Refused, m3_Refused, m5_Refused, xL_Refused, by rfl⟩, sa_Refused, eC_Refused, tC_Refused, kC_Refused⟩, na_Refused, aI_Refused, tI_Refused, FI_Refused, bI_Refused, PySem.W.mg_of X G aC_Refused, exm_self eC_Refused iC_Refused tC_Refused sC_Refused⟩
  have E_Refused : ErC K mg "Refused" "at" C_Refused := ⟨⟨ga_Refused, gg_Refused, eC_Refused, hd_Refused⟩, ⟨iC_Refused, ga_Refused, gg_Refused, eC_Refused, ca_Refused, cg, ctk, mo_Refused⟩, na_Refused, exm_self eC_Refused iC_Refused tC_Refused sC_Refused, PySem.W.mg_of X G aC_Refused⟩
  have F1 := fun_mk (st := s_is_number) l1 c1 k1
  have b1 := F1.binds (ps := ["value"]) fun _ _ _ _ _ _ us hl => match us, hl with | [_], _ => rfl
  have D1 : Df K mg "is_number" s_is_number ["value"] f1 _ := ⟨F1, PySem.W.mg_of X G a1, b1⟩
  have F2 := fun_mk (st := s_is_number_below) l2 c2 k2
  have b2 := F2.binds (ps := ["value", "bound"]) fun _ _ _ _ _ _ us hl => match us, hl with | [_, _], _ => rfl
  have D2 : Df K mg "is_number_below" s_is_number_below ["value", "bound"] f2 _ := ⟨F2, PySem.W.mg_of X G a2, b2⟩
  have F3 := fun_mk (st := s_is_sequence) l3 c3 k3
  have b3 := F3.binds (ps := ["value"]) fun _ _ _ _ _ _ us hl => match us, hl with | [_], _ => rfl
  have D3 : Df K mg "is_sequence" s_is_sequence ["value"] f3 _ := ⟨F3, PySem.W.mg_of X G a3, b3⟩
  have F4 := fun_mk (st := s_is_row_of) l4 c4 k4
  have b4 := F4.binds (ps := ["value", "many"]) fun _ _ _ _ _ _ us hl => match us, hl with | [_, _], _ => rfl
  have D4 : Df K mg "is_row_of" s_is_row_of ["value", "many"] f4 _ := ⟨F4, PySem.W.mg_of X G a4, b4⟩
  have F5 := fun_mk (st := s_are_steps) l5 c5 k5
  have b5 := F5.binds (ps := ["row", "many"]) fun _ _ _ _ _ _ us hl => match us, hl with | [_, _], _ => rfl
  have D5 : Df K mg "_are_steps" s_are_steps ["row", "many"] f5 _ := ⟨F5, PySem.W.mg_of X G a5, b5⟩
  have F6 := fun_mk (st := s_are_tops) l6 c6 k6
  have b6 := F6.binds (ps := ["row"]) fun _ _ _ _ _ _ us hl => match us, hl with | [_], _ => rfl
  have D6 : Df K mg "_are_tops" s_are_tops ["row"] f6 _ := ⟨F6, PySem.W.mg_of X G a6, b6⟩
  have F7 := fun_mk (st := s_is_words_machine) l7 c7 k7
  have b7 := F7.binds (ps := ["value"]) fun _ _ _ _ _ _ us hl => match us, hl with | [_], _ => rfl
  have D7 : Df K mg "_is_words_machine" s_is_words_machine ["value"] f7 _ := ⟨F7, PySem.W.mg_of X G a7, b7⟩
  have F8 := fun_mk (st := s_check_words_machine) l8 c8 k8
  have b8 := F8.binds (ps := ["value"]) fun _ _ _ _ _ _ us hl => match us, hl with | [_], _ => rfl
  have D8 : Df K mg "check_words_machine" s_check_words_machine ["value"] f8 _ := ⟨F8, PySem.W.mg_of X G a8, b8⟩
  have F9 := fun_mk (st := s_counted) l9 c9 k9
  have b9 := F9.binds (ps := ["words", "depth"]) fun _ _ _ _ _ _ us hl => match us, hl with | [_, _], _ => rfl
  have D9 : Df K mg "counted" s_counted ["words", "depth"] f9 _ := ⟨F9, PySem.W.mg_of X G a9, b9⟩
  have F10 := fun_mk (st := s_most_kinds) l10 c10 k10
  have b10 := F10.binds (ps := ["words", "depth"]) fun _ _ _ _ _ _ us hl => match us, hl with | [_, _], _ => rfl
  have D10 : Df K mg "most_kinds" s_most_kinds ["words", "depth"] f10 _ := ⟨F10, PySem.W.mg_of X G a10, b10⟩
  have F11 := fun_mk (st := s_bits_at) l11 c11 k11
  have b11 := F11.binds (ps := ["words", "depth"]) fun _ _ _ _ _ _ us hl => match us, hl with | [_, _], _ => rfl
  have D11 : Df K mg "bits_at" s_bits_at ["words", "depth"] f11 _ := ⟨F11, PySem.W.mg_of X G a11, b11⟩
  have F12 := fun_mk (st := s_loops) l12 c12 k12
  have b12 := F12.binds (ps := ["words"]) fun _ _ _ _ _ _ us hl => match us, hl with | [_], _ => rfl
  have D12 : Df K mg "loops" s_loops ["words"] f12 _ := ⟨F12, PySem.W.mg_of X G a12, b12⟩
  have F13 := fun_mk (st := s_growth) l13 c13 k13
  have b13 := F13.binds (ps := ["words"]) fun _ _ _ _ _ _ us hl => match us, hl with | [_], _ => rfl
  have D13 : Df K mg "growth" s_growth ["words"] f13 _ := ⟨F13, PySem.W.mg_of X G a13, b13⟩
  have F14 := fun_mk (st := s_power) l14 c14 k14
  have b14 := F14.binds (ps := ["words"]) fun _ _ _ _ _ _ us hl => match us, hl with | [_], _ => rfl
  have D14 : Df K mg "_power" s_power ["words"] f14 _ := ⟨F14, PySem.W.mg_of X G a14, b14⟩
  have F15 := fun_mk (st := s_bits) l15 c15 k15
  have b15 := F15.binds (ps := ["words"]) fun _ _ _ _ _ _ us hl => match us, hl with | [_], _ => rfl
  have D15 : Df K mg "bits" s_bits ["words"] f15 _ := ⟨F15, PySem.W.mg_of X G a15, b15⟩
  have F16 := fun_mk (st := s_rests) l16 c16 k16
  have b16 := F16.binds (ps := ["words"]) fun _ _ _ _ _ _ us hl => match us, hl with | [_], _ => rfl
  have D16 : Df K mg "rests" s_rests ["words"] f16 _ := ⟨F16, PySem.W.mg_of X G a16, b16⟩
  have F17 := fun_mk (st := s_grows) l17 c17 k17
  have b17 := F17.binds (ps := ["words"]) fun _ _ _ _ _ _ us hl => match us, hl with | [_], _ => rfl
  have D17 : Df K mg "grows" s_grows ["words"] f17 _ := ⟨F17, PySem.W.mg_of X G a17, b17⟩
  have F18 := fun_mk (st := s_ranks) l18 c18 k18
  have b18 := F18.binds (ps := ["words"]) fun _ _ _ _ _ _ us hl => match us, hl with | [_], _ => rfl
  have D18 : Df K mg "ranks" s_ranks ["words"] f18 _ := ⟨F18, PySem.W.mg_of X G a18, b18⟩
  have F19 := fun_mk (st := s_at_rest) l19 c19 k19
  have b19 := F19.binds (ps := ["words", "modulo", "rest"]) fun _ _ _ _ _ _ us hl => match us, hl with | [_, _, _], _ => rfl
  have D19 : Df K mg "at_rest" s_at_rest ["words", "modulo", "rest"] f19 _ := ⟨F19, PySem.W.mg_of X G a19, b19⟩
  have F20 := fun_mk (st := s_next_states) l20 c20 k20
  have b20 := F20.binds (ps := ["words"]) fun _ _ _ _ _ _ us hl => match us, hl with | [_], _ => rfl
  have D20 : Df K mg "next_states" s_next_states ["words"] f20 _ := ⟨F20, PySem.W.mg_of X G a20, b20⟩
  have F21 := fun_mk (st := s_led_to) l21 c21 k21
  have b21 := F21.binds (ps := ["nexts", "firsts"]) fun _ _ _ _ _ _ us hl => match us, hl with | [_, _], _ => rfl
  have D21 : Df K mg "led_to" s_led_to ["nexts", "firsts"] f21 _ := ⟨F21, PySem.W.mg_of X G a21, b21⟩
  have DC21 : DfC K mg "led_to" s_led_to ["nexts", "firsts"] f21 _ q21 := ⟨⟨oc21, od21, kV21, dc21, pm21, an21, ct21, sl21, rfl, l21, c21⟩, k21, PySem.W.mg_of X G a21, b21⟩
  have F22 := fun_mk (st := s_turned_round) l22 c22 k22
  have b22 := F22.binds (ps := ["nexts"]) fun _ _ _ _ _ _ us hl => match us, hl with | [_], _ => rfl
  have D22 : Df K mg "_turned_round" s_turned_round ["nexts"] f22 _ := ⟨F22, PySem.W.mg_of X G a22, b22⟩
  have F23 := fun_mk (st := s_are_useful) l23 c23 k23
  have b23 := F23.binds (ps := ["words"]) fun _ _ _ _ _ _ us hl => match us, hl with | [_], _ => rfl
  have D23 : Df K mg "are_useful" s_are_useful ["words"] f23 _ := ⟨F23, PySem.W.mg_of X G a23, b23⟩
  have F24 := fun_mk (st := s_finished) l24 c24 k24
  have b24 := F24.binds (ps := ["nexts", "kept"]) fun _ _ _ _ _ _ us hl => match us, hl with | [_, _], _ => rfl
  have D24 : Df K mg "_finished" s_finished ["nexts", "kept"] f24 _ := ⟨F24, PySem.W.mg_of X G a24, b24⟩
  have F25 := fun_mk (st := s_lots_of) l25 c25 k25
  have b25 := F25.binds (ps := ["nexts", "kept"]) fun _ _ _ _ _ _ us hl => match us, hl with | [_, _], _ => rfl
  have D25 : Df K mg "lots_of" s_lots_of ["nexts", "kept"] f25 _ := ⟨F25, PySem.W.mg_of X G a25, b25⟩
  have F26 := fun_mk (st := s_lot_numbers) l26 c26 k26
  have b26 := F26.binds (ps := ["nexts", "kept"]) fun _ _ _ _ _ _ us hl => match us, hl with | [_, _], _ => rfl
  have D26 : Df K mg "lot_numbers" s_lot_numbers ["nexts", "kept"] f26 _ := ⟨F26, PySem.W.mg_of X G a26, b26⟩
  have F27 := fun_mk (st := s_step_of) l27 c27 k27
  have b27 := F27.binds (ps := ["words", "state", "letter"]) fun _ _ _ _ _ _ us hl => match us, hl with | [_, _, _], _ => rfl
  have D27 : Df K mg "_step_of" s_step_of ["words", "state", "letter"] f27 _ := ⟨F27, PySem.W.mg_of X G a27, b27⟩
  have F28 := fun_mk (st := s_led_by) l28 c28 k28
  have b28 := F28.binds (ps := ["words", "state", "letters"]) fun _ _ _ _ _ _ us hl => match us, hl with | [_, _, _], _ => rfl
  have D28 : Df K mg "_led_by" s_led_by ["words", "state", "letters"] f28 _ := ⟨F28, PySem.W.mg_of X G a28, b28⟩
  have F29 := fun_mk (st := s_leads_to_tops) l29 c29 k29
  have b29 := F29.binds (ps := ["words", "state", "letters"]) fun _ _ _ _ _ _ us hl => match us, hl with | [_, _, _], _ => rfl
  have D29 : Df K mg "_leads_to_tops" s_leads_to_tops ["words", "state", "letters"] f29 _ := ⟨F29, PySem.W.mg_of X G a29, b29⟩
  have F30 := fun_mk (st := s_is_two_paper) l30 c30 k30
  have b30 := F30.binds (ps := ["words", "value"]) fun _ _ _ _ _ _ us hl => match us, hl with | [_, _], _ => rfl
  have D30 : Df K mg "is_two_paper" s_is_two_paper ["words", "value"] f30 _ := ⟨F30, PySem.W.mg_of X G a30, b30⟩
  have F31 := fun_mk (st := s_is_row_paper) l31 c31 k31
  have b31 := F31.binds (ps := ["words", "value"]) fun _ _ _ _ _ _ us hl => match us, hl with | [_, _], _ => rfl
  have D31 : Df K mg "is_row_paper" s_is_row_paper ["words", "value"] f31 _ := ⟨F31, PySem.W.mg_of X G a31, b31⟩
  have F32 := fun_mk (st := s_grows_holds) l32 c32 k32
  have b32 := F32.binds (ps := ["words", "value"]) fun _ _ _ _ _ _ us hl => match us, hl with | [_, _], _ => rfl
  have D32 : Df K mg "grows_holds" s_grows_holds ["words", "value"] f32 _ := ⟨F32, PySem.W.mg_of X G a32, b32⟩
  have F33 := fun_mk (st := s_is_rank) l33 c33 k33
  have b33 := F33.binds (ps := ["value"]) fun _ _ _ _ _ _ us hl => match us, hl with | [_], _ => rfl
  have D33 : Df K mg "_is_rank" s_is_rank ["value"] f33 _ := ⟨F33, PySem.W.mg_of X G a33, b33⟩
  have F34 := fun_mk (st := s_leads_down) l34 c34 k34
  have b34 := F34.binds (ps := ["one", "letter", "other"]) fun _ _ _ _ _ _ us hl => match us, hl with | [_, _, _], _ => rfl
  have D34 : Df K mg "_leads_down" s_leads_down ["one", "letter", "other"] f34 _ := ⟨F34, PySem.W.mg_of X G a34, b34⟩
  have F35 := fun_mk (st := s_are_ranks_of) l35 c35 k35
  have b35 := F35.binds (ps := ["words", "value"]) fun _ _ _ _ _ _ us hl => match us, hl with | [_, _], _ => rfl
  have D35 : Df K mg "are_ranks_of" s_are_ranks_of ["words", "value"] f35 _ := ⟨F35, PySem.W.mg_of X G a35, b35⟩
  have F36 := fun_mk (st := s_ranks_hold) l36 c36 k36
  have b36 := F36.binds (ps := ["words", "value"]) fun _ _ _ _ _ _ us hl => match us, hl with | [_, _], _ => rfl
  have D36 : Df K mg "ranks_hold" s_ranks_hold ["words", "value"] f36 _ := ⟨F36, PySem.W.mg_of X G a36, b36⟩
  have F37 := fun_mk (st := s_useful) l37 c37 k37
  have b37 := F37.binds (ps := ["words"]) fun _ _ _ _ _ _ us hl => match us, hl with | [_], _ => rfl
  have D37 : Df K mg "useful" s_useful ["words"] f37 _ := ⟨F37, PySem.W.mg_of X G a37, b37⟩
  have F38 := fun_mk (st := s_law_refused) l38 c38 k38
  have b38 := F38.binds (ps := ["ask"]) fun _ _ _ _ _ _ us hl => match us, hl with | [_], _ => rfl
  have D38 : Df K mg "_law_refused" s_law_refused ["ask"] f38 _ := ⟨F38, PySem.W.mg_of X G a38, b38⟩
  have F39 := fun_mk (st := s_law_box) l39 c39 k39
  have b39 := F39.binds (ps := ["script", "k"]) fun _ _ _ _ _ _ us hl => match us, hl with | [_, _], _ => rfl
  have D39 : Df K mg "_law_box" s_law_box ["script", "k"] f39 _ := ⟨F39, PySem.W.mg_of X G a39, b39⟩
  have F40 := fun_mk (st := s_law_take) l40 c40 k40
  have b40 := F40.binds (ps := ["box", "many"]) fun _ _ _ _ _ _ us hl => match us, hl with | [_, _], _ => rfl
  have D40 : Df K mg "_law_take" s_law_take ["box", "many"] f40 _ := ⟨F40, PySem.W.mg_of X G a40, b40⟩
  have F41 := fun_mk (st := s_law_pick) l41 c41 k41
  have b41 := F41.binds (ps := ["box", "some"]) fun _ _ _ _ _ _ us hl => match us, hl with | [_, _], _ => rfl
  have D41 : Df K mg "_law_pick" s_law_pick ["box", "some"] f41 _ := ⟨F41, PySem.W.mg_of X G a41, b41⟩
  have F42 := fun_mk (st := s_law) l42 c42 k42
  have b42 := F42.binds (ps := ["script"]) fun _ _ _ _ _ _ us hl => match us, hl with | [_], _ => rfl
  have D42 : Df K mg "law" s_law ["script"] fa _ := ⟨F42, PySem.W.mg_of X G a42, b42⟩
  have DC42 : DfC K mg "law" s_law ["script"] fa _ q42 := ⟨⟨oc42, od42, kV42, dc42, pm42, an42, ct42, sl42, rfl, l42, c42⟩, k42, PySem.W.mg_of X G a42, b42⟩
  refine ⟨q21, P21, q42, P42, PySem.W.fnOf "law" "law" (defArgs s_law) (defBody s_law) (defScope s_law) .none kV42 dc42 pm42 an42 (.ref q42) ct42, tab_mk a21 l21 rfl lc21 hp21, nT21, tab_mk a42 l42 rfl lc42 hp42, nT42, fun s u => .of_eq rfl, fun base _ _ TB21 TB42 => ?_⟩
  obtain ⟨L, eL⟩ : ∃ L : List NdefX.NTab, L = [(P42, fun _ _ => ("law" : Str) ++ ".<locals>." ++ "<lambda>")] := ⟨_, rfl⟩
  obtain ⟨Z, eZ⟩ : ∃ Z : Zw, Z = ⟨⟨P21, L, fun _ => none, fun _ => "at"⟩, K, Pg, w, mg, base⟩ := ⟨_, rfl⟩
  have hst : ∀ s, Z.T.st s = none := by rw [eZ]; exact fun _ => rfl
  have ap : Apt Z.T := by
    rw [eZ, eL]
    intro p hp
    simp only [List.mem_cons, List.not_mem_nil, or_false] at hp
    rcases hp with rfl
    · exact Ne.symm d21x42
  have m42 : (P42, fun _ _ => ("law" : Str) ++ ".<locals>." ++ "<lambda>") ∈ Z.T.L := by rw [eZ, eL]; simp
  have w42 : ∀ p ∈ Z.T.L, p.1 = P42 → p.2 = fun _ _ => ("law" : Str) ++ ".<locals>." ++ "<lambda>" := by
    rw [eZ, eL]
    intro p hp e
    simp only [List.mem_cons, List.not_mem_nil, or_false] at hp
    rcases hp with rfl
    · rfl
  have n42 : P42 ≠ Z.T.P := by rw [eZ]; exact Ne.symm d21x42
  have eK : K = Z.K := by rw [eZ]
  have eM : mg = Z.mg := by rw [eZ]
  have eB : base = Z.base := by rw [eZ]
  have ePg : Pg = Z.Pg := by rw [eZ]
  have ew : w = Z.w := by rw [eZ]
  have eP : spLawS K (P21 :: L.map (·.1)) = spLawS Z.K (Z.T.P :: Z.T.L.map (·.1)) := by rw [eZ]
  have A_Refused : Z.T.an C_Refused = "at" := by rw [eZ]
  have tz : Z.T.P = P21 := by rw [eZ]
  rw [show tabL P42 = L.map (·.1) from by rw [eL]; rfl]
  subst eK
  subst eM
  subst eB
  subst ePg
  subst ew
  rw [eP]
  have I_Refused := ok_ini_Refused (Z := Z) B_Refused
  have G_is_number := ok_is_number (Z := Z) (F := F1) (T := T)
  have G_is_number_below := ok_is_number_below (Z := Z) (F := F2) (T := T) (D_is_number := D1) (G_is_number := G_is_number)
  have G_is_sequence := ok_is_sequence (Z := Z) (F := F3) (T := T)
  have G_is_row_of := ok_is_row_of (Z := Z) (F := F4) (T := T) (D_is_sequence := D3) (G_is_sequence := G_is_sequence)
  have G_are_steps := ok_are_steps (Z := Z) (F := F5) (T := T) (D_is_sequence := D3) (G_is_sequence := G_is_sequence.mono (by decide)) (D_is_row_of := D4) (G_is_row_of := G_is_row_of) (D_is_number := D1) (G_is_number := G_is_number.mono (by decide)) (D_is_number_below := D2) (G_is_number_below := G_is_number_below)
  have G_are_tops := ok_are_tops (Z := Z) (F := F6) (T := T) (D_is_sequence := D3) (G_is_sequence := G_is_sequence.mono (by decide)) (D_is_number_below := D2) (G_is_number_below := G_is_number_below)
  have G_is_words_machine := ok_is_words_machine (Z := Z) (F := F7) (T := T) (D_is_row_of := D4) (G_is_row_of := G_is_row_of.mono (by decide)) (D_is_number := D1) (G_is_number := G_is_number.mono (by decide)) (D_is_number_below := D2) (G_is_number_below := G_is_number_below.mono (by decide)) (D_are_steps := D5) (G_are_steps := G_are_steps) (D_are_tops := D6) (G_are_tops := G_are_tops)
  have G_check_words_machine := ok_check_words_machine (Z := Z) (F := F8) (T := T) (D_is_words_machine := D7) (G_is_words_machine := G_is_words_machine) (A_Refused := A_Refused) (B_Refused := B_Refused) (I_Refused := I_Refused.mono (by decide))
  have G_counted := ok_counted (Z := Z) (F := F9) (T := T) (D_check_words_machine := D8) (G_check_words_machine := G_check_words_machine) (D_is_number := D1) (G_is_number := G_is_number.mono (by decide)) (A_Refused := A_Refused) (B_Refused := B_Refused) (I_Refused := I_Refused.mono (by decide))
  have G_most_kinds := ok_most_kinds (Z := Z) (F := F10) (T := T) (D_counted := D9) (G_counted := G_counted)
  have G_bits_at := ok_bits_at (Z := Z) (F := F11) (T := T) (D_most_kinds := D10) (G_most_kinds := G_most_kinds)
  have G_loops := ok_loops (Z := Z) (F := F12) (T := T) (D_check_words_machine := D8) (G_check_words_machine := G_check_words_machine)
  have G_growth := ok_growth (Z := Z) (F := F13) (T := T) (D_check_words_machine := D8) (G_check_words_machine := G_check_words_machine)
  have G_power := ok_power (Z := Z) (F := F14) (T := T)
  have G_bits := ok_bits (Z := Z) (F := F15) (T := T) (D_power := D14) (G_power := G_power.mono (by decide)) (D_check_words_machine := D8) (G_check_words_machine := G_check_words_machine)
  have G_rests := ok_rests (Z := Z) (F := F16) (T := T) (D_check_words_machine := D8) (G_check_words_machine := G_check_words_machine)
  have G_grows := ok_grows (Z := Z) (F := F17) (T := T) (D_check_words_machine := D8) (G_check_words_machine := G_check_words_machine)
  have G_ranks := ok_ranks (Z := Z) (F := F18) (T := T) (D_check_words_machine := D8) (G_check_words_machine := G_check_words_machine)
  have G_at_rest := ok_at_rest (Z := Z) (F := F19) (T := T) (D_check_words_machine := D8) (G_check_words_machine := G_check_words_machine) (D_is_number := D1) (G_is_number := G_is_number.mono (by decide)) (D_is_number_below := D2) (G_is_number_below := G_is_number_below.mono (by decide)) (A_Refused := A_Refused) (B_Refused := B_Refused) (I_Refused := I_Refused.mono (by decide))
  have G_next_states := ok_next_states (Z := Z) (F := F20) (T := T)
  have G_led_to := ok_led_to (Z := Z) (F := F21) (T := T)
  have G_turned_round := ok_turned_round (Z := Z) (F := F22) (T := T)
  have G_are_useful := ok_are_useful (Z := Z) (F := F23) (T := T) (D_next_states := D20) (G_next_states := G_next_states) (D_led_to := D21) (G_led_to := G_led_to) (D_turned_round := D22) (G_turned_round := G_turned_round)
  have G_finished := ok_finished (Z := Z) (F := F24) (T := T)
  have G_lots_of := ok_lots_of (Z := Z) (F := F25) (T := T) (D_turned_round := D22) (G_turned_round := G_turned_round) (D_finished := D24) (G_finished := G_finished)
  have G_lot_numbers := ok_lot_numbers (Z := Z) (F := F26) (T := T) (D_lots_of := D25) (G_lots_of := G_lots_of)
  have G_step_of := ok_step_of (Z := Z) (F := F27) (T := T)
  have G_led_by := ok_led_by (Z := Z) (F := F28) (T := T) (D_is_sequence := D3) (G_is_sequence := G_is_sequence) (D_is_number := D1) (G_is_number := G_is_number) (D_step_of := D27) (G_step_of := G_step_of)
  have G_leads_to_tops := ok_leads_to_tops (Z := Z) (F := F29) (T := T) (D_led_by := D28) (G_led_by := G_led_by)
  have G_is_two_paper := ok_is_two_paper (Z := Z) (F := F30) (T := T) (D_is_row_of := D4) (G_is_row_of := G_is_row_of.mono (by decide)) (D_led_by := D28) (G_led_by := G_led_by.mono (by decide)) (D_leads_to_tops := D29) (G_leads_to_tops := G_leads_to_tops)
  have G_is_row_paper := ok_is_row_paper (Z := Z) (F := F31) (T := T) (D_is_row_of := D4) (G_is_row_of := G_is_row_of.mono (by decide)) (D_is_sequence := D3) (G_is_sequence := G_is_sequence.mono (by decide)) (D_lot_numbers := D26) (G_lot_numbers := G_lot_numbers) (D_next_states := D20) (G_next_states := G_next_states.mono (by decide)) (D_led_by := D28) (G_led_by := G_led_by.mono (by decide)) (D_leads_to_tops := D29) (G_leads_to_tops := G_leads_to_tops)
  have G_grows_holds := ok_grows_holds (Z := Z) (F := F32) (T := T) (D_check_words_machine := D8) (G_check_words_machine := G_check_words_machine) (D_is_two_paper := D30) (G_is_two_paper := G_is_two_paper.mono (by decide)) (D_is_row_paper := D31) (G_is_row_paper := G_is_row_paper.mono (by decide))
  have G_is_rank := ok_is_rank (Z := Z) (F := F33) (T := T) (D_is_row_of := D4) (G_is_row_of := G_is_row_of) (D_is_number := D1) (G_is_number := G_is_number.mono (by decide))
  have G_leads_down := ok_leads_down (Z := Z) (F := F34) (T := T)
  have G_are_ranks_of := ok_are_ranks_of (Z := Z) (F := F35) (T := T) (D_is_row_of := D4) (G_is_row_of := G_is_row_of.mono (by decide)) (D_is_rank := D33) (G_is_rank := G_is_rank) (D_are_useful := D23) (G_are_useful := G_are_useful.mono (by decide)) (D_leads_down := D34) (G_leads_down := G_leads_down.mono (by decide))
  have G_ranks_hold := ok_ranks_hold (Z := Z) (F := F36) (T := T) (D_are_ranks_of := D35) (G_are_ranks_of := G_are_ranks_of.mono (by decide)) (D_check_words_machine := D8) (G_check_words_machine := G_check_words_machine)
  have G_useful := ok_useful (Z := Z) (F := F37) (T := T) (D_are_useful := D23) (G_are_useful := G_are_useful.mono (by decide)) (D_check_words_machine := D8) (G_check_words_machine := G_check_words_machine)
  have G_law_refused := ok_law_refused (Z := Z) (F := F38) (T := T) (A_Refused := A_Refused) (E_Refused := E_Refused) (g_OpenError := PySem.W.mg_of X G aO) (op_Refused_OpenError := op_Refused)
  have G_law_box := ok_law_box (Z := Z) (F := F39) (T := T)
  have G_law_take := ok_law_take (Z := Z) (F := F40) (T := T)
  have G_law_pick := ok_law_pick (Z := Z) (F := F41) (T := T) (D_law_take := D40) (G_law_take := G_law_take)
  have G_law := ok_law (Z := Z) (F := DC42) (T := T) (hst := hst) (TB := ⟨TB42.code, TB42.bm, TB42.gP⟩) (hm := m42) (hu := w42) (hP := n42) (D_law_box := D39) (G_law_box := G_law_box.mono (by decide)) (D_law_pick := D41) (G_law_pick := G_law_pick.mono (by decide)) (D_check_words_machine := D8) (G_check_words_machine := G_check_words_machine.mono (by decide)) (D_counted := D9) (G_counted := G_counted.mono (by decide)) (D_most_kinds := D10) (G_most_kinds := G_most_kinds.mono (by decide)) (D_bits_at := D11) (G_bits_at := G_bits_at.mono (by decide)) (D_useful := D37) (G_useful := G_useful.mono (by decide)) (D_loops := D12) (G_loops := G_loops.mono (by decide)) (D_growth := D13) (G_growth := G_growth.mono (by decide)) (D_bits := D15) (G_bits := G_bits.mono (by decide)) (D_rests := D16) (G_rests := G_rests.mono (by decide)) (D_at_rest := D19) (G_at_rest := G_at_rest.mono (by decide)) (D_grows := D17) (G_grows := G_grows.mono (by decide)) (D_grows_holds := D32) (G_grows_holds := G_grows_holds.mono (by decide)) (D_ranks := D18) (G_ranks := G_ranks.mono (by decide)) (D_ranks_hold := D36) (G_ranks_hold := G_ranks_hold.mono (by decide)) (D_law_refused := D38) (G_law_refused := G_law_refused)
  exact law_go G_law ⟨rfl, by decide, by decide⟩ fun ns Q er l q => ⟨ns, rfl, Nat.le_trans l (by decide), q _⟩
theorem walk {l : PySem.W.OpenLaw} {q : Program} {loose : List Str} {XP : (Str → Option Value) → Heap → Prop} {YP : World → Heap → Prop} {d : DefRec} {K : Params → PySem.W.Frag} (hn : l.most = some 63) (hdf : d.params.defaults = [])
    (r0 : ((recsOf q).find? fun e => e.name == ("led_to" : Str)).isSome = true) (r1 : ((recsOf q).find? fun e => e.name == ("law" : Str)).isSome = true) (hY : ∀ (w : World) (h : Heap), YP w h → (K w.params).In h)
    (F : ∀ (w : World) (mg : Str → Option Value) (fa : Addr) (h : Heap), (K w.params).In h → h.Ns mainGlobals mg → mg d.name = some (.ref fa) → Known l.prog w (K w.params) mg fa) :
    PySem.W.WalkO q loose XP YP l.row.toRowW d [] (fun f vs => PySem.call f vs) := by
  refine Att.attach_callB hn hdf fun w s₀ s₁ mg mb fa o pm cd doc a vs ns G Y ho hd hcd hmg hobj hints hlen hbits hg => ?_
  have KX := hY w _ Y
  obtain ⟨c0, P0, c1, P1, fd, ht0, n0, ht1, n1, hb, hF⟩ := F w mg fa _ KX G.T.g hmg
  obtain ⟨dr0, e0⟩ := Option.isSome_iff_exists.mp r0
  obtain ⟨Ch0, hT0⟩ := PySem.W.tab_of G.T KX e0 ht0
  obtain ⟨dr1, e1⟩ := Option.isSome_iff_exists.mp r1
  obtain ⟨Ch1, hT1⟩ := PySem.W.tab_of G.T KX e1 ht1
  have all : ∀ {X : Addr × Addr → Prop}, X (c0, P0) → X (c1, P1) → ∀ p ∈ [(c0, P0), (c1, P1)], X p := by
    intro X x0 x1 p hp
    simp only [List.mem_cons, List.not_mem_nil, or_false] at hp
    rcases hp with rfl | rfl
    · exact x0
    · exact x1
  refine SoG3.law_end (cs := [(c0, P0), (c1, P1)]) KX G.T.g G.T.b G.T.builtins G.T.nolimit hg (all hT0 hT1) (all n0 n1) (all Ch0 Ch1) G.T.bmain hobj hints (Nat.le_trans hlen (by decide))
    (fun base b1 b2 tb => hF base b1 b2 (tb (c0, P0) (by simp)) (tb (c1, P1) (by simp))) hb fun H hH hS => ?_
  refine ⟨a, ns, rfl, fun P hP => ?_, hS, hlen, fun _ => rfl⟩
  unfold tabL at hP
  simp only [List.mem_cons, List.not_mem_nil, or_false] at hP
  rcases hP with rfl | rfl
  · exact hH (c0, _) (by simp)
  · exact hH (c1, _) (by simp)
end K6
set_option Elab.async false
set_option linter.all false
set_option maxRecDepth 100000
open PySem PySem.W PyProof.Rows
set_option maxRecDepth 100000 in
set_option maxHeartbeats 0 in
theorem PySem.Challenge.cw_stillopen_k42_words_machines_that_are_no_holds : PySem.Challenge.rw_stillopen_k42_words_machines_that_are_no.Holds := by
  w_on; o_law; k_head; (case hw => w_witness2)
  k_fill
  refine K6.walk (l := PySem.Challenge.rw_stillopen_k42_words_machines_that_are_no) rfl rfl (by decide +kernel) (by decide +kernel) (fun w h Y => Y.1) ?F
  case F =>
    intro w mg fa h KX G hmg
    refine' K6.all_mk KX G hmg ?a1 ?l1 ?c1 ?k1 ?a2 ?l2 ?c2 ?k2 ?a3 ?l3 ?c3 ?k3 ?a4 ?l4 ?c4 ?k4 ?a5 ?l5 ?c5 ?k5 ?a6 ?l6 ?c6 ?k6 ?a7 ?l7 ?c7 ?k7 ?a8 ?l8 ?c8 ?k8 ?a9 ?l9 ?c9 ?k9 ?a10 ?l10 ?c10 ?k10 ?a11 ?l11 ?c11 ?k11 ?a12 ?l12 ?c12 ?k12 ?a13 ?l13 ?c13 ?k13 ?a14 ?l14 ?c14 ?k14 ?a15 ?l15 ?c15 ?k15 ?a16 ?l16 ?c16 ?k16 ?a17 ?l17 ?c17 ?k17 ?a18 ?l18 ?c18 ?k18 ?a19 ?l19 ?c19 ?k19 ?a20 ?l20 ?c20 ?k20 ?a21 ?l21 ?c21 ?k21 ?a22 ?l22 ?c22 ?k22 ?a23 ?l23 ?c23 ?k23 ?a24 ?l24 ?c24 ?k24 ?a25 ?l25 ?c25 ?k25 ?a26 ?l26 ?c26 ?k26 ?a27 ?l27 ?c27 ?k27 ?a28 ?l28 ?c28 ?k28 ?a29 ?l29 ?c29 ?k29 ?a30 ?l30 ?c30 ?k30 ?a31 ?l31 ?c31 ?k31 ?a32 ?l32 ?c32 ?k32 ?a33 ?l33 ?c33 ?k33 ?a34 ?l34 ?c34 ?k34 ?a35 ?l35 ?c35 ?k35 ?a36 ?l36 ?c36 ?k36 ?a37 ?l37 ?c37 ?k37 ?a38 ?l38 ?c38 ?k38 ?a39 ?l39 ?c39 ?k39 ?a40 ?l40 ?c40 ?k40 ?a41 ?l41 ?c41 ?k41 ?a42 ?l42 ?c42 ?k42 ?lc21 ?hp21 ?nT21 ?lc42 ?hp42 ?nT42 ?d21x42 ?z_abs ?z_all ?z_bool ?z_enumerate ?z_int ?z_isinstance ?z_len ?z_list ?z_max ?z_min ?z_range ?z_repr ?z_reversed ?z_set ?z_sorted ?z_sum ?z_tuple ?z_zip ?v_STATES_MOST ?v_TOPS_BELOW ?v_MODULO_MOST ?hkd ?aO ?cg ?ctk ?aC_Refused ?xL_Refused ?sa_Refused ?na_Refused ?aI_Refused ?tI_Refused ?lI_Refused ?cI_Refused ?kI_Refused ?kC_Refused ?eC_Refused ?tC_Refused ?iC_Refused ?sC_Refused ?ga_Refused ?gg_Refused ?hd_Refused ?ca_Refused ?mo_Refused ?op_Refused
    (case a1 => k_is)
    (case l1 => k_is)
    (case c1 => k_is)
    (case k1 => k_is)
    (case a2 => k_is)
    (case l2 => k_is)
    (case c2 => k_is)
    (case k2 => k_is)
    (case a3 => k_is)
    (case l3 => k_is)
    (case c3 => k_is)
    (case k3 => k_is)
    (case a4 => k_is)
    (case l4 => k_is)
    (case c4 => k_is)
    (case k4 => k_is)
    (case a5 => k_is)
    (case l5 => k_is)
    (case c5 => k_is)
    (case k5 => k_is)
    (case a6 => k_is)
    (case l6 => k_is)
    (case c6 => k_is)
    (case k6 => k_is)
    (case a7 => k_is)
    (case l7 => k_is)
    (case c7 => k_is)
    (case k7 => k_is)
    (case a8 => k_is)
    (case l8 => k_is)
    (case c8 => k_is)
    (case k8 => k_is)
    (case a9 => k_is)
    (case l9 => k_is)
    (case c9 => k_is)
    (case k9 => k_is)
    (case a10 => k_is)
    (case l10 => k_is)
    (case c10 => k_is)
    (case k10 => k_is)
    (case a11 => k_is)
    (case l11 => k_is)
    (case c11 => k_is)
    (case k11 => k_is)
    (case a12 => k_is)
    (case l12 => k_is)
    (case c12 => k_is)
    (case k12 => k_is)
    (case a13 => k_is)
    (case l13 => k_is)
    (case c13 => k_is)
    (case k13 => k_is)
    (case a14 => k_is)
    (case l14 => k_is)
    (case c14 => k_is)
    (case k14 => k_is)
    (case a15 => k_is)
    (case l15 => k_is)
    (case c15 => k_is)
    (case k15 => k_is)
    (case a16 => k_is)
    (case l16 => k_is)
    (case c16 => k_is)
    (case k16 => k_is)
    (case a17 => k_is)
    (case l17 => k_is)
    (case c17 => k_is)
    (case k17 => k_is)
    (case a18 => k_is)
    (case l18 => k_is)
    (case c18 => k_is)
    (case k18 => k_is)
    (case a19 => k_is)
    (case l19 => k_is)
    (case c19 => k_is)
    (case k19 => k_is)
    (case a20 => k_is)
    (case l20 => k_is)
    (case c20 => k_is)
    (case k20 => k_is)
    (case a21 => k_is)
    (case l21 => k_is)
    (case c21 => k_is)
    (case k21 => k_is)
    (case a22 => k_is)
    (case l22 => k_is)
    (case c22 => k_is)
    (case k22 => k_is)
    (case a23 => k_is)
    (case l23 => k_is)
    (case c23 => k_is)
    (case k23 => k_is)
    (case a24 => k_is)
    (case l24 => k_is)
    (case c24 => k_is)
    (case k24 => k_is)
    (case a25 => k_is)
    (case l25 => k_is)
    (case c25 => k_is)
    (case k25 => k_is)
    (case a26 => k_is)
    (case l26 => k_is)
    (case c26 => k_is)
    (case k26 => k_is)
    (case a27 => k_is)
    (case l27 => k_is)
    (case c27 => k_is)
    (case k27 => k_is)
    (case a28 => k_is)
    (case l28 => k_is)
    (case c28 => k_is)
    (case k28 => k_is)
    (case a29 => k_is)
    (case l29 => k_is)
    (case c29 => k_is)
    (case k29 => k_is)
    (case a30 => k_is)
    (case l30 => k_is)
    (case c30 => k_is)
    (case k30 => k_is)
    (case a31 => k_is)
    (case l31 => k_is)
    (case c31 => k_is)
    (case k31 => k_is)
    (case a32 => k_is)
    (case l32 => k_is)
    (case c32 => k_is)
    (case k32 => k_is)
    (case a33 => k_is)
    (case l33 => k_is)
    (case c33 => k_is)
    (case k33 => k_is)
    (case a34 => k_is)
    (case l34 => k_is)
    (case c34 => k_is)
    (case k34 => k_is)
    (case a35 => k_is)
    (case l35 => k_is)
    (case c35 => k_is)
    (case k35 => k_is)
    (case a36 => k_is)
    (case l36 => k_is)
    (case c36 => k_is)
    (case k36 => k_is)
    (case a37 => k_is)
    (case l37 => k_is)
    (case c37 => k_is)
    (case k37 => k_is)
    (case a38 => k_is)
    (case l38 => k_is)
    (case c38 => k_is)
    (case k38 => k_is)
    (case a39 => k_is)
    (case l39 => k_is)
    (case c39 => k_is)
    (case k39 => k_is)
    (case a40 => k_is)
    (case l40 => k_is)
    (case c40 => k_is)
    (case k40 => k_is)
    (case a41 => k_is)
    (case l41 => k_is)
    (case c41 => k_is)
    (case k41 => k_is)
    (case a42 => k_is)
    (case l42 => k_is)
    (case c42 => k_is)
    (case k42 => k_is)
    (case lc21 => k_is)
    (case hp21 => rfl)
    (case nT21 => first | rfl | kernel_rfl)
    (case lc42 => k_is)
    (case hp42 => rfl)
    (case nT42 => first | rfl | kernel_rfl)
    (case d21x42 => decide)
    (case z_abs => k_is)
    (case z_all => k_is)
    (case z_bool => k_is)
    (case z_enumerate => k_is)
    (case z_int => k_is)
    (case z_isinstance => k_is)
    (case z_len => k_is)
    (case z_list => k_is)
    (case z_max => k_is)
    (case z_min => k_is)
    (case z_range => k_is)
    (case z_repr => k_is)
    (case z_reversed => k_is)
    (case z_set => k_is)
    (case z_sorted => k_is)
    (case z_sum => k_is)
    (case z_tuple => k_is)
    (case z_zip => k_is)
    (case v_STATES_MOST => k_is)
    (case v_TOPS_BELOW => k_is)
    (case v_MODULO_MOST => k_is)
    (case hkd => first | kernel_rfl | rfl | k_is)
    (case aO => k_is)
    (case cg => first | k_is | rfl | kernel_rfl)
    (case ctk => first | k_is | rfl | kernel_rfl)
    (case aC_Refused => k_is)
    (case xL_Refused => k_is)
    (case sa_Refused => k_is)
    (case na_Refused => k_is)
    (case aI_Refused => k_is)
    (case tI_Refused => k_is)
    (case lI_Refused => k_is)
    (case cI_Refused => k_is)
    (case kI_Refused => k_is)
    (case kC_Refused => k_is)
    (case eC_Refused => k_is)
    (case tC_Refused => k_is)
    (case iC_Refused => k_is)
    (case sC_Refused => first | rfl | k_is)
    (case ga_Refused => k_is)
    (case gg_Refused => k_is)
    (case hd_Refused => first | k_is | rfl | kernel_rfl)
    (case ca_Refused => k_is)
    (case mo_Refused => first | k_is | rfl | kernel_rfl)
    (case op_Refused => first | k_is | rfl | kernel_rfl)
