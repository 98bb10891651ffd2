import PyProof.Rows.All
import Wide.All
import OpenK.AllK
import Wide.FinOn
import HandS.AnyAll
import HandS.ForMost
import HandS.IsInst
import HandS.Conv
import HandS.Exc
import HandS.TryOnly
import HandS.WordsExc
import HandS.ExcInit
import HandS.Wide
import HandS.TupAny
import HandS.TupMul
import HandS.Rev
import HandS.Style
import HandS.EndTab
import HandS.Iter
import HandS.Walk
import KE.GoesEnum
import PyProof.ListNew
import HandS.RevTup
import HandS.Zip
import HandS.NoneIn
import HandS.More
import KE.KDictZip
import PyProof.Rows.ReprR
import PyProof.ReprLen
import HandS.HeadHook3
import PySem.Challenge.RW_stillopen_k07_whole_what_questions_mean
set_option Elab.async false
set_option linter.all false
set_option maxRecDepth 100000
set_option maxHeartbeats 4000000
namespace SoGx
open PySem PySem.Spec PyProof.Rows L2 GxR
/-- an element that may ask the module's names too -/
def EltG (prog : Program) (w : World) (mg : Str → Option Value) (scope : Scope) (x : Str) (elt : Expr) (pb : Nat → Bool) : Prop :=
  ∀ (cenv : Env) (A' : Around) (E' : Value → Shared → Prop) (c : Nat) (t : Tok) (z : Shared) (m : Str → Option Value),
    cenv.scope = scope → cenv.globals = mainGlobals → z.heap.Ns mainGlobals mg → z.heap.Ns cenv.locals m → m x = some (.str ⟨#[c]⟩ t) →
      wpAny (model prog w) A' (eval elt cenv) (fun y z' => y = .bool (pb c) ∧ Keeps z z') E' z
/-- x in NAME, NAME a text of the module -/
theorem elt_in {prog : Program} {w : World} {mg : Str → Option Value} {scope : Scope} {x g : Str} {l : Str} {tl : Tok} {p1 p2 p3 : Pos}
    (hk : scope.kind = .function) (hl : scope.names.lookup x = some .local) (hgl : scope.names.lookup g = some .globalImplicit) (hm : mg g = some (.str l tl))
    (hd : (x == ("__debug__" : Str)) = false := by decide) (hd2 : (g == ("__debug__" : Str)) = false := by decide) :
    EltG prog w mg scope x (.Compare (.Name x p1) [.In] [.Name g p2] p3) (fun c => decide (c ∈ l.cps.toList)) := by
  intro cenv A' E' c t z m hs hgs hG hn hx
  refine wpAny_Compare1 ?_
  refine wpAny_Name (wpAny_loadName_local (by rw [hs]; exact hk) (show cenv.scope.names.lookup x = some .local by rw [hs]; exact hl) hn hx ?_) hd
  refine Calls.Name_function_global (by rw [hs]; exact hk) (show cenv.scope.names.lookup g = some .globalImplicit by rw [hs]; exact hgl)
    (Calls.loadGlobal_global (by rw [hgs]; exact hG) hm ?_) hd2
  refine PyProof.Rows.in_str ⟨?_, keeps_refl _⟩
  rw [PySem.StrLaws.found_one l c]
section
variable {X : Cx} {pins : List (Addr × Obj)} {σ : L2.St} {H : Hp} {s : Shared}
theorem gen_glob {c P : Addr} {elt iter : Expr} {x : Str} {px gpos : Pos} {scope : Scope} {pb : Nat → Bool} {te : TE} {k : Nat}
    {W' : Value → Shared → Prop} {R : Str → Hp → Prop} (hr : Room k X.A) (TB : TabB X.base X.mg c P) (hcode : X.env.code = .ref c)
    (S : GenS X.env scope x) (hi : PE X iter te) (hel : EltG X.prog X.w X.mg scope x elt pb) (hs : ∀ v, genFold iter X.env v = pure v)
    (I : Inv X pins σ H s) (h : te σ H fun v H1 => ∃ a : Str, v = .str a ∧ TabG H1 P ∧ R a H1)
    (hQ : ∀ a H1 g z, R a H1 → Ready X pins σ H1 P a pb g z → W' (.ref g) z) :
    wpAny (model X.prog X.w) X.A (eval (.GeneratorExp elt [⟨.Name x px, iter, [], 0⟩] scope gpos) X.env) W' X.xe s := by
  have deep : X.A.depth < recursionLimit := by
    have := hr.dp
    omega
  refine wpAny_GeneratorExp_walksQ hr.hd S.co (closure_ok S.free) S.cell S.dot S.loc S.kind deep ?_ hs
  refine thn (hi.run pins s σ H _ I h) fun u z hz => ?_
  obtain ⟨v, J, I1, rv, a, rfl, ⟨ps, hP, ht⟩, hR⟩ := hz
  obtain ⟨t, rfl⟩ := _root_.id rv
  refine wpAny_pyIter_str fun o St W hst => ?_
  have atP : z.heap.get? P = some { cls := .none, data := .fields ps } := I1.hok P _ hP
  have ltP : P < z.heap.objs.size := Heap.lt_size atP
  have atP' : (z.heap.push o).get? P = some { cls := .none, data := .fields ps } := Heap.get?_push_of_some _ atP
  have cd : PySem.W.CodeHd (z.heap.push o) c P := TB.code.keeps fun b u e => Heap.get?_push_of_some _ (I1.bk b u e)
  have noL : (z.heap.push o).NoLimit := I1.nolimit.push o
  have szo : (z.heap.push o).objs.size = z.heap.objs.size + 1 := Heap.size_push ..
  refine ⟨noL, ?_⟩
  -- what comes behind the code object, however it was found
  have cont : ∀ (code : Value) (h3 : Heap) (tk : Nat) (qs : Array Value), Heap.ExtBut P (z.heap.push o) h3 → (z.heap.push o).objs.size ≤ h3.objs.size →
      h3.get? P = some { cls := .none, data := .fields qs } → (∃ more, qs = ps ++ more) → TriplesOk qs.toList →
      wpAny (model X.prog X.w) X.A (builtinsFor X.env.globals X.env.builtins) (fun bi r =>
        ∃ Ia fp wr n₀ Pf St₀ pz F, Value.ref z.heap.objs.size = .ref Ia ∧ (∀ A' : Around, A'.handled = none → Walks X.prog X.w A' Ia fp wr n₀ Pf St₀) ∧
          St₀ 0 r.heap ∧ (∀ b ∈ fp, b < r.heap.objs.size) ∧ r.heap.NoLimit ∧ cStatics ∉ wr ∧
          (∀ href : Heap, (∀ b o, r.heap.get? b = some o → href.get? b = some o) →
            QuietGen X.prog X.w (genEnv scope (cloFrom X.env.cells scope.names []) r.heap.objs.size code bi X.env) x [] elt (List.range r.heap.objs.size) wr Pf pz F href) ∧
          (∀ a h₅ tk gs, gs.bare = true → r.heap.objs.size < a → h₅.objs.size = a + 1 → (∀ b o, r.heap.get? b = some o → h₅.get? b = some o) →
            WalksS X.prog X.w X.A.in4 a (a :: r.heap.objs.size :: List.range r.heap.objs.size) (r.heap.objs.size :: wr) (GenOnlyQ r.gens.size) (passing pz n₀ 0).length
              (fun j y => ∃ i, (passing pz n₀ 0)[j]? = some i ∧ F i y) (GenAt X.prog X.w X.A.in4 a r.gens.size r.heap.objs.size (List.range r.heap.objs.size) wr pz n₀ F) →
            GenAt X.prog X.w X.A.in4 a r.gens.size r.heap.objs.size (List.range r.heap.objs.size) wr pz n₀ F 0 { r with gens := r.gens.push gs, toks := tk, heap := h₅ } →
            W' (.ref a) { r with gens := r.gens.push gs, toks := tk, heap := h₅ })) X.xe { z with heap := h3, toks := tk } := by
    intro code h3 tk qs hx hsz hP3 hmore ht3
    obtain ⟨bm, ob, e1, e2, e3, e4, e5, e6, e7, e8⟩ := TB.bm
    have cP : cStatics ≠ P := fun e => by
      obtain ⟨_, hns, _⟩ := I1.nolimit
      obtain ⟨o', es, ep, ho, hd, _⟩ := hns
      rw [e, atP] at ho
      cases ho
      cases hd
    have cLt : cStatics < z.heap.objs.size := let ⟨_, hns, _⟩ := I1.nolimit; hns.lt
    have stay : ∀ b u, b ≠ P → z.heap.get? b = some u → h3.get? b = some u := fun b u hb e => hx b u hb (Heap.get?_push_of_some _ e)
    have gl3 : h3.Ns mainGlobals X.mg := ((I1.mod.glob.keeps I1.bk).push o).extBut hx TB.gP
    refine wpAny_builtinsFor (m := X.mg) (by rw [I1.ok.glob]; exact gl3) e1 e2 (stay _ _ e4 (I1.bk _ _ e5)) e6 e7 e8 ?_
    refine ⟨z.heap.objs.size, [z.heap.objs.size], [z.heap.objs.size], a.cps.size, SignAt a, St, (fun _ => true),
      (fun i y => ∃ cc, a.cps[i]? = some cc ∧ y = .bool (pb cc)), rfl, W, ?_, ?_, noL.extBut hx cP, ?_, ?_, ?_⟩
    · refine (W X.A hr.hd).frame _ _ _ hst fun b hb u e => hx b u (fun q => ?_) e
      rcases List.mem_cons.mp hb with q2 | q2
      · exact Nat.ne_of_lt ltP (q.symm.trans q2)
      · cases q2
    · intro b hb
      rcases List.mem_cons.mp hb with q | q
      · rw [q]
        show z.heap.objs.size < h3.objs.size
        omega
      · cases q
    · intro q
      rcases List.mem_cons.mp q with q | q
      · exact Nat.ne_of_lt cLt q
      · cases q
    · intro href hh
      refine ⟨fun A' E' i v s₂ m₂ hA hPv hn hm hk => ?_, fun A' E' i v s₂ m₂ hA hPv hp hn hm hk => ?_⟩
      · simp only [List.forIn_nil]
        exact wpAny_pure ⟨rfl, keeps_refl _⟩
      · obtain ⟨cc, u, hcc, rfl⟩ := hPv
        have gl : s₂.heap.Ns mainGlobals X.mg := by
          obtain ⟨og, es, ep, ho, r⟩ := gl3
          have lt3 : mainGlobals < h3.objs.size := Heap.lt_size ho
          refine ⟨og, es, ep, hk mainGlobals (List.mem_range.mpr lt3) (fun q => ?_) og (hh _ _ ho), r⟩
          rcases List.mem_cons.mp q with q | q
          · obtain ⟨o9, _, _, ho9, _⟩ := I1.mod.glob.keeps I1.bk
            have := Heap.lt_size ho9
            rw [q] at this
            exact Nat.lt_irrefl _ this
          · cases q
        exact wpAny_mono (hel _ A' E' cc u s₂ m₂ rfl I1.ok.glob gl hn hm) (fun y s3 r => ⟨⟨cc, hcc, r.1⟩, r.2⟩) fun _ _ e => e
    · intro g h5 tk5 gs hgb hag hsz5 hk5 W5 hat
      simp only [GxR.passing_true, List.length_range] at W5
      refine hQ a J g _ hR ⟨_, _, _, _, _, W5.in4_1, hat, ?_, fun r hm => ?_⟩
      · intro j y sj Qj Ej hy hQj
        obtain ⟨i, hij, cc, hcc, rfl⟩ := hy
        obtain ⟨hj, ej⟩ := List.getElem?_eq_some_iff.mp hij
        rw [List.getElem_range] at ej
        subst ej
        have e9 : a.cps.toList[j]? = some cc := by rw [Array.getElem?_toList]; exact hcc
        have hQ2 : Qj (trF pb a.cps.toList j) sj := hQj
        rw [trF_some e9] at hQ2
        exact wpAny_truthy_bool hQ2
      · obtain ⟨more, em⟩ := hmore
        have nwr : ∀ b u, z.heap.get? b = some u → b ∉ h3.objs.size :: [z.heap.objs.size] := fun b u e hb => by
          have hl := Heap.lt_size e
          have hsz' : z.heap.objs.size + 1 ≤ h3.objs.size := by rw [← szo]; exact hsz
          rcases List.mem_cons.mp hb with q | q
          · have h9 : b = h3.objs.size := q
            have hl' : b < z.heap.objs.size := hl
            rw [h9] at hl'
            exact Nat.lt_irrefl _ (Nat.lt_of_lt_of_le hl' (Nat.le_trans (Nat.le_succ _) hsz'))
          · rcases List.mem_cons.mp q with q | q
            · rw [q] at hl
              exact Nat.lt_irrefl _ hl
            · cases q
        have G1 := inv_tab (more := more) (h' := r.heap) (g' := r.gens) (d' := r.drawn) (t' := r.toks) I1 hP
          (fun b u hb e => hm.heap b u (nwr b u e) (hk5 b u (stay b u hb e))) (by rw [← em]; exact hm.heap P _ (nwr P _ atP) (hk5 P _ hP3)) (AllBare.movedS (I1.bare.push hgb) hm)
        rw [sh_eta z r hm.os] at G1
        exact ⟨upd J P (.tbl (ps ++ more)), ⟨⟨ps ++ more, upd_same, by rw [← em]; exact ht3⟩, fun b hb => upd_ne hb⟩, G1⟩
  cases hf : codeAmong gpos ps.toList with
  | none =>
    refine wpAny_genexprCodeX hcode (cd.code atP' ht) (cd.tab atP') hf fun c' h' tk hx hge hlt hco' _ htab' _ => ?_
    obtain ⟨o1, vs, f1, tf, fl, tg, inF, tx, tt, op, _, _, _, _, _, _, _, _, _, htr, _⟩ := hco'
    exact cont _ h' tk _ hx (Nat.le_trans hge (Nat.le_of_lt hlt)) htab'.2 ⟨_, rfl⟩ htr
  | some cv =>
    refine wpAny_genexprCode_hit hcode (cd.code atP' ht) hf ?_
    exact cont cv (z.heap.push o) z.toks ps (Heap.ExtBut.refl _ _) (Nat.le_refl _) atP' ⟨#[], by simp⟩ ht
/-- all(elt for x in e), e a text, the element asking the module's names -/
theorem pe_allG {c P : Addr} {elt iter : Expr} {x : Str} {px p pos gpos : Pos} {scope : Scope} {pb : Nat → Bool} {te : TE} {k : Nat}
    (hr : Room k X.A) (hg : Gl X "all") (hm : X.mg "all" = none) (hb : bootBuiltins "all" = some (.builtin "all")) (TB : TabB X.base X.mg c P)
    (hcode : X.env.code = .ref c) (S : GenS X.env scope x) (hi : PE X iter te) (hel : EltG X.prog X.w X.mg scope x elt pb) (hs : ∀ v, genFold iter X.env v = pure v)
    (he : starEach [.GeneratorExp elt [⟨.Name x px, iter, [], 0⟩] scope gpos] X.env =
      (false, eval (.GeneratorExp elt [⟨.Name x px, iter, [], 0⟩] scope gpos) X.env) :: starEach [] X.env := by rfl) :
    PE X (.Call (.Name "all" p) [.GeneratorExp elt [⟨.Name x px, iter, [], 0⟩] scope gpos] [] pos) (tAllS P pb te) := by
  refine ⟨fun pins s σ H Q I h => ?_⟩
  refine wpAny_Call_Name_kw (ld_blt I hg hm hb ?_)
  refine PyProof.Rows.callWith_builtin1 ?_ he (by rfl)
  rw [he]
  show wpAny _ _ (spliced ((false, eval (.GeneratorExp elt [⟨.Name x px, iter, [], 0⟩] scope gpos) X.env) :: backTo pos (starEach [] X.env))) _ _ s
  refine Calls.spliced_cons (gen_glob (R := fun a H1 => ∀ H2, Tabbed P H1 H2 → Q (.bl (a.cps.toList.all pb)) H2) hr TB hcode S hi hel hs I h fun a H1 g z hR hG => ?_)
  obtain ⟨fp, wr, G, F, St, W, hst, htr, hI⟩ := hG
  refine Calls.spliced_nil ?_
  refine call_all_walkS (W.self 0 _ _ _ hst ⟨g, fp, wr, G, _, F, St, _, rfl, W, hst, htr, fun r hmv => ?_⟩)
  obtain ⟨H2, hT, J⟩ := hI r hmv
  refine ⟨.bl _, H2, J, rfl, ?_⟩
  rw [all_signs a pb]
  exact hR H2 hT
end
end SoGx

set_option Elab.async false
set_option linter.all false
set_option maxRecDepth 100000
set_option maxHeartbeats 4000000
namespace So
open PySem PySem.Spec PyProof.Rows L2
abbrev TabG := @GxR.TabG
/-- all but the table at P stands as before; the table stands still a table -/
def Sm (P : Addr) (H H' : Hp) : Prop := (∀ b o, b ≠ P → H b = some o → H' b = some o) ∧ GxR.TabG H' P
theorem tab_tup {H : Hp} {P b : Addr} {u : HO} (t : GxR.TabG H P) (h : H b = some u) (n : ∀ ps, u ≠ .tbl ps) : b ≠ P := fun z => by
  obtain ⟨ps, e, _⟩ := t
  rw [z, e] at h
  exact n ps (Option.some.inj h).symm
theorem Sm.refl {P : Addr} {H : Hp} (t : GxR.TabG H P) : Sm P H H := ⟨fun _ _ _ h => h, t⟩
theorem Sm.trans {P : Addr} {H H1 H2 : Hp} (a : Sm P H H1) (b : Sm P H1 H2) : Sm P H H2 := ⟨fun c o n h => b.1 c o n (a.1 c o n h), b.2⟩
theorem Sm.new {P p : Addr} {H : Hp} {o : HO} (t : GxR.TabG H P) (h : H p = none) : Sm P H (upd H p o) := by
  obtain ⟨ps, e, r⟩ := t
  refine ⟨fun b u _ e => ?_, ⟨ps, ?_, r⟩⟩
  · rw [upd_ne (ne_of_none e h)]
    exact e
  · rw [upd_ne (ne_of_none e h)]
    exact e
/-- what H does not know may change -/
theorem Sm.mut {P p : Addr} {H H' : Hp} {o : HO} (a : Sm P H H') (h : H p = none) (n : p ≠ P) : Sm P H (upd H' p o) := by
  obtain ⟨k, ps, e, r⟩ := a
  refine ⟨fun b u nb e => ?_, ⟨ps, ?_, r⟩⟩
  · rw [upd_ne (ne_of_none e h)]
    exact k b u nb e
  · rw [upd_ne (Ne.symm n)]
    exact e
theorem Sm.of_tabbed {P : Addr} {H H' : Hp} (h : GxR.Tabbed P H H') : Sm P H H' := ⟨fun b o n e => by rw [h.2 b n]; exact e, h.1⟩
section
variable {K : PySem.W.Frag} {P a : Addr} {H H' : Hp} {xs : List V}
theorem Sm.tup (t : GxR.TabG H P) (s : Sm P H H') (h : SqT K H a xs) : SqT K H' a xs := by
  rcases h with (h | ⟨o, h⟩) | h
  · exact .inl (.inl (s.1 _ _ (tab_tup t h (fun _ q => nomatch q)) h))
  · exact .inl (.inr ⟨o, s.1 _ _ (tab_tup t h (fun _ q => nomatch q)) h⟩)
  · exact .inr h
theorem Sm.lst (t : GxR.TabG H P) (s : Sm P H H') (h : SqL K H a xs) : SqL K H' a xs := by
  rcases h with (h | ⟨o, h⟩) | h
  · exact .inl (.inl (s.1 _ _ (tab_tup t h (fun _ q => nomatch q)) h))
  · exact .inl (.inr ⟨o, s.1 _ _ (tab_tup t h (fun _ q => nomatch q)) h⟩)
  · exact .inr h
theorem Sm.atL (t : GxR.TabG H P) (s : Sm P H H') (h : H a = some (.lst xs)) : H' a = some (.lst xs) := s.1 _ _ (tab_tup t h (fun _ q => nomatch q)) h
theorem Sm.free (s : Sm P H H') (t : GxR.TabG H P) (h : H' a = none) : H a = none := by
  cases q : H a with
  | none => rfl
  | some o =>
    by_cases e : a = P
    · obtain ⟨ps, z, _⟩ := s.2
      rw [e, z] at h
      cases h
    · rw [s.1 _ _ e q] at h
      cases h
end
/-- a def of the text as its callers need it -/
structure Df (K : PySem.W.Frag) (mg : Str → Option Value) (x : Str) (st : Stmt) (ps : List Str) (f : Addr) (fd : FuncData) : Prop where
  F : Fun K x x st f fd
  g : mg x = some (.ref f)
  b : Binds K fd ps []
/-- .. with its code object -/
structure DfC (K : PySem.W.Frag) (mg : Str → Option Value) (x : Str) (st : Stmt) (ps : List Str) (f : Addr) (fd : FuncData) (c : Addr) : Prop where
  ex : ∃ (oc : Value) (od : Option Addr) (kV doc pm : Value) (an : Option Addr) (ct : Value) (osl : Array (Option Value)),
    fd = PySem.W.fnOf x x (defArgs st) (defBody st) (defScope st) .none kV doc pm an (.ref c) ct ∧ K.lookup f = some ⟨oc, od, .func fd, osl⟩ ∧ PySem.W.codeIn K (.ref c) x = true
  kp : PySem.W.keepIn K (.ref f) = true
  g : mg x = some (.ref f)
  b : Binds K fd ps []
theorem DfC.ok {Pg : Program} {w : World} {K : PySem.W.Frag} {mg : Str → Option Value} {base : Heap} {x : Str} {st : Stmt} {f c : Addr} {fd : FuncData} {N ps : List Str} {k : Nat} {sp : Sp} {CX : CXT}
    (F : DfC K mg x st ps f fd c) (S : FnScope N ps (defScope st)) (len : ∀ vs H Q E, sp vs H Q E → vs.length = ps.length)
    (body : ∀ (A : Around) (outer : List Env) (s : Shared) (H : Hp) (vs : List V) (Q : VK) (E : XK), Room k (A.deeper (envOfC x (defScope st) s.heap.objs.size f (.ref c))) → sp vs H Q E →
      ∃ t, PSs (cxOf CX Pg w K mg base N x (defScope st) f (.ref c) A outer s H E) (defBody st) t ∧ t { nx := fun _ H' => Q .non H', rt := Q } (start N vs) H) :
    FnOk Pg w K mg base CX (k + 1) f fd ps sp := by
  obtain ⟨oc, od, kV, doc, pm, an, ct, osl, rfl, lk, hcd⟩ := F.ex
  exact fn_of lk hcd S len body
/-- a pure def: what it asks, what it gives, all else standing -/
def Pu (P : Addr) (pre : List V → Hp → (V → Hp → Prop) → Prop) : Sp := fun vs H Q _ => GxR.TabG H P ∧ ∃ R : V → Hp → Prop, pre vs H R ∧ ∀ v H', Sm P H H' → R v H' → Q v H'
end So

set_option Elab.async false
set_option linter.all false
set_option maxRecDepth 100000
set_option maxHeartbeats 4000000
namespace SoE
open PySem PySem.Spec PyProof.Rows L2
/-! ### enumerate of a tuple -/
theorem enum_new {v : Value} {o : Obj} {Z : Heap → Prop} (B : Begins v o Z) :
    Meets (Builtin.«enumerate.__new__» ⟨[.type "enumerate", v], []⟩) (fun _ R s => Z s.heap ∧
      R (.ok (.ret (.ref (s.heap.push o).objs.size))) { s with heap := (s.heap.push o).push { cls := .type "enumerate", data := .fields #[.none, .bool false, .ref s.heap.objs.size, rawInt 0, .none, .none] } }) :=
  .of_wp fun prog w A R s h => by
    obtain ⟨hp, g, d, tk, os⟩ := s
    obtain ⟨z, r⟩ := h
    have hsub := sub_enumerate
    have it0 : ∀ {A' : Around} {E : Value → Shared → Prop} {Q : Value → Shared → Prop}, Q (.ref hp.objs.size) ⟨hp.push o, g, d, tk, os⟩ →
        wpAny (model prog w) A' (pyIter v) Q E ⟨hp, g, d, tk, os⟩ := fun q => B.iter prog w _ _ ⟨hp, g, d, tk, os⟩ _ z q
    wp_walk using it0
    refine wpAny_stack_any fun st => wpAny_pure ?_
    split
    · rename_i c _ _ _ _ _
      cases (c == Value.type "enumerate") <;> (wp_walk using it0; exact ⟨_, rfl, r⟩)
    · wp_walk using it0
      exact ⟨_, rfl, r⟩
theorem enum_call {prog : Program} {w : World} {A : Around} {E : Value → Shared → Prop} {s : Shared} {v : Value} {o : Obj} {Z : Heap → Prop} {Q : Value → Shared → Prop} (B : Begins v o Z) (z : Z s.heap)
    (h : ∀ h', IsEnum h' (s.heap.objs.size + 1) s.heap.objs.size 0 .none → h'.get? s.heap.objs.size = some o → h'.objs.size = s.heap.objs.size + 2 →
      (∀ b u, s.heap.get? b = some u → h'.get? b = some u) → Q (.ref (s.heap.objs.size + 1)) { s with heap := h' }) : wpAny (model prog w) A (call (.type "enumerate") [v]) Q E s := by
  refine callType_new F.called_enumerate (by decide) (F.typeCall_enumerate_1 _) (F.newCall_enumerate_1 _) (fun obj => F.args_object_init_2 obj _) F.entry_enumerate_new (enum_new B) ⟨z, ?_⟩
  have sz : (s.heap.push o).objs.size = s.heap.objs.size + 1 := Heap.size_push ..
  show _ ∧ _
  rw [sz]
  have he : IsEnum ((s.heap.push o).push { cls := .type "enumerate", data := .fields #[.none, .bool false, .ref s.heap.objs.size, rawInt 0, .none, .none] }) (s.heap.objs.size + 1) s.heap.objs.size 0 .none := by
    have q := Heap.get?_push_size (s.heap.push o) (o := { cls := .type "enumerate", data := .fields #[.none, .bool false, .ref s.heap.objs.size, rawInt 0, .none, .none] }) rfl
    rw [sz] at q
    exact q
  exact ⟨⟨_, he, rfl⟩, h _ he (Heap.get?_push_of_some _ (Heap.get?_push_size _ B.free)) (by rw [Heap.size_push, sz]) fun b u x => Heap.get?_push_of_some _ (Heap.get?_push_of_some _ x)⟩
/-- the tuple at a, each item in a new pair with its place -/
def IteT (K : PySem.W.Frag) (a : Addr) : It :=
  ⟨fun i H => ∃ (xs : List V) (x : V), SqT K H a xs ∧ xs[i]? = some x,
    fun i H v H' => ∃ T x, v = .ref T ∧ H T = none ∧ H' = upd H T (.tup [.int (i : Nat), x]) ∧ ∀ xs, SqT K H a xs → xs[i]? = some x,
    fun i H => ∃ xs : List V, SqT K H a xs ∧ xs.length = i⟩
theorem walk_enumT {K : PySem.W.Frag} {a : Addr} {xs : List V} : Walk (IteT K a) xs.length (fun H => SqT K H a xs) (YPair (fun i => some (.int (i : Nat))) (fun i => xs[i]?)) := by
  refine ⟨fun i _ hi q => ⟨xs, xs[i], q, by simp [hi]⟩, fun _ q => ⟨xs, q, rfl⟩, fun i H v H' _ q y => ?_⟩
  obtain ⟨T, x, h1, h2, h3, h4⟩ := y
  exact ⟨T, .int (i : Nat), x, h1, h2, h3, rfl, h4 xs q⟩
theorem turn_enumT {P : Program} {w : World} {K : PySem.W.Frag} {elts : List Expr} {kk : Nat} {tpos : Pos} (a e it : Addr) :
    Turn P w K (.Tuple elts kk tpos) (IteT K a) [e, it] e (fun i h => (∃ old, IsEnum h e it ((i : Nat) : Int) old) ∧ h.IsTupleIter it a i ∧ e ≠ it) where
  mem := by simp
  obj := fun i h st b hb => by
    obtain ⟨⟨old, he⟩, ⟨o, ho, hc, hd⟩, _⟩ := st
    have e' : b = e ∨ b = it := by simpa using hb
    rcases e' with z | z
    · rw [z]; exact ⟨_, he, fun v q => nomatch q⟩
    · rw [z]; exact ⟨o, ho, fun v q => by rw [hd] at q; cases q⟩
  keep := fun i h h' st k => let ⟨⟨old, he⟩, hi, hne⟩ := st; ⟨⟨old, k e (by simp) _ he⟩, hi.at fun o q => k it (by simp) o q, hne⟩
  item := by
    intro X hP hw hK hc i pins s σ H E I hf st hg
    subst hP hw hK
    obtain ⟨⟨old, he⟩, hit, hne⟩ := st
    obtain ⟨xs, x, hq, hx⟩ := hg
    obtain ⟨its, rv, p, hz⟩ := I.tuple hq
    have pt : s.heap.IsTuple a its.toArray := p
    obtain ⟨u, hu, ru⟩ := rv.get hx
    have hel : e < s.heap.objs.size := Heap.lt_size he
    have hil : it < s.heap.objs.size := by obtain ⟨_, q, _⟩ := hit; exact Heap.lt_size q
    have nai : a ≠ it := fun z => by
      obtain ⟨o1, q1, c1, _⟩ := hit
      obtain ⟨o2, q2, c2, _⟩ := pt
      rw [z, q1] at q2
      cases q2
      rw [c1] at c2
      exact absurd c2 (by simp)
    have nae : e ≠ a := fun z => by
      obtain ⟨o2, q2, c2, _⟩ := pt
      rw [← z] at q2
      have he' : s.heap.get? e = some _ := he
      rw [he'] at q2
      cases q2
      exact absurd c2 (by simp)
    have hlt : i < its.toArray.size := by
      have q := (List.getElem?_eq_some_iff.mp hu).1
      simpa using q
    refine wpAny_pyNext_enum_itemC (Draws.tuple (A := X.A.in1) (I.ok.hd hc) it a nai its.toArray) he ⟨hit, pt⟩ hlt hne (by simp [hne, nae]) fun y h' tk hPy ho hst' hT hsz hk => ?_
    have hy : y = u := by
      have q : its.toArray[i]? = some u := by simpa using hu
      have q2 : its.toArray[i]? = some y := hPy
      rw [q] at q2
      exact (Option.some.inj q2).symm
    subst hy
    refine ⟨_, rfl, wpAny_letOwnedTupleGo_enum (s := { s with heap := h', toks := tk + 1 }) ho fun h'' he' sb => ?_⟩
    have hT2 : h''.get? s.heap.objs.size = some { cls := .type "tuple", data := .seq #[.int i tk, y] } := (sb.2 _ (Nat.ne_of_gt hel)).trans hT
    have new : ObjOk X.prog X.w (upd H s.heap.objs.size (.tup [.int (i : Nat), x])) h'' s.heap.objs.size (.tup [.int (i : Nat), x]) :=
      ⟨by show 2 ≤ sizeLine; decide, [.int i tk, y], .cons ⟨_, rfl⟩ (.cons ru .nil), ⟨_, hT2, rfl, _, rfl⟩⟩
    have I1 : Inv X pins σ (upd H s.heap.objs.size (.tup [.int (i : Nat), x])) { s with heap := h'', toks := tk + 1 } :=
      I.turnedNew (ch := [e, it]) (fun b ob hb q => (sb.2 b (fun z => hb (by simp [z]))).trans (hk b ob (fun z => hb (by simp [z])) (fun z => hb (by simp [z])) q)) hf (Nat.le_refl _) new
    refine ⟨.ref s.heap.objs.size, _, I1, rfl, ⟨_, x, rfl, I.hok.fresh (Nat.le_refl _), rfl, fun ys hy => by rw [I.tuple_inj hy hq]; exact hx⟩, ⟨⟨y, ?_⟩, hst'.1.at fun o q => (sb.2 it (Ne.symm hne)).trans q, hne⟩, fun b hb => ?_⟩
    · have e1 : ((i + 1 : Nat) : Int) = (i : Int) + 1 := by omega
      rw [e1]; exact he'
    · have hb' : b < s.heap.objs.size := by
        have e' : b = e ∨ b = it := by simpa using hb
        rcases e' with z | z
        · rw [z]; exact hel
        · rw [z]; exact hil
      rw [upd_ne (Nat.ne_of_lt hb')]
      exact (hf b hb).1
  done := by
    intro X hP hw hK hc i pins s σ H E I hf st hg
    subst hP hw hK
    obtain ⟨⟨old, he⟩, hit, hne⟩ := st
    obtain ⟨xs, hq, hx⟩ := hg
    obtain ⟨its, rv, p, hz⟩ := I.tuple hq
    have pt : s.heap.IsTuple a its.toArray := p
    have nai : a ≠ it := fun z => by
      obtain ⟨o1, q1, c1, _⟩ := hit
      obtain ⟨o2, q2, c2, _⟩ := pt
      rw [z, q1] at q2
      cases q2
      rw [c1] at c2
      exact absurd c2 (by simp)
    obtain ⟨f0, f1, f2, f3, f4, f5⟩ := hf it (by simp)
    have hl := rv.length
    have en : i = its.toArray.size := by
      rw [List.size_toArray]
      omega
    subst en
    exact wpAny_pyNext_enum_endD (Draws.tuple (A := X.A.in1) (I.ok.hd hc) it a nai its.toArray) he ⟨hit, pt⟩ fun h' eb => ⟨rfl, I.turned (t' := s.toks) (fun b o hb q => eb b o hb q) f0 f1 f3 f4 f5⟩
  self := fun A i s Q E st h => let ⟨⟨_, he⟩, _⟩ := st; wpAny_pyIter_enum he h
def iEnumT (K : PySem.W.Frag) (ta : TA) : TI := fun σ H R => ta σ H fun vs H1 => ∃ a xs, vs = [.ref a] ∧ SqT K H1 a xs ∧ R (IteT K a) H1
theorem pi_enumT {X : Cx} {e : Expr} {ta : TA} {p pos tpos : Pos} {elts : List Expr} {kk : Nat} (hg : Gl X "enumerate") (hm : X.mg "enumerate" = none) (ha : PA X [e] ta) (hs : starEach [e] X.env = [(false, eval e X.env)] := by rfl) :
    PI X (.Tuple elts kk tpos) (.Call (.Name "enumerate" p) [e] [] pos) (iEnumT X.K ta) := by
  refine ⟨fun pins s σ H R I h => ?_⟩
  refine Call_ (ld_blt I hg hm boot_enumerate (PyProof.Rows.callWith_type1 (thn (ha.run pos pins s σ H _ I h) fun us z hz => ?_) hs rfl))
  obtain ⟨vs, H1, I1, r1, a, xs, rfl, hq, q⟩ := hz
  cases r1 with
  | cons r rr =>
    cases rr
    cases r
    obtain ⟨its, rv, p', hz⟩ := I1.tuple hq
    refine enum_call (begins_tuple a its.toArray) (show z.heap.IsTuple a its.toArray from p') fun h' he hit hsz hk => wpAny_pyIter_enum he ?_
    have I2 : Inv X pins σ H1 { z with heap := h' } := I1.kept (t' := z.toks) hk
    refine ⟨z.heap.objs.size + 1, [z.heap.objs.size + 1, z.heap.objs.size], _, _, H1, rfl, I2, turn_enumT a (z.heap.objs.size + 1) z.heap.objs.size, ⟨⟨.none, he⟩, ⟨_, hit, rfl, rfl⟩, Nat.succ_ne_self _⟩, fun b hb => ?_, q⟩
    have e' : b = z.heap.objs.size + 1 ∨ b = z.heap.objs.size := by simpa using hb
    have hle : z.heap.objs.size ≤ b := by
      rcases e' with y | y
      · rw [y]; exact Nat.le_add_right _ _
      · rw [y]; exact Nat.le_refl _
    exact I1.fpOk hle (I1.hok.fresh hle)
end SoE

set_option Elab.async false
set_option linter.all false
set_option maxRecDepth 100000
set_option maxHeartbeats 4000000
namespace SoRv
open PySem PySem.Spec PyProof.Rows L2 RT
theorem no_len : typeLookup (.type "reversed") "__len__" = pure none := by rw [typeLookup_type, builtinLookup_eq_fast]; kernel_rfl
theorem has_hint : typeLookup (.type "reversed") "__length_hint__" = pure (some (.builtin "reversed.__length_hint__")) := by rw [typeLookup_type, builtinLookup_eq_fast]; kernel_rfl
theorem slot_hint : Slot "reversed" "__length_hint__" "reversed.__length_hint__" :=
  .of (owner := "reversed") (n := "__length_hint__") (by rw [typeLookup_type, builtinLookup_eq_fast]; kernel_rfl) (by decide +kernel) (by decide +kernel) (by decide +kernel)
    (by first | exact .inl (by decide +kernel) | exact .inr (by decide +kernel)) (by rw [isSubtype_type]; kernel_rfl)
theorem entry_hint : entryFor table "reversed.__length_hint__" = some Builtin.«reversed.__length_hint__» := entryFor_of_tree (by kernel_rfl)
theorem args_hint (a : Value) : argsOk "reversed.__length_hint__" ⟨[a], []⟩ := by
  unfold argsOk
  rw [signature?_of (id := "reversed.__length_hint__") (n := ['_', '_', 't', 'n', 'i', 'h', '_', 'h', 't', 'g', 'n', 'e', 'l', '_', '_']) (o := ['d', 'e', 's', 'r', 'e', 'v', 'e', 'r']) (by kernel_rfl) owner_rt]
  kernel_rfl
theorem type_hint : typeOf (.builtin "reversed.__length_hint__") = pure (.type "method_descriptor") := by kernel_rfl
section
variable {prog : Program} {w : World} {A : Around} {E : Value → Shared → Prop} {s : Shared}
theorem walks_rt (hh : A.handled = none) (I t : Addr) (hne : t ≠ I) (items : Array Value) (hz : items.size ≤ sizeLine) :
    Walks prog w A I [I, t] [I] items.size (fun i v => items[items.size - 1 - i]? = some v) (fun i h => i ≤ items.size ∧ IsRt h I t ((items.size : Int) - 1 - (i : Int)) ∧ IsTup h t items) where
  sub := fun b hb => by simp at hb; simp [hb]
  frame := fun i h h' x hk => ⟨x.1, x.2.1.at fun o e => hk I (by simp) o e, by
    obtain ⟨o, ho, r⟩ := x.2.2
    exact ⟨o, hk t (by simp) o ho, r⟩⟩
  item := fun i s Q E hi x hQ => by
    obtain ⟨x1, hit, ht⟩ := x
    have e : (items.size : Int) - 1 - (i : Int) = ((items.size - 1 - i : Nat) : Int) := by omega
    rw [e] at hit
    have hx : items[items.size - 1 - i]? = some (items[items.size - 1 - i]'(by omega)) := Array.getElem?_eq_getElem (by omega)
    refine next_rt_item hit ht hx hz fun h' hit' hs' => ?_
    have e2 : ((items.size - 1 - i : Nat) : Int) - 1 = (items.size : Int) - 1 - ((i + 1 : Nat) : Int) := by omega
    rw [e2] at hit'
    refine hQ _ h' (s.toks + 1) hx ⟨hi, hit', ?_⟩ fun b o hb eo => hs'.extBut b o (fun h => hb (by simp [h])) eo
    obtain ⟨o, ho, r⟩ := ht
    exact ⟨o, (hs'.2 t hne).trans ho, r⟩
  done := fun s Q E x hQ => by
    have e : (items.size : Int) - 1 - (items.size : Int) = -1 := by omega
    have hit := x.2.1
    rw [e] at hit
    exact next_rt_end hh hit fun h' he' => hQ h' s.toks fun b o hb eo => he' b o (fun h => hb (by simp [h])) eo
  self := fun _ _ _ _ x hQ => iter_rt x.2.1 hQ
theorem hint_rt {it t : Addr} {items : Array Value} {Q : Value → Shared → Prop} (hit : IsRt s.heap it t ((items.size : Int) - 1)) (ht : IsTup s.heap t items) (hn : items.size ≤ sizeLine)
    (hQ : ∀ u tk, Q (.int (items.size : Nat) u) { s with toks := tk }) : wpAny (model prog w) A (call (.builtin "reversed.__length_hint__") [.ref it]) Q E s := by
  refine wpAny_call_entry slot_hint hit.typeIs entry_hint ?_ (args_hint _)
  obtain ⟨o, ho, hc, hd⟩ := id hit
  unfold Builtin.«reversed.__length_hint__»
  refine wpAny_bind (wpAny_of_eq (a := Value.ref it) rfl ?_)
  try dsimp only
  refine wpAny_bind (wpAny_field ho hd (x := .ref t) rfl ?_)
  try dsimp only
  rw [if_neg (by simp)]
  try dsimp only
  refine wpAny_bind (PyProof.Rows.len_tuple ht (by rw [sizeLine_eq] at hn; omega) ?_)
  try dsimp only
  refine wpAny_bind (wpAny_of_eq (a := some ((items.size : Nat) : Int)) rfl ?_)
  try dsimp only
  refine wpAny_bind (wpAny_field (s := { s with toks := s.toks + 1 + 1 }) ho hd (x := rawInt ((items.size : Int) - 1)) rfl ?_)
  try dsimp only
  show wpAny _ _ (if ((items.size : Nat) : Int) < ((items.size : Int) - 1) + 1 then _ else retInt (((items.size : Int) - 1) + 1)) _ _ _
  rw [if_neg (by omega), show ((items.size : Int) - 1) + 1 = ((items.size : Nat) : Int) by omega]
  unfold retInt
  exact wpAny_bind (wpAny_mkInt (wpAny_pure ⟨_, rfl, hQ _ _⟩))
theorem size_rt {it t : Addr} {items : Array Value} {Q : Bool → Shared → Prop} (hit : IsRt s.heap it t ((items.size : Int) - 1)) (ht : IsTup s.heap t items) (hn : items.size ≤ sizeLine)
    (hQ : ∀ tk, Q (((items.size : Nat) : Int) != 0) { s with toks := tk }) : wpAny (model prog w) A (Builtin.List.listLengthHint (.ref it)) Q E s := by
  have hT : s.TypeIs (.ref it) "reversed" := hit.typeIs
  unfold Builtin.List.listLengthHint
  refine wpAny_bind (wpAny_specialOf hT no_len ?_)
  show wpAny _ A (specialOf (Value.ref it) (Str.ofString "__length_hint__") >>= _) _ _ _
  refine wpAny_bind (wpAny_specialOf hT has_hint ?_)
  generalize hid : ("reversed.__length_hint__" : String) = id0
  wp_delta
  rw [show splitId id0 = some ("reversed", "__length_hint__") from by subst hid; decide +kernel]
  subst hid
  refine wpAny_bind (wpAny_isInstance (b := true) hT (by rw [isSubtype_type]; kernel_rfl) ?_)
  simp only [Bool.not_true, Bool.false_eq_true, if_false]
  rw [if_neg (by decide +kernel)]
  refine wpAny_bind (wpAny_rule ?_)
  unfold bindSpecial
  refine wpAny_bind (wpAny_bind (wpAny_of_eq type_hint ?_))
  rw [if_pos (by decide +kernel)]
  refine wpAny_pure ?_
  refine wpAny_bind (wpAny_attempt (hint_rt hit ht hn fun u tk => ?_))
  have big : (items.size : Int) < 2 ^ 63 := by
    rw [sizeLine_eq] at hn
    omega
  have fit : Builtin.List.listFitsIndex ((items.size : Nat) : Int) = true := by
    unfold Builtin.List.listFitsIndex
    simp only [Bool.and_eq_true, decide_eq_true_eq]
    exact ⟨by omega, big⟩
  have tl : Builtin.List.listTooLong (((items.size : Nat) : Int).toNat) = false := by
    simp only [Builtin.List.listTooLong, Int.toNat_natCast, decide_eq_false_iff_not]
    omega
  have ea : asInt? (Value.int ((items.size : Nat) : Int) u) = pure (some ((items.size : Nat) : Int)) := rfl
  dsimp only
  rw [ea]
  refine wpAny_bind ?_
  refine wpAny_pure ?_
  dsimp only
  simp only [fit, tl, Bool.not_true, Bool.false_eq_true, if_false, if_neg (show ¬ ((items.size : Nat) : Int) < 0 by omega)]
  exact wpAny_pure (hQ tk)
theorem extend_rt {it t S : Addr} {items : Array Value} {R : Result → Shared → Prop} {res : Value} {c₀ : Nat} (hh : A.handled = none) (hit : IsRt s.heap it t ((items.size : Int) - 1)) (ht : IsTup s.heap t items) (hne : t ≠ it)
    (hn : items.size ≤ sizeLine) (hS : s.heap.get? S = some { cls := .type "list", data := .seq #[] c₀ }) (hSi : S ≠ it)
    (hR : ∀ h' tk acc' c', (∀ b o, b ≠ S → b ≠ it → s.heap.get? b = some o → h'.get? b = some o) → h'.get? S = some { cls := .type "list", dict := none, data := .seq acc' c', slots := #[] } →
      ItemsOf (fun i v => items[items.size - 1 - i]? = some v) acc' items.size → R (.ok (.ret res)) { s with heap := h', toks := tk }) :
    wpAny (model prog w) A.in1 (Builtin.List.listExtendWith (.ref S) (.ref it) res)
      (fun fin s' => match fin with | .done f => R (.ok f) s' | .again c' => c'.quiet = true ∧ codeAny (model prog w) A c' R s') (fun e s' => R (.error e) s') s := by
  have St : S ≠ t := fun e => by
    obtain ⟨o, ho, hc, _⟩ := ht
    rw [← e, hS] at ho
    cases ho
    exact absurd hc (by simp)
  have W := (walks_rt (prog := prog) (w := w) (A := A.in1) hh it t hne items hn).toS
  have hSf : S ∉ [it, t] := by simp only [List.mem_cons, List.not_mem_nil, or_false, not_or]; exact ⟨hSi, St⟩
  have hT : s.TypeIs (.ref it) "reversed" := hit.typeIs
  have h1 : Builtin.List.listSameRef (.ref S) (.ref it) = false := by simp [Builtin.List.listSameRef, hSi]
  unfold Builtin.List.listExtendWith
  refine wpAny_bind (wpAny_typeOf hT ?_)
  rw [if_neg (by rw [h1]; decide)]
  refine wpAny_bind (iter_rt hit ?_)
  have go : ∀ (h : Heap) (c₁ tk : Nat), IsRt h it t ((items.size : Int) - 1) → IsTup h t items → (∀ b o, b ≠ S → s.heap.get? b = some o → h.get? b = some o) →
      h.get? S = some { cls := .type "list", data := .seq #[] c₁ } → codeAny (model prog w) A (.builtin "list.extend.loop" ⟨[.ref S, .ref it, res], []⟩) R { s with heap := h, toks := tk } := by
    intro h c₁ tk hit1 ht1 hk hS₁
    have e0 : ((items.size : Nat) : Int) - 1 - ((0 : Nat) : Int) = (items.size : Int) - 1 := by omega
    refine codeAny_extend_loopS W hn S hSf res items.size 0 _ #[] c₁ rfl (Nat.zero_le _) ⟨Nat.zero_le _, by rw [e0]; exact hit1, ht1⟩ hS₁ (ItemsOf.nil _) fun z acc' c' hm hS' hacc => ?_
    rw [Moved.eq_with hm]
    refine hR z.heap z.toks acc' c' (fun b o hb hi e => hm.heap b o (fun hmem => ?_) (hk b o hb e)) hS' hacc
    rcases List.mem_cons.mp hmem with e' | hmem
    · exact hb e'
    · exact hi (List.mem_singleton.mp hmem)
  refine wpAny_bind (wpAny_holding (size_rt hit ht hn fun tk => ?_))
  refine wpAny_ite_split (fun _ => ?_) (fun _ => wpAny_pure ⟨plainId_quiet F.plain_extend_loop _, go s.heap c₀ tk hit ht (fun b o _ e => e) hS⟩)
  refine wpAny_bind (wpAny_rule ?_)
  refine wpAny_bind ?_
  show wpAny _ _ (updateSeq S (·.push .none) >>= fun _ => updateSeq S (·.pop)) _ _ _
  refine wpAny_bind (wpAny_updateSeq hS rfl ?_)
  have hS₂ := Heap.get?_update_self (Obj.mapSeq (·.push Value.none)) hS rfl
  refine wpAny_updateSeq (hz := by seq_fits) hS₂ rfl ?_
  have hS₃ := Heap.get?_update_self (Obj.mapSeq (·.pop)) hS₂ rfl
  have oth : ∀ b o, b ≠ S → s.heap.get? b = some o → ((s.heap.update S (Obj.mapSeq (·.push Value.none))).update S (Obj.mapSeq (·.pop))).get? b = some o :=
    fun b o hb e => (Heap.get?_update_other _ _ (Ne.symm hb)).trans ((Heap.get?_update_other _ _ (Ne.symm hb)).trans e)
  refine wpAny_pure ⟨plainId_quiet F.plain_extend_loop _, go _ _ tk (hit.at fun o e => oth it o (Ne.symm hSi) e) ?_ oth hS₃⟩
  obtain ⟨o, ho, r⟩ := ht
  exact ⟨o, oth t o (Ne.symm St) ho, r⟩
/-- list(reversed(t)), the iterator at it -/
theorem list_rt {it t : Addr} {items : Array Value} {Q : Value → Shared → Prop} (hh : A.handled = none) (hit : IsRt s.heap it t ((items.size : Int) - 1)) (ht : IsTup s.heap t items) (hne : t ≠ it) (hn : items.size ≤ sizeLine)
    (hQ : ∀ h' tk acc c, (∀ b o, b ≠ it → s.heap.get? b = some o → h'.get? b = some o) → h'.get? s.heap.objs.size = some { cls := .type "list", dict := none, data := .seq acc c, slots := #[] } →
      ItemsOf (fun i v => items[items.size - 1 - i]? = some v) acc items.size → Q (.ref s.heap.objs.size) { s with heap := h', toks := tk }) :
    wpAny (model prog w) A (call (.type "list") [.ref it]) Q E s := by
  refine callType_codes (Q₁ := fun obj z => obj = .ref s.heap.objs.size ∧ z = { s with heap := s.heap.push { cls := .type "list", data := .seq #[] } }) F.called_list (F.typeCall_list_1 _) F.entry_list_init
    (code_list_new _ ⟨rfl, rfl⟩) fun obj z hz => ?_
  obtain ⟨rfl, rfl⟩ := hz
  have hS : (s.heap.push { cls := .type "list", data := .seq #[] }).get? s.heap.objs.size = some { cls := .type "list", data := .seq #[] } := Heap.get?_push_size _ rfl
  have hSi : s.heap.objs.size ≠ it := fun e => by
    obtain ⟨o, ho, _⟩ := hit
    have := Heap.lt_size ho
    rw [← e] at this
    exact Nat.lt_irrefl _ this
  refine ⟨⟨_, hS, rfl⟩, F.args_list_init_2 _ _, ?_⟩
  show wpAny _ _ (do let old ← Builtin.List.listItems (.ref s.heap.objs.size); Builtin.List.listUpdate (.ref s.heap.objs.size) (fun _ => #[]); letGo old.toList.reverse; Builtin.List.listExtendWith (.ref s.heap.objs.size) (.ref it) .none) _ _ _
  refine wpAny_bind ?_
  unfold Builtin.List.listItems
  refine wpAny_bind (wpAny_seqItems hS rfl (wpAny_pure ?_))
  show wpAny _ _ (updateSeq s.heap.objs.size (fun _ => #[]) >>= fun _ => letGo (#[] : Array Value).toList.reverse >>= fun _ => Builtin.List.listExtendWith (.ref s.heap.objs.size) (.ref it) .none) _ _ _
  refine wpAny_bind (wpAny_updateSeq hS rfl ?_)
  have hS₂ := Heap.get?_update_self (Obj.mapSeq (fun _ => (#[] : Array Value))) hS rfl
  have oth : ∀ b o, s.heap.get? b = some o → ((s.heap.push { cls := .type "list", data := .seq #[] }).update s.heap.objs.size (Obj.mapSeq (fun _ => (#[] : Array Value)))).get? b = some o :=
    fun b o e => (Heap.get?_update_other _ _ (Nat.ne_of_gt (Heap.lt_size e))).trans (Heap.get?_push_of_some _ e)
  refine wpAny_bind (wpAny_letGo ?_)
  have ht2 : IsTup ((s.heap.push { cls := .type "list", data := .seq #[] }).update s.heap.objs.size (Obj.mapSeq (fun _ => (#[] : Array Value)))) t items := by
    obtain ⟨o, ho, r⟩ := ht
    exact ⟨o, oth t o ho, r⟩
  refine extend_rt (A := A.in1) hh (hit.at fun o e => oth it o e) ht2 hne hn hS₂ hSi fun h' tk acc' c' hk hS' hacc => ?_
  exact ⟨rfl, hQ h' tk acc' c' (fun b o hb e => hk b o (Nat.ne_of_lt (Heap.lt_size e)) hb (oth b o e)) hS' hacc⟩
end
/-- list(reversed(x)), x a tuple: a new list -/
def tLstRev (K : PySem.W.Frag) (te : TE) : TE := fun σ H Q => te σ H fun v H1 => ∃ (a : Addr) (xs : List V), v = .ref a ∧ SqT K H1 a xs ∧ ∀ q, H1 q = none → Q (.ref q) (upd H1 q (.lst xs.reverse))
theorem pe_lstRev {X : Cx} {e : Expr} {te : TE} {p p2 pos pos2 : Pos} (hc : X.calm = true) (hg : Gl X "list") (hm : X.mg "list" = none) (hg2 : Gl X "reversed") (hm2 : X.mg "reversed" = none) (he : PE X e te)
    (hs : starEach [e] X.env = (false, eval e X.env) :: starEach [] X.env := by rfl)
    (hs2 : starEach [.Call (.Name "reversed" p2) [e] [] pos2] X.env = (false, eval (.Call (.Name "reversed" p2) [e] [] pos2) X.env) :: starEach [] X.env := by rfl) :
    PE X (.Call (.Name "list" p) [.Call (.Name "reversed" p2) [e] [] pos2] [] pos) (tLstRev X.K te) := by
  refine ⟨fun pins s σ H Q I h => ?_⟩
  refine Call_ (ld_blt I hg hm boot_list (PyProof.Rows.callWith_type1 (args_cons (Call_ (ld_blt I hg2 hm2 PyProof.Rows.boot_reversed (PyProof.Rows.callWith_type1 (args_cons (thn (he.run pins s σ H _ I h) fun u z hz => args_nil ?_) hs) hs rfl))) hs2) hs2 rfl))
  obtain ⟨v, H1, I1, r1, a, xs, rfl, hq, q⟩ := hz
  obtain rfl : u = Value.ref a := r1
  obtain ⟨its, rv, p', hz⟩ := I1.tuple hq
  have hl := rv.length
  have hn := line63
  have sz : its.toArray.size ≤ sizeLine := by rw [List.size_toArray, ← rv.length]; exact hz
  refine call_reversed_tup p' (fun A E Q k => len_tuple p' (by simp only [List.size_toArray] <;> omega) k) (args_nil ?_)
  have k0 : ∀ b o, z.heap.get? b = some o → (z.heap.push (rtObj a ((its.toArray.size : Int) - 1))).get? b = some o := fun b o e => Heap.get?_push_of_some _ e
  have I2 : Inv X pins σ H1 { z with heap := z.heap.push (rtObj a ((its.toArray.size : Int) - 1)), toks := z.toks + 1 + 1 } := I1.kept (t' := z.toks + 1 + 1) k0
  obtain ⟨f0, f1, f2, f3, f4, f5⟩ := I1.fpOk (H' := H1) (b := z.heap.objs.size) (Nat.le_refl _) (I1.hok.fresh (Nat.le_refl _))
  have tp : IsTup (z.heap.push (rtObj a ((its.toArray.size : Int) - 1))) a its.toArray := by
    obtain ⟨o, ho, r⟩ := p'
    exact ⟨o, k0 _ _ ho, r⟩
  have hne : a ≠ z.heap.objs.size := by
    obtain ⟨o, ho, _⟩ := p'
    exact Nat.ne_of_lt (Heap.lt_size ho)
  refine list_rt (s := { z with heap := z.heap.push (rtObj a ((its.toArray.size : Int) - 1)), toks := z.toks + 1 + 1 }) (I1.ok.hd hc) ⟨_, Heap.get?_push_size _ rfl, rfl, rfl⟩ tp hne sz fun h' tk acc c hk hS hi => ?_
  have szp : (z.heap.push (rtObj a ((its.toArray.size : Int) - 1))).objs.size = z.heap.objs.size + 1 := Heap.size_push ..
  have hf : H1 (z.heap.objs.size + 1) = none := I1.hok.fresh (Nat.le_succ _)
  have hS' : h'.get? (z.heap.objs.size + 1) = some { cls := .type "list", dict := none, data := .seq acc c, slots := #[] } := by rw [← szp]; exact hS
  have kz : ∀ b o, z.heap.get? b = some o → h'.get? b = some o := fun b o e => hk b o (Nat.ne_of_lt (Heap.lt_size e)) (k0 b o e)
  refine ⟨.ref (z.heap.objs.size + 1), upd H1 (z.heap.objs.size + 1) (.lst xs.reverse), ?_, ?_, q _ hf⟩
  · exact I1.laid (t' := tk) kz (Nat.le_succ _) (show ObjOk X.prog X.w _ _ _ (.lst xs.reverse) from ⟨by rw [List.length_reverse]; exact hz, acc.toList, c, vals_rev rv hi, by rw [Array.toArray_toList]; exact hS'⟩)
  · show Value.ref (z.heap.push (rtObj a ((its.toArray.size : Int) - 1))).objs.size = Value.ref (z.heap.objs.size + 1)
    rw [szp]
end SoRv

set_option Elab.async false
set_option linter.all false
set_option maxRecDepth 100000
set_option maxHeartbeats 4000000
namespace SoM
open PySem PySem.Spec PyProof.Rows L2
/-! ### a tuple that isn't empty, no times, once -/
theorem mul_none (l : Addr) (items : Array Value) (n : Nat) (dd : Option Addr) (sl : Array (Option Value)) (u : Tok) (hi : items.isEmpty = false) :
    Meets (Builtin.«tuple.__mul__» ⟨[.ref l, .int 0 u], []⟩) (fun _ R s => s.heap.get? l = some { cls := .type "tuple", dict := dd, data := .seq items n, slots := sl } ∧
      R (.ok (.ret (Value.ref s.heap.objs.size))) { s with heap := s.heap.push { cls := Value.type "tuple", data := Data.seq #[] }, toks := s.toks }) :=
  .of_wp fun prog w A R s h => by
    obtain ⟨hp, g, d, tk, os⟩ := s
    obtain ⟨hl, h⟩ := h
    have f1 := AutoSeq1.idx_int
    wp_walk using wpAny_loadPart' hl
    repeat (first
      | (refine wpAny_ite_false (decide_eq_false (by rw [hi]; decide)) ?_; wp_walk using wpAny_loadPart' hl)
      | (refine wpAny_ite_true (decide_eq_true (by rw [hi]; decide)) ?_; wp_walk using wpAny_loadPart' hl))
    exact ⟨_, rfl, h⟩
theorem mul_once (l : Addr) (items : Array Value) (n : Nat) (dd : Option Addr) (sl : Array (Option Value)) (u : Tok) (hi : items.isEmpty = false) :
    Meets (Builtin.«tuple.__mul__» ⟨[.ref l, .int 1 u], []⟩) (fun _ R s => s.heap.get? l = some { cls := .type "tuple", dict := dd, data := .seq items n, slots := sl } ∧
      R (.ok (.ret (Value.ref l))) s) :=
  .of_wp fun prog w A R s h => by
    obtain ⟨hp, g, d, tk, os⟩ := s
    obtain ⟨hl, h⟩ := h
    have f1 := AutoSeq1.idx_int
    wp_walk using wpAny_loadPart' hl
    repeat (first
      | (refine wpAny_ite_false (decide_eq_false (by rw [hi]; decide)) ?_; wp_walk using wpAny_loadPart' hl)
      | (refine wpAny_ite_true (decide_eq_true (by rw [hi]; decide)) ?_; wp_walk using wpAny_loadPart' hl))
    exact ⟨_, rfl, h⟩
def rRepS (K : PySem.W.Frag) : R2 := fun x y H Q => ∃ l k xs, x = .ref l ∧ y = .int k ∧ SqT K H l xs ∧ xs ≠ [] ∧ 0 ≤ k ∧ k ≤ 1000 ∧ xs.length ≤ 1000 ∧ (k = 1 → Q (.ref l) H) ∧ (k ≠ 1 → ∀ p, H p = none → Q (.ref p) (upd H p (.tup (List.replicate k.toNat xs).flatten)))
theorem op_repS {X : Cx} : OpR X (binaryOp .Mult) (rRepS X.K) := by
  intro pins s σ H x y v u Q I rx ry h
  obtain ⟨l, k, xs, rfl, rfl, hT, hne, h1, h2, hz, q1, q2⟩ := h
  by_cases k2 : 2 ≤ k
  · exact op_repT pins s σ H _ _ v u Q I rx ry ⟨l, k, xs, rfl, rfl, hT, hne, k2, h2, hz, q2 (by omega)⟩
  cases rx
  obtain ⟨t, rfl⟩ := ry
  obtain ⟨its, r, ⟨⟨cls, dd, data, sl⟩, ho, hc, n, hd⟩, hs⟩ := I.tuple hT
  simp only at hc hd
  subst hc hd
  have hn : its ≠ [] := fun e => hne (by
    have hle := r.length
    rw [e] at hle
    exact List.eq_nil_of_length_eq_zero hle)
  have hi : its.toArray.isEmpty = false := by
    cases its with
    | nil => exact absurd rfl hn
    | cons a b => rfl
  by_cases k1 : k = 1
  · subst k1
    refine wpAny_binaryOp_repeat_ref (T := "tuple") (U := "int") (by decide) ⟨_, ho, rfl⟩ (fun s' => typeIs_int s' 1 t) noFill_tuple_mul F.fills_int_mul F.slot_int_rmul repeat_tuple F.slot_int_index.lookup
      (call_meets F.slot_int_rmul (typeIs_int s 1 t) F.entry_int_rmul (F.args_int_rmul_2 _ _) (int_rmul_tuple 1 t l its.toArray n dd sl)
        ⟨ho, rfl, ⟨_, ho, rfl⟩, call_meets F.slot_tuple_mul ⟨_, ho, rfl⟩ F.entry_tuple_mul (F.args_tuple_mul_2 _ _) (mul_once l its.toArray n dd sl t hi) ⟨ho, ?_⟩⟩)
    exact ⟨.ref l, H, I, rfl, q1 rfl⟩
  · have k0 : k = 0 := by omega
    subst k0
    refine wpAny_binaryOp_repeat_ref (T := "tuple") (U := "int") (by decide) ⟨_, ho, rfl⟩ (fun s' => typeIs_int s' 0 t) noFill_tuple_mul F.fills_int_mul F.slot_int_rmul repeat_tuple F.slot_int_index.lookup
      (call_meets F.slot_int_rmul (typeIs_int s 0 t) F.entry_int_rmul (F.args_int_rmul_2 _ _) (int_rmul_tuple 0 t l its.toArray n dd sl)
        ⟨ho, rfl, ⟨_, ho, rfl⟩, call_meets F.slot_tuple_mul ⟨_, ho, rfl⟩ F.entry_tuple_mul (F.args_tuple_mul_2 _ _) (mul_none l its.toArray n dd sl t hi) ⟨ho, ?_⟩⟩)
    refine ⟨.ref s.heap.objs.size, _, I.laid (t' := s.toks) (o := .tup (List.replicate (0 : Int).toNat xs).flatten) (fun b ob q => Heap.get?_push_of_some _ q) (Nat.le_refl _) ?_, rfl, q2 k1 _ (I.hok.fresh (Nat.le_refl _))⟩
    exact ⟨Nat.zero_le _, [], .nil, IsTup.new _ _⟩
end SoM

set_option Elab.async false
set_option linter.all false
set_option maxRecDepth 100000
set_option maxHeartbeats 4000000
namespace K6
open PySem PySem.Spec PyProof.Rows L2 So
def top (i : Nat) : Stmt := PySem.Challenge.pw_stillopen_k07_whole_what_questions_mean.main.body.getD i (.Pass ⟨0, 0, 0, 0⟩)
def lets : Str := "abcdefghijklmnopqrstuvwxyz"
structure Tx (K : PySem.W.Frag) (mg : Str → Option Value) : Prop where
  isi : mg "isinstance" = none
  list : mg "list" = none
  tuple : mg "tuple" = none
  len : mg "len" = none
  int : mg "int" = none
  bool : mg "bool" = none
  str : mg "str" = none
  all : mg "all" = none
  enumerate : mg "enumerate" = none
  reversed : mg "reversed" = none
  range : mg "range" = none
  abs : mg "abs" = none
  sorted : mg "sorted" = none
  min : mg "min" = none
  letters : ∃ t, mg "LETTERS" = some (.str lets t)
  lmost : ∃ t, mg "LABEL_MOST" = some (.int 12 t)
  tmost : ∃ t, mg "TEXT_MOST" = some (.int 65535 t)
theorem tyT {K : PySem.W.Frag} {H : Hp} {p : Addr} {xs : List V} (h : SqT K H p xs) : TyX K H (.ref p) (.type "tuple") := by
  rcases h with (h | ⟨o, h⟩) | ⟨o, its, n, h, c, _⟩
  · exact .base (.tup h)
  · exact .fTuple h
  · exact .kTuple h c
theorem kitTrue {K : PySem.W.Frag} : PySem.W.kitAny K (.type "tuple") [.type "list", .type "tuple"] = some true :=
  kitAny_cons (b := false) (kit_ty (by decide +kernel)) (fun _ => kitAny_cons (b := true) (kit_ty (by decide +kernel)) (fun q => nomatch q) fun _ => rfl) (fun q => nomatch q)
section
variable {Pg : Program} {w : World} {K : PySem.W.Frag} {mg : Str → Option Value} {base : Heap} {P : Addr}
/-! ### is_sequence -/
abbrev sSeq : Stmt := top 12
theorem scSeq : FnScope ["value"] ["value"] (defScope sSeq) := ⟨rfl, rfl, rfl, by decide +kernel, rfl, by decide +kernel, by decide +kernel⟩
def spSeq (K : PySem.W.Frag) (P : Addr) : Sp := Pu P fun vs H R => ∃ (p : Addr) (xs : List V), vs = [.ref p] ∧ SqT K H p xs ∧ R = fun v _ => v = .bl true
theorem ok_seq {f : Addr} {fd : FuncData} (F : Fun K "is_sequence" "is_sequence" sSeq f fd) (T : Tx K mg) : FnOk Pg w K mg base CX0 1 f fd ["value"] (spSeq K P) := by
  refine F.ok scSeq (fun vs H Q E h => ?_) (fun cdv A outer s H vs Q E hr h => ?_)
  · obtain ⟨_, _, ⟨p, xs, rfl, _⟩, _⟩ := h
    rfl
  · obtain ⟨t, _, ⟨p, xs, rfl, hx, rfl⟩, k⟩ := h
    refine ⟨_, pss_one (ps_ret (pe_callB call_isiT (by rfl) T.isi (by decide +kernel) (pa_cons (pv 0) (pa_cons (pe_tup (pa_cons (pe_bltn (v := .ty "list") (by rfl) T.list (by decide +kernel) rfl) (pa_cons (pe_bltn (v := .ty "tuple") (by rfl) T.tuple (by decide +kernel) rfl) pa_nil))) pa_nil)))), ?_⟩
    refine ⟨_, rfl, (by show 2 ≤ sizeLine; decide), fun q hq => ?_⟩
    have s1 : Sm P H (upd H q (.tup [.ty "list", .ty "tuple"])) := Sm.new t hq
    exact ⟨_, q, _, _, _, true, rfl, upd_same, .cons (.ty _) (.cons (.ty _) .nil), tyT (s1.tup t hx), kitTrue, k _ _ s1 rfl⟩
/-! ### is_row_of -/
abbrev sRow : Stmt := top 13
theorem scRow : FnScope ["value", "many"] ["value", "many"] (defScope sRow) := ⟨rfl, rfl, rfl, by decide +kernel, rfl, by decide +kernel, by decide +kernel⟩
def spRow (K : PySem.W.Frag) (P : Addr) : Sp := Pu P fun vs H R => ∃ (p : Addr) (xs : List V) (n : Int), vs = [.ref p, .int n] ∧ SqT K H p xs ∧ R = fun v _ => v = .bl (decide ((xs.length : Int) = n))
theorem ok_row {f fS : Addr} {fd fdS : FuncData} (F : Fun K "is_row_of" "is_row_of" sRow f fd) (T : Tx K mg) (S : Df K mg "is_sequence" sSeq ["value"] fS fdS) : FnOk Pg w K mg base CX0 2 f fd ["value", "many"] (spRow K P) := by
  have GS : FnOk Pg w K mg base CX0 1 fS fdS ["value"] (spSeq K P) := ok_seq S.F T
  refine F.ok scRow (fun vs H Q E h => ?_) (fun cdv A outer s H vs Q E hr h => ?_)
  · obtain ⟨_, _, ⟨p, xs, n, rfl, _⟩, _⟩ := h
    rfl
  · obtain ⟨t, _, ⟨p, xs, n, rfl, hx, rfl⟩, k⟩ := h
    refine ⟨_, pss_one (ps_ret (pe_and (pe_call GS hr (by rfl) S.g S.F.kp S.b .nil pass0 (pa_cons (pv 0) pa_nil)) (pe_one (pe_cmpR op_eq (pe_callB call_len_seq (by rfl) T.len (by decide +kernel) (pa_cons (pv 0) pa_nil)) (pv 1) (nomark _))))), ?_⟩
    refine ⟨_, rfl, t, _, ⟨p, xs, rfl, hx, rfl⟩, fun v H' s1 e => ⟨true, e, ?_⟩⟩
    refine iteT ⟨_, rfl, p, xs, rfl, .inr (s1.tup t hx), _, rfl, rfl, ?_⟩
    refine k _ _ s1 ?_
    show V.bl (decide (V.int (xs.length : Int) = V.int n)) = V.bl (decide ((xs.length : Int) = n))
    by_cases e : (xs.length : Int) = n
    · rw [decide_eq_true e, decide_eq_true (congrArg V.int e)]
    · rw [decide_eq_false e, decide_eq_false (fun q => e (V.int.inj q))]
/-! ### is_number, of an int -/
abbrev sNum : Stmt := top 10
theorem scNum : FnScope ["value"] ["value"] (defScope sNum) := ⟨rfl, rfl, rfl, by decide +kernel, rfl, by decide +kernel, by decide +kernel⟩
def spNum (P : Addr) : Sp := Pu P fun vs H R => ∃ n : Int, vs = [.int n] ∧ R = fun v _ => v = .bl (decide (n ≥ 0))
theorem ok_num {f : Addr} {fd : FuncData} (F : Fun K "is_number" "is_number" sNum f fd) (T : Tx K mg) : FnOk Pg w K mg base CX0 1 f fd ["value"] (spNum P) := by
  refine F.ok scNum (fun vs H Q E h => ?_) (fun cdv A outer s H vs Q E hr h => ?_)
  · obtain ⟨_, _, ⟨n, rfl, _⟩, _⟩ := h
    rfl
  · obtain ⟨t, _, ⟨n, rfl, rfl⟩, k⟩ := h
    refine ⟨_, pss_one (ps_ret (pe_and (pe_callB call_isi (by rfl) T.isi (by decide +kernel) (pa_cons (pv 0) (pa_cons (pe_bltn (v := .ty "int") (by rfl) T.int (by decide +kernel) rfl) pa_nil)))
      (pe_and (pe_not (pe_callB call_isi (by rfl) T.isi (by decide +kernel) (pa_cons (pv 0) (pa_cons (pe_bltn (v := .ty "bool") (by rfl) T.bool (by decide +kernel) rfl) pa_nil)))) (pe_one (pe_cmpR op_ge (pv 0) pe_int (nomark _)))))), ?_⟩
    refine ⟨_, rfl, _, _, _, _, true, rfl, .ty _, .base (.int n), kit_ty (by decide +kernel), true, rfl, iteT ?_⟩
    refine ⟨_, rfl, _, _, _, _, false, rfl, .ty _, .base (.int n), kit_ty (by decide +kernel), false, rfl, true, rfl, iteT ?_⟩
    exact ⟨_, rfl, _, _, rfl, rfl, k _ _ (Sm.refl t) rfl⟩
/-! ### is_text, of a text -/
abbrev sTxt : Stmt := top 15
theorem scTxt : FnScope ["value"] ["value"] (defScope sTxt) := ⟨rfl, rfl, rfl, by decide +kernel, rfl, by decide +kernel, by decide +kernel⟩
def spTxt (P : Addr) : Sp := Pu P fun vs H R => ∃ z : Str, vs = [.str z] ∧ z.length ≤ sizeLine ∧ R = fun v _ => v = .bl (decide ((z.length : Int) ≤ 65535))
theorem ok_txt {f : Addr} {fd : FuncData} (F : Fun K "is_text" "is_text" sTxt f fd) (T : Tx K mg) : FnOk Pg w K mg base CX0 1 f fd ["value"] (spTxt P) := by
  obtain ⟨_, tm⟩ := T.tmost
  refine F.ok scTxt (fun vs H Q E h => ?_) (fun cdv A outer s H vs Q E hr h => ?_)
  · obtain ⟨_, _, ⟨n, rfl, _⟩, _⟩ := h
    rfl
  · obtain ⟨t, _, ⟨z, rfl, hz, rfl⟩, k⟩ := h
    refine ⟨_, pss_one (ps_ret (pe_and (pe_callB call_isi (by rfl) T.isi (by decide +kernel) (pa_cons (pv 0) (pa_cons (pe_bltn (v := .ty "str") (by rfl) T.str (by decide +kernel) rfl) pa_nil)))
      (pe_one (pe_cmpR op_le (pe_callB call_len_str (by rfl) T.len (by decide +kernel) (pa_cons (pv 0) pa_nil)) (pe_glob (v := .int 65535) (by rfl) tm ⟨_, rfl⟩) (nomark _))))), ?_⟩
    refine ⟨_, rfl, _, _, _, _, true, rfl, .ty _, .base (.str z), kit_ty (by decide +kernel), true, rfl, iteT ?_⟩
    exact ⟨_, rfl, z, rfl, hz, _, _, rfl, rfl, k _ _ (Sm.refl t) rfl⟩
/-! ### is_label, of a text -/
abbrev sLab : Stmt := top 14
theorem scLab : FnScope ["value"] ["value"] (defScope sLab) := ⟨rfl, rfl, rfl, by decide +kernel, rfl, by decide +kernel, by decide +kernel⟩
def isLab (z : Str) : Bool := decide ((1 : Int) ≤ (z.length : Int)) && decide ((z.length : Int) ≤ 12) && z.cps.toList.all fun c => decide (c ∈ lets.cps.toList)
def spLab (P : Addr) : Sp := Pu P fun vs H R => ∃ z : Str, vs = [.str z] ∧ z.length ≤ sizeLine ∧ R = fun v _ => v = .bl (isLab z)
theorem ok_lab {f c : Addr} {fd : FuncData} (F : DfC K mg "is_label" sLab ["value"] f fd c) (T : Tx K mg) (TB : GxR.TabB base mg c P) : FnOk Pg w K mg base CX0 1 f fd ["value"] (spLab P) := by
  obtain ⟨_, tm⟩ := T.lmost
  obtain ⟨_, tl⟩ := T.letters
  refine F.ok scLab (fun vs H Q E h => ?_) (fun A outer s H vs Q E hr h => ?_)
  · obtain ⟨_, _, ⟨n, rfl, _⟩, _⟩ := h
    rfl
  · obtain ⟨t, _, ⟨z, rfl, hz, rfl⟩, k⟩ := h
    refine ⟨_, pss_cons (ps_if (PW.pt (pw_or (pt_not (pt_val (pe_callB call_isi (by rfl) T.isi (by decide +kernel) (pa_cons (pv 0) (pa_cons (pe_bltn (v := .ty "str") (by rfl) T.str (by decide +kernel) rfl) pa_nil)))))
        (pw_or1 (pt_not (pt_chain op_le op_le pe_int (pe_callB call_len_str (by rfl) T.len (by decide +kernel) (pa_cons (pv 0) pa_nil)) (pe_glob (v := .int 12) (by rfl) tm ⟨_, rfl⟩))))))
        (pss_one (ps_ret pe_bl)) pss_nil)
      (pss_one (ps_ret (SoGx.pe_allG (c := c) (P := P) (pb := fun c => decide (c ∈ lets.cps.toList)) hr (by rfl) T.all (by decide +kernel) TB rfl ⟨rfl, rfl, by decide +kernel, rfl, rfl, fun y hy e => False.elim (by revert hy e; revert y; decide +kernel)⟩ (pv 0) (SoGx.elt_in rfl rfl rfl tl) (fun _ => rfl)))), ?_⟩
    have key : ∀ b : Bool, b = isLab z → ∀ H', Sm P H H' → Q (.bl b) H' := fun b e H' s1 => k _ _ s1 (congrArg V.bl e)
    refine ⟨_, rfl, _, _, _, _, true, rfl, .ty _, .base (.str z), kit_ty (by decide +kernel), true, rfl, iteF ?_⟩
    refine ⟨_, rfl, z, rfl, hz, _, _, rfl, rfl, _, rfl, ?_⟩
    refine ite2 (fun h1 => ?_) (fun h1 => ?_)
    · refine ⟨_, _, rfl, rfl, _, rfl, ?_⟩
      by_cases h2 : (z.length : Int) ≤ 12
      · rw [decide_eq_true h2]
        refine iteF ?_
        refine ⟨_, rfl, z, rfl, t, fun H2 hT => key _ ?_ H2 (Sm.of_tabbed hT)⟩
        unfold isLab
        rw [h1, decide_eq_true h2]
        rfl
      · rw [decide_eq_false h2]
        refine iteT ?_
        refine key _ ?_ H (Sm.refl t)
        unfold isLab
        rw [decide_eq_false h2, Bool.and_false, Bool.false_and]
    · refine ⟨false, rfl, iteT ?_⟩
      refine key _ ?_ H (Sm.refl t)
      unfold isLab
      have e1 : decide ((1 : Int) ≤ (z.length : Int)) = false := Bool.eq_false_iff.mpr h1
      rw [e1, Bool.false_and, Bool.false_and]
end
end K6

set_option Elab.async false
set_option linter.all false
set_option maxRecDepth 100000
set_option maxHeartbeats 4000000
namespace K6
open PySem PySem.Spec PyProof.Rows L2 So
/-- a sign -/
inductive Sg where
  | op (l : Str) | tx (t : Str) | cl
  deriving DecidableEq
def Sg.vs : Sg → List V
  | .op l => [.str "open", .str l]
  | .tx t => [.str "text", .str t]
  | .cl => [.str "close"]
def Sg.ok : Sg → Bool
  | .op l => isLab l && decide (l.length ≤ 12)
  | .tx t => decide (t.length ≤ 65535)
  | .cl => true
theorem sz12 {n : Nat} (h : n ≤ 12) : n ≤ sizeLine := Nat.le_trans h (by decide)
theorem sz65 {n : Nat} (h : n ≤ 65535) : n ≤ sizeLine := Nat.le_trans h (by decide)
theorem dstr {a b : Str} (h : decide (a = b) = false) : decide (V.str a = V.str b) = false := decide_eq_false fun q => of_decide_eq_false h (V.str.inj q)
/-! ### a row of signs -/
def Sg.d : Sg → Int
  | .op _ => 1
  | .tx _ => 0
  | .cl => -1
def lev : List Sg → Nat → Int → Sum Nat Int
  | [], _, l => .inr l
  | g :: r, i, l => if l + g.d < 0 then .inl i else lev r (i + 1) (l + g.d)
def SgV (K : PySem.W.Frag) (H : Hp) (v : V) (g : Sg) : Prop := ∃ q, v = .ref q ∧ SqT K H q g.vs
def RowAt (K : PySem.W.Frag) (H : Hp) (p : Addr) (xs : List V) (gs : List Sg) : Prop := SqT K H p xs ∧ Paired (SgV K H) xs gs ∧ gs.all Sg.ok = true ∧ gs.length ≤ 100000
theorem paired_get {α β : Type} {R : α → β → Prop} : ∀ {xs : List α} {ys : List β} {i : Nat} {x : α}, Paired R xs ys → xs[i]? = some x → ∃ y, ys[i]? = some y ∧ R x y
  | _, _, _, _, .nil, e => by simp at e
  | _, _, 0, _, .cons r _, e => by
    simp at e
    subst e
    exact ⟨_, rfl, r⟩
  | _, _, i + 1, x, .cons _ t, e => by
    obtain ⟨y, h1, h2⟩ := paired_get (i := i) (x := x) t (by simpa using e)
    exact ⟨y, by simpa using h1, h2⟩
theorem paired_mono {α β : Type} {R R' : α → β → Prop} (h : ∀ x y, R x y → R' x y) : ∀ {xs : List α} {ys : List β}, Paired R xs ys → Paired R' xs ys
  | _, _, .nil => .nil
  | _, _, .cons r t => .cons (h _ _ r) (paired_mono h t)
theorem sgs_mono {K : PySem.W.Frag} {P : Addr} {H H' : Hp} (t : GxR.TabG H P) (s : Sm P H H') {xs : List V} {gs : List Sg} (h : Paired (SgV K H) xs gs) : Paired (SgV K H') xs gs :=
  paired_mono (fun _ _ ⟨q, e, h⟩ => ⟨q, e, s.tup t h⟩) h
theorem RowAt.mono {K : PySem.W.Frag} {P : Addr} {H H' : Hp} {p : Addr} {xs : List V} {gs : List Sg} (t : GxR.TabG H P) (s : Sm P H H') (h : RowAt K H p xs gs) : RowAt K H' p xs gs :=
  ⟨s.tup t h.1, sgs_mono t s h.2.1, h.2.2⟩
theorem all_get {gs : List Sg} {i : Nat} {g : Sg} (h : gs.all Sg.ok = true) (e : gs[i]? = some g) : g.ok = true := List.all_eq_true.mp h g (List.mem_of_getElem? e)
theorem take_snoc {α : Type} {l : List α} {i : Nat} {x : α} (h : l[i]? = some x) : l.take (i + 1) = l.take i ++ [x] := by
  rw [List.take_add_one, h]
  rfl
theorem drop_at {α : Type} {l : List α} {i : Nat} {x : α} (h : l[i]? = some x) : l.drop i = x :: l.drop (i + 1) := by
  have hl := (List.getElem?_eq_some_iff.mp h)
  obtain ⟨h1, h2⟩ := hl
  rw [List.drop_eq_getElem_cons h1, h2]
theorem lev_at {gs : List Sg} {i : Nat} {g : Sg} {l : Int} (h : gs[i]? = some g) : lev (gs.drop i) i l = if l + g.d < 0 then .inl i else lev (gs.drop (i + 1)) (i + 1) (l + g.d) := by
  rw [drop_at h]
  rfl
/-! ### nodes -/
inductive Nd where
  | tx (t : Str)
  | el (l : Str) (ds : List Nd)
mutual
def ndD : Nd → PyData
  | .tx t => .tuple [.str "text", .str t]
  | .el l ds => .tuple [.str "element", .str l, .tuple (ndsD ds)]
def ndsD : List Nd → List PyData
  | [] => []
  | d :: r => ndD d :: ndsD r
end
mutual
def sgN : Nd → List Sg
  | .tx t => [.tx t]
  | .el l ds => .op l :: (sgs ds ++ [.cl])
def sgs : List Nd → List Sg
  | [] => []
  | d :: r => sgN d ++ sgs r
end
theorem ndsD_append : ∀ a b : List Nd, ndsD (a ++ b) = ndsD a ++ ndsD b
  | [], _ => rfl
  | x :: a, b => by
    show ndD x :: ndsD (a ++ b) = ndD x :: ndsD a ++ ndsD b
    rw [ndsD_append a b]
    rfl
theorem sgs_append : ∀ a b : List Nd, sgs (a ++ b) = sgs a ++ sgs b
  | [], _ => rfl
  | x :: a, b => by
    show sgN x ++ sgs (a ++ b) = sgN x ++ sgs a ++ sgs b
    rw [sgs_append a b, List.append_assoc]
/-! ### what keeps tuples -/
def Tp (H H' : Hp) : Prop := ∀ b xs, Rd H b (.tup xs) → Rd H' b (.tup xs)
theorem Tp.refl (H : Hp) : Tp H H := fun _ _ h => h
theorem Tp.trans {H H1 H2 : Hp} (a : Tp H H1) (b : Tp H1 H2) : Tp H H2 := fun x y h => b x y (a x y h)
theorem Tp.sm {P : Addr} {H H' : Hp} (t : GxR.TabG H P) (s : Sm P H H') : Tp H H' := fun b xs h => by
  rcases h with h | ⟨o, h⟩
  · exact .inl (s.1 _ _ (tab_tup t h (fun _ q => nomatch q)) h)
  · exact .inr ⟨o, s.1 _ _ (tab_tup t h (fun _ q => nomatch q)) h⟩
theorem Tp.new {H : Hp} {p : Addr} {o : HO} (h : H p = none) : Tp H (upd H p o) := fun b xs r => by
  rcases r with r | ⟨u, r⟩
  · exact .inl (by rw [upd_ne (ne_of_none r h)]; exact r)
  · exact .inr ⟨u, by rw [upd_ne (ne_of_none r h)]; exact r⟩
theorem Tp.lst {H : Hp} {p : Addr} {o : HO} {ys : List V} (h : H p = some (.lst ys)) : Tp H (upd H p o) := fun b xs r => by
  rcases r with r | ⟨u, r⟩
  · exact .inl (by rw [upd_ne (ne_of r h (fun q => nomatch q))]; exact r)
  · exact .inr ⟨u, by rw [upd_ne (ne_of r h (fun q => nomatch q))]; exact r⟩
section
variable {K : PySem.W.Frag} {H H' : Hp}
theorem Tp.sq {a : Addr} {xs : List V} (s : Tp H H') (h : SqT K H a xs) : SqT K H' a xs := by
  rcases h with h | h
  · exact .inl (s _ _ h)
  · exact .inr h
theorem dp_str {v : V} {z : Str} (h : Dp K H v (.str z)) : v = .str z := by
  cases h
  rfl
theorem dp_tup {v : V} {ds : List PyData} (h : Dp K H v (.tuple ds)) : ∃ a xs, v = .ref a ∧ SqT K H a xs ∧ DpAll K H xs ds := by
  cases h with
  | tup h1 h2 => exact ⟨_, _, rfl, h1, h2⟩
theorem all_nil' {xs : List V} (h : DpAll K H xs []) : xs = [] := by
  cases h
  rfl
theorem all_cons' {xs : List V} {d : PyData} {ds : List PyData} (h : DpAll K H xs (d :: ds)) : ∃ v vs, xs = v :: vs ∧ Dp K H v d ∧ DpAll K H vs ds := by
  cases h with
  | cons h1 h2 => exact ⟨_, _, rfl, h1, h2⟩
theorem all_append : ∀ {xs ys : List V} {ds es : List PyData}, DpAll K H xs ds → DpAll K H ys es → DpAll K H (xs ++ ys) (ds ++ es)
  | [], _, _, _, .nil, h => h
  | _ :: _, _, _, _, .cons a b, h => .cons a (all_append b h)
theorem all_length : ∀ {xs : List V} {ds : List PyData}, DpAll K H xs ds → xs.length = ds.length
  | [], _, .nil => rfl
  | _ :: _, _, .cons _ b => congrArg (· + 1) (all_length b)
theorem ndsD_length : ∀ ds : List Nd, (ndsD ds).length = ds.length
  | [] => rfl
  | _ :: r => congrArg (· + 1) (ndsD_length r)
theorem nd_tx {v : V} {z : Str} (h : Dp K H v (ndD (.tx z))) : ∃ a, v = .ref a ∧ SqT K H a [.str "text", .str z] := by
  obtain ⟨a, xs, rfl, h1, h2⟩ := dp_tup (show Dp K H v (.tuple [.str "text", .str z]) by simpa only [ndD] using h)
  obtain ⟨v1, r1, rfl, d1, h3⟩ := all_cons' h2
  obtain ⟨v2, r2, rfl, d2, h4⟩ := all_cons' h3
  cases dp_str d1
  cases dp_str d2
  cases all_nil' h4
  exact ⟨a, rfl, h1⟩
theorem nd_el {v : V} {l : Str} {ds : List Nd} (h : Dp K H v (ndD (.el l ds))) : ∃ a b ys, v = .ref a ∧ SqT K H a [.str "element", .str l, .ref b] ∧ SqT K H b ys ∧ DpAll K H ys (ndsD ds) := by
  obtain ⟨a, xs, rfl, h1, h2⟩ := dp_tup (show Dp K H v (.tuple [.str "element", .str l, .tuple (ndsD ds)]) by simpa only [ndD] using h)
  obtain ⟨v1, r1, rfl, d1, h3⟩ := all_cons' h2
  obtain ⟨v2, r2, rfl, d2, h4⟩ := all_cons' h3
  obtain ⟨v3, r3, rfl, d3, h5⟩ := all_cons' h4
  cases dp_str d1
  cases dp_str d2
  cases all_nil' h5
  obtain ⟨b, ys, rfl, h6, h7⟩ := dp_tup d3
  exact ⟨a, b, ys, rfl, h1, h6, h7⟩
theorem nd_tx_mk {a : Addr} {z : Str} (h : SqT K H a [.str "text", .str z]) : Dp K H (.ref a) (ndD (.tx z)) := by
  rw [ndD]
  exact .tup h (.cons (.str _) (.cons (.str _) .nil))
theorem nd_el_mk {a b : Addr} {l : Str} {ds : List Nd} {ys : List V} (h : SqT K H a [.str "element", .str l, .ref b]) (h2 : SqT K H b ys) (h3 : DpAll K H ys (ndsD ds)) : Dp K H (.ref a) (ndD (.el l ds)) := by
  rw [ndD]
  exact .tup h (.cons (.str _) (.cons (.str _) (.cons (.tup h2 h3) .nil)))
mutual
theorem nd_tp (s : Tp H H') : ∀ (d : Nd) (v : V), Dp K H v (ndD d) → Dp K H' v (ndD d)
  | .tx z, v, h => by
    obtain ⟨a, rfl, h1⟩ := nd_tx h
    exact nd_tx_mk (s.sq h1)
  | .el l ds, v, h => by
    obtain ⟨a, b, ys, rfl, h1, h2, h3⟩ := nd_el h
    exact nd_el_mk (s.sq h1) (s.sq h2) (nds_tp s ds ys h3)
theorem nds_tp (s : Tp H H') : ∀ (ds : List Nd) (vs : List V), DpAll K H vs (ndsD ds) → DpAll K H' vs (ndsD ds)
  | [], vs, h => by
    rw [ndsD] at h ⊢
    cases all_nil' h
    exact .nil
  | d :: r, vs, h => by
    rw [ndsD] at h ⊢
    obtain ⟨v, vs', rfl, h1, h2⟩ := all_cons' h
    exact .cons (nd_tp s d v h1) (nds_tp s r vs' h2)
end
end
/-! ### frames: the lists that are open, the innermost first -/
def Frs (K : PySem.W.Frag) (H : Hp) (n : Nat) : List (Addr × List V) → List (List Nd) → Prop :=
  Paired fun f r => H f.1 = some (.lst f.2) ∧ DpAll K H f.2 (ndsD r) ∧ f.2.length ≤ n
def adr (fr : List (Addr × List V)) : List Addr := fr.map (·.1)
def refs (fr : List (Addr × List V)) : List V := (fr.map fun f => V.ref f.1).reverse
theorem refs_cons (f : Addr × List V) (fr : List (Addr × List V)) : refs (f :: fr) = refs fr ++ [V.ref f.1] := by
  unfold refs
  rw [List.map_cons, List.reverse_cons]
theorem refs_len (fr : List (Addr × List V)) : (refs fr).length = fr.length := by
  unfold refs
  simp
theorem Frs.mono {K : PySem.W.Frag} {H H' : Hp} {n m : Nat} (tp : Tp H H') (hn : n ≤ m) : ∀ {fr : List (Addr × List V)} {rows : List (List Nd)}, (∀ f ∈ fr, H' f.1 = H f.1) → Frs K H n fr rows → Frs K H' m fr rows
  | _, _, _, .nil => .nil
  | f :: _, _, h, .cons a b => .cons ⟨by rw [h f (List.mem_cons_self ..)]; exact a.1, nds_tp tp _ _ a.2.1, Nat.le_trans a.2.2 hn⟩ (Frs.mono tp hn (fun x hx => h x (List.mem_cons_of_mem _ hx)) b)
theorem Frs.len {K : PySem.W.Frag} {H : Hp} {n : Nat} {fr : List (Addr × List V)} {rows : List (List Nd)} (h : Frs K H n fr rows) : fr.length = rows.length := Paired.length h
theorem pop_last {α : Type} (xs : List α) (y : α) : (xs ++ [y])[(xs ++ [y]).length - 1]? = some y := by
  simp
theorem ne_mem {α : Type} {a : α} {xs : List α} (h : a ∉ xs) {b : α} (hb : b ∈ xs) : b ≠ a := fun e => h (e ▸ hb)
def isTx : Nd → Bool
  | .tx _ => true
  | .el _ _ => false
theorem sgok_op {l : Str} (h : Sg.ok (.op l) = true) : isLab l = true ∧ l.length ≤ 12 := by
  have q : (isLab l && decide (l.length ≤ 12)) = true := h
  rw [Bool.and_eq_true] at q
  exact ⟨q.1, of_decide_eq_true q.2⟩
theorem sgok_tx {z : Str} (h : Sg.ok (.tx z) = true) : z.length ≤ 65535 := of_decide_eq_true h
section
variable {Pg : Program} {w : World} {K : PySem.W.Frag} {mg : Str → Option Value} {base : Heap} {P : Addr}
/-! ### _is_text_node -/
abbrev sItn : Stmt := top 17
theorem scItn : FnScope ["value"] ["value"] (defScope sItn) := ⟨rfl, rfl, rfl, by decide +kernel, rfl, by decide +kernel, by decide +kernel⟩
def spItn (K : PySem.W.Frag) (P : Addr) : Sp := Pu P fun vs H R => ∃ (v : V) (d : Nd), vs = [v] ∧ Dp K H v (ndD d) ∧ (sgN d).all Sg.ok = true ∧ R = fun v _ => v = .bl (isTx d)
theorem ok_itn {f fS fR fT : Addr} {fd fdS fdR fdT : FuncData} (F : Fun K "_is_text_node" "_is_text_node" sItn f fd) (T : Tx K mg)
    (S : Df K mg "is_sequence" sSeq ["value"] fS fdS) (R : Df K mg "is_row_of" sRow ["value", "many"] fR fdR) (X : Df K mg "is_text" sTxt ["value"] fT fdT) : FnOk Pg w K mg base CX0 3 f fd ["value"] (spItn K P) := by
  have GR : FnOk Pg w K mg base CX0 2 fR fdR ["value", "many"] (spRow K P) := ok_row R.F T S
  have GX : FnOk Pg w K mg base CX0 1 fT fdT ["value"] (spTxt P) := ok_txt X.F T
  refine F.ok scItn (fun vs H Q E h => ?_) (fun cdv A outer s H vs Q E hr h => ?_)
  · obtain ⟨_, _, ⟨_, _, rfl, _⟩, _⟩ := h
    rfl
  · obtain ⟨t, _, ⟨v, d, rfl, hd, hok, rfl⟩, k⟩ := h
    refine ⟨_, pss_one (ps_ret (pe_and (pe_call GR hr (by rfl) R.g R.F.kp R.b .nil pass0 (pa_cons (pv 0) (pa_cons pe_int pa_nil)))
      (pe_and (pe_cmpR op_eq (pe_ix ix_tup (pv 0) pe_int (fun _ _ => rfl)) pe_str (nomark _)) (pe_one (pe_call GX (hr.mono (by decide)) (by rfl) X.g X.F.kp X.b .nil pass0 (pa_cons (pe_ix ix_tup (pv 0) pe_int (fun _ _ => rfl)) pa_nil)))))), ?_⟩
    cases d with
    | tx z =>
      obtain ⟨a, rfl, ha⟩ := nd_tx hd
      have hz : z.length ≤ 65535 := sgok_tx (by simpa [sgN] using hok)
      refine ⟨_, rfl, t, _, ⟨a, _, _, rfl, ha, rfl⟩, fun v H1 s1 e => ⟨true, e, iteT ?_⟩⟩
      refine ⟨_, rfl, a, _, _, _, rfl, rfl, s1.tup t ha, atI_nat (j := 0) rfl, rfl, true, rfl, iteT ?_⟩
      refine ⟨_, rfl, a, _, _, _, rfl, rfl, s1.tup t ha, atI_nat (j := 1) rfl, s1.2, _, ⟨z, rfl, sz65 hz, rfl⟩, fun v H2 s2 e2 => ?_⟩
      exact k _ _ (s1.trans s2) (by rw [e2, decide_eq_true (by omega)]; rfl)
    | el l ds =>
      obtain ⟨a, b, ys, rfl, ha, hb, hc⟩ := nd_el hd
      refine ⟨_, rfl, t, _, ⟨a, _, _, rfl, ha, rfl⟩, fun v H1 s1 e => ⟨false, e, iteF ?_⟩⟩
      exact k _ _ s1 rfl
/-! ### _is_element_node, of an element -/
abbrev sIen' : Stmt := top 18
theorem scIel : FnScope ["value"] ["value"] (defScope sIen') := ⟨rfl, rfl, rfl, by decide +kernel, rfl, by decide +kernel, by decide +kernel⟩
def spIel (K : PySem.W.Frag) (P : Addr) : Sp := Pu P fun vs H R => ∃ (v : V) (l : Str) (ds : List Nd), vs = [v] ∧ Dp K H v (ndD (.el l ds)) ∧ Sg.ok (.op l) = true ∧ R = fun v _ => v = .bl true
theorem ok_iel {f fS fR fL c : Addr} {fd fdS fdR fdL : FuncData} (F : Fun K "_is_element_node" "_is_element_node" sIen' f fd) (T : Tx K mg) (TB : GxR.TabB base mg c P)
    (S : Df K mg "is_sequence" sSeq ["value"] fS fdS) (R : Df K mg "is_row_of" sRow ["value", "many"] fR fdR) (L : DfC K mg "is_label" sLab ["value"] fL fdL c) : FnOk Pg w K mg base CX0 3 f fd ["value"] (spIel K P) := by
  have GR : FnOk Pg w K mg base CX0 2 fR fdR ["value", "many"] (spRow K P) := ok_row R.F T S
  have GS : FnOk Pg w K mg base CX0 1 fS fdS ["value"] (spSeq K P) := ok_seq S.F T
  have GL : FnOk Pg w K mg base CX0 1 fL fdL ["value"] (spLab P) := ok_lab L T TB
  refine F.ok scIel (fun vs H Q E h => ?_) (fun cdv A outer s H vs Q E hr h => ?_)
  · obtain ⟨_, _, ⟨_, _, _, rfl, _⟩, _⟩ := h
    rfl
  · obtain ⟨t, _, ⟨v, l, ds, rfl, hd, hok, rfl⟩, k⟩ := h
    have hr1 : Room 1 _ := hr.mono (by decide)
    refine ⟨_, pss_one (ps_ret (pe_and (pe_call GR hr (by rfl) R.g R.F.kp R.b .nil pass0 (pa_cons (pv 0) (pa_cons pe_int pa_nil)))
      (pe_and (pe_cmpR op_eq (pe_ix ix_tup (pv 0) pe_int (fun _ _ => rfl)) pe_str (nomark _))
      (pe_and (pe_call GL hr1 (by rfl) L.g L.kp L.b .nil pass0 (pa_cons (pe_ix ix_tup (pv 0) pe_int (fun _ _ => rfl)) pa_nil))
      (pe_one (pe_call GS hr1 (by rfl) S.g S.F.kp S.b .nil pass0 (pa_cons (pe_ix ix_tup (pv 0) pe_int (fun _ _ => rfl)) pa_nil))))))), ?_⟩
    obtain ⟨a, b, ys, rfl, ha, hb, hc⟩ := nd_el hd
    obtain ⟨hl1, hl2⟩ := sgok_op hok
    refine ⟨_, rfl, t, _, ⟨a, _, _, rfl, ha, rfl⟩, fun v H1 s1 e => ⟨true, e, iteT ?_⟩⟩
    refine ⟨_, rfl, a, _, _, _, rfl, rfl, s1.tup t ha, atI_nat (j := 0) rfl, rfl, true, rfl, iteT ?_⟩
    refine ⟨_, rfl, a, _, _, _, rfl, rfl, s1.tup t ha, atI_nat (j := 1) rfl, s1.2, _, ⟨l, rfl, sz12 hl2, rfl⟩, fun v H2 s2 e2 => ⟨true, by rw [e2, hl1], iteT ?_⟩⟩
    have s3 := s1.trans s2
    refine ⟨_, rfl, a, _, _, _, rfl, rfl, s3.tup t ha, atI_nat (j := 2) rfl, s3.2, _, ⟨b, ys, rfl, s3.tup t hb, rfl⟩, fun v H3 s4 e3 => ?_⟩
    exact k _ _ (s3.trans s4) e3
end
/-! ### the mirror of signs_of -/
def rest : List (List Nd) → List Sg
  | [] => []
  | [w] => sgs w
  | w :: x :: ws => sgs w ++ .cl :: rest (x :: ws)
mutual
def cntN : Nd → Nat
  | .tx _ => 1
  | .el _ ds => cntS ds + 1
def cntS : List Nd → Nat
  | [] => 0
  | d :: r => cntN d + cntS r
end
def cntW : List (List Nd) → Nat
  | [] => 0
  | w :: ws => cntS w + cntW ws
theorem rest_nil {x : List Nd} {ws : List (List Nd)} : rest ([] :: x :: ws) = .cl :: rest (x :: ws) := by
  simp [rest, sgs]
theorem rest_tx {z : Str} {w : List Nd} {ws : List (List Nd)} : rest ((.tx z :: w) :: ws) = .tx z :: rest (w :: ws) := by
  cases ws <;> simp [rest, sgs, sgN]
theorem rest_el {l : Str} {ds w : List Nd} {ws : List (List Nd)} : rest ((.el l ds :: w) :: ws) = .op l :: rest (ds :: w :: ws) := by
  cases ws <;> simp [rest, sgs, sgN]
theorem cnt_tx {z : Str} {w : List Nd} {ws : List (List Nd)} : cntW (w :: ws) < cntW ((.tx z :: w) :: ws) := by
  simp [cntW, cntS, cntN] <;> omega
theorem cnt_el {l : Str} {ds w : List Nd} {ws : List (List Nd)} : cntW (ds :: w :: ws) < cntW ((.el l ds :: w) :: ws) := by
  simp [cntW, cntS, cntN] <;> omega
end K6

set_option Elab.async false
set_option linter.all false
set_option maxRecDepth 100000
set_option maxHeartbeats 4000000
namespace SoRv
open PySem PySem.Spec PyProof.Rows L2 RT
section
variable {prog : Program} {w : World} {A : Around} {E : Value → Shared → Prop} {s : Shared}
theorem size_rl {it l : Addr} {i : Int} {Q : Bool → Shared → Prop} (hit : s.heap.IsRevIter it l i) (hQ : Q false s) : wpAny (model prog w) A (Builtin.List.listLengthHint (.ref it)) Q E s := by
  have hT : s.TypeIs (.ref it) "list_reverseiterator" := hit.typeIs
  unfold Builtin.List.listLengthHint
  refine wpAny_bind (wpAny_specialOf hT nolen_lri ?_)
  show wpAny _ A (specialOf (Value.ref it) (Str.ofString "__length_hint__") >>= _) _ _ _
  refine wpAny_bind (wpAny_specialOf hT hint_lri ?_)
  generalize hid : ("list_reverseiterator.__length_hint__" : String) = id0
  wp_delta
  rw [show splitId id0 = some ("list_reverseiterator", "__length_hint__") from by subst hid; decide +kernel]
  subst hid
  refine wpAny_bind (wpAny_isInstance (b := true) hT (by rw [isSubtype_type]; kernel_rfl) ?_)
  exact wpAny_pure hQ
theorem extend_rl {it l S : Addr} {items : Array Value} {R : Result → Shared → Prop} {res : Value} {c₀ : Nat} (hh : A.handled = none) (hit : s.heap.IsRevIter it l ((items.size : Int) - 1)) (hl : s.heap.IsList l items) (hne : l ≠ it)
    (hn : items.size ≤ sizeLine) (hS : s.heap.get? S = some { cls := .type "list", data := .seq #[] c₀ }) (hSi : S ≠ it) (hSl : S ≠ l)
    (hR : ∀ h' tk acc' c', (∀ b o, b ≠ S → b ≠ it → s.heap.get? b = some o → h'.get? b = some o) → h'.get? S = some { cls := .type "list", dict := none, data := .seq acc' c', slots := #[] } →
      ItemsOf (fun i v => items[items.size - 1 - i]? = some v) acc' items.size → R (.ok (.ret res)) { s with heap := h', toks := tk }) :
    wpAny (model prog w) A.in1 (Builtin.List.listExtendWith (.ref S) (.ref it) res)
      (fun fin s' => match fin with | .done f => R (.ok f) s' | .again c' => c'.quiet = true ∧ codeAny (model prog w) A c' R s') (fun e s' => R (.error e) s') s := by
  have W := (Walks.listRev (prog := prog) (w := w) (A := A.in1) hh it l hne items).toS
  have hSf : S ∉ [it, l] := by simp only [List.mem_cons, List.not_mem_nil, or_false, not_or]; exact ⟨hSi, hSl⟩
  have hT : s.TypeIs (.ref it) "list_reverseiterator" := hit.typeIs
  have h1 : Builtin.List.listSameRef (.ref S) (.ref it) = false := by simp [Builtin.List.listSameRef, hSi]
  unfold Builtin.List.listExtendWith
  refine wpAny_bind (wpAny_typeOf hT ?_)
  rw [if_neg (by rw [h1]; decide)]
  refine wpAny_bind (wpAny_pyIter_revIter hit ?_)
  refine wpAny_bind (wpAny_holding (size_rl hit ?_))
  rw [if_neg (by decide)]
  have e0 : ((items.size : Nat) : Int) - 1 - ((0 : Nat) : Int) = (items.size : Int) - 1 := by omega
  refine wpAny_pure ⟨plainId_quiet F.plain_extend_loop _, codeAny_extend_loopS W hn S hSf res items.size 0 _ #[] c₀ rfl (Nat.zero_le _) ⟨Nat.zero_le _, by rw [e0]; exact hit, hl⟩ hS (ItemsOf.nil _) fun z acc' c' hm hS' hacc => ?_⟩
  rw [Moved.eq_with hm]
  refine hR z.heap z.toks acc' c' (fun b o hb hi e => hm.heap b o (fun hmem => ?_) e) hS' hacc
  rcases List.mem_cons.mp hmem with e' | hmem
  · exact hb e'
  · exact hi (List.mem_singleton.mp hmem)
theorem list_rl {it l : Addr} {items : Array Value} {Q : Value → Shared → Prop} (hh : A.handled = none) (hit : s.heap.IsRevIter it l ((items.size : Int) - 1)) (hl : s.heap.IsList l items) (hne : l ≠ it) (hn : items.size ≤ sizeLine)
    (hQ : ∀ h' tk acc c, (∀ b o, b ≠ it → s.heap.get? b = some o → h'.get? b = some o) → h'.get? s.heap.objs.size = some { cls := .type "list", dict := none, data := .seq acc c, slots := #[] } →
      ItemsOf (fun i v => items[items.size - 1 - i]? = some v) acc items.size → Q (.ref s.heap.objs.size) { s with heap := h', toks := tk }) :
    wpAny (model prog w) A (call (.type "list") [.ref it]) Q E s := by
  refine callType_codes (Q₁ := fun obj z => obj = .ref s.heap.objs.size ∧ z = { s with heap := s.heap.push { cls := .type "list", data := .seq #[] } }) F.called_list (F.typeCall_list_1 _) F.entry_list_init
    (code_list_new _ ⟨rfl, rfl⟩) fun obj z hz => ?_
  obtain ⟨rfl, rfl⟩ := hz
  have hS : (s.heap.push { cls := .type "list", data := .seq #[] }).get? s.heap.objs.size = some { cls := .type "list", data := .seq #[] } := Heap.get?_push_size _ rfl
  have ne : ∀ {b : Addr} {o : Obj}, s.heap.get? b = some o → s.heap.objs.size ≠ b := fun e => Nat.ne_of_gt (Heap.lt_size e)
  obtain ⟨oi, hoi, _⟩ := id hit
  obtain ⟨ol, hol, _⟩ := id hl
  refine ⟨⟨_, hS, rfl⟩, F.args_list_init_2 _ _, ?_⟩
  show wpAny _ _ (do let old ← Builtin.List.listItems (.ref s.heap.objs.size); Builtin.List.listUpdate (.ref s.heap.objs.size) (fun _ => #[]); letGo old.toList.reverse; Builtin.List.listExtendWith (.ref s.heap.objs.size) (.ref it) .none) _ _ _
  refine wpAny_bind ?_
  unfold Builtin.List.listItems
  refine wpAny_bind (wpAny_seqItems hS rfl (wpAny_pure ?_))
  show wpAny _ _ (updateSeq s.heap.objs.size (fun _ => #[]) >>= fun _ => letGo (#[] : Array Value).toList.reverse >>= fun _ => Builtin.List.listExtendWith (.ref s.heap.objs.size) (.ref it) .none) _ _ _
  refine wpAny_bind (wpAny_updateSeq hS rfl ?_)
  have hS₂ := Heap.get?_update_self (Obj.mapSeq (fun _ => (#[] : Array Value))) hS rfl
  have oth : ∀ b o, s.heap.get? b = some o → ((s.heap.push { cls := .type "list", data := .seq #[] }).update s.heap.objs.size (Obj.mapSeq (fun _ => (#[] : Array Value)))).get? b = some o :=
    fun b o e => (Heap.get?_update_other _ _ (Nat.ne_of_gt (Heap.lt_size e))).trans (Heap.get?_push_of_some _ e)
  refine wpAny_bind (wpAny_letGo ?_)
  have hl2 : ((s.heap.push { cls := .type "list", data := .seq #[] }).update s.heap.objs.size (Obj.mapSeq (fun _ => (#[] : Array Value)))).IsList l items := by
    obtain ⟨o, ho, r⟩ := hl
    exact ⟨o, oth l o ho, r⟩
  refine extend_rl (A := A.in1) hh (hit.at fun o e => oth it o e) hl2 hne hn hS₂ (ne hoi) (ne hol) fun h' tk acc' c' hk hS' hacc => ?_
  exact ⟨rfl, hQ h' tk acc' c' (fun b o hb e => hk b o (Nat.ne_of_lt (Heap.lt_size e)) hb (oth b o e)) hS' hacc⟩
end
/-- list(reversed(x)), x a list: a new list -/
def tLstRevL (K : PySem.W.Frag) (te : TE) : TE := fun σ H Q => te σ H fun v H1 => ∃ (a : Addr) (xs : List V), v = .ref a ∧ SqL K H1 a xs ∧ ∀ q, H1 q = none → Q (.ref q) (upd H1 q (.lst xs.reverse))
theorem pe_lstRevL {X : Cx} {e : Expr} {te : TE} {p p2 pos pos2 : Pos} (hc : X.calm = true) (hg : Gl X "list") (hm : X.mg "list" = none) (hg2 : Gl X "reversed") (hm2 : X.mg "reversed" = none) (he : PE X e te)
    (hs : starEach [e] X.env = (false, eval e X.env) :: starEach [] X.env := by rfl)
    (hs2 : starEach [.Call (.Name "reversed" p2) [e] [] pos2] X.env = (false, eval (.Call (.Name "reversed" p2) [e] [] pos2) X.env) :: starEach [] X.env := by rfl) :
    PE X (.Call (.Name "list" p) [.Call (.Name "reversed" p2) [e] [] pos2] [] pos) (tLstRevL X.K te) := by
  refine ⟨fun pins s σ H Q I h => ?_⟩
  refine Call_ (ld_blt I hg hm boot_list (PyProof.Rows.callWith_type1 (args_cons (Call_ (ld_blt I hg2 hm2 PyProof.Rows.boot_reversed (PyProof.Rows.callWith_type1 (args_cons (thn (he.run pins s σ H _ I h) fun u z hz => args_nil ?_) hs) hs rfl))) hs2) hs2 rfl))
  obtain ⟨v, H1, I1, r1, a, xs, rfl, hq, q⟩ := hz
  obtain rfl : u = Value.ref a := r1
  obtain ⟨its, rv, p', hz⟩ := I1.list hq
  have sz : its.toArray.size ≤ sizeLine := by rw [List.size_toArray, ← rv.length]; exact hz
  refine call_reversed_list p'.isList (args_nil ?_)
  have k0 : ∀ b o, z.heap.get? b = some o → (z.heap.push (revObj a ((its.toArray.size : Int) - 1))).get? b = some o := fun b o e => Heap.get?_push_of_some _ e
  have hl := p'.isList
  obtain ⟨ol, hol, _⟩ := id hl
  have hne : a ≠ z.heap.objs.size := Nat.ne_of_lt (Heap.lt_size hol)
  refine list_rl (s := { z with heap := z.heap.push (revObj a ((its.toArray.size : Int) - 1)) }) (I1.ok.hd hc) ⟨_, Heap.get?_push_size _ rfl, rfl, rfl⟩ (hl.push _) hne sz fun h' tk acc c hk hS hi => ?_
  have szp : (z.heap.push (revObj a ((its.toArray.size : Int) - 1))).objs.size = z.heap.objs.size + 1 := Heap.size_push ..
  have hf : H1 (z.heap.objs.size + 1) = none := I1.hok.fresh (Nat.le_succ _)
  have hS' : h'.get? (z.heap.objs.size + 1) = some { cls := .type "list", dict := none, data := .seq acc c, slots := #[] } := by rw [← szp]; exact hS
  have kz : ∀ b o, z.heap.get? b = some o → h'.get? b = some o := fun b o e => hk b o (Nat.ne_of_lt (Heap.lt_size e)) (k0 b o e)
  refine ⟨.ref (z.heap.objs.size + 1), upd H1 (z.heap.objs.size + 1) (.lst xs.reverse), ?_, ?_, q _ hf⟩
  · exact I1.laid (t' := tk) kz (Nat.le_succ _) (show ObjOk X.prog X.w _ _ _ (.lst xs.reverse) from ⟨by rw [List.length_reverse]; exact hz, acc.toList, c, vals_rev rv hi, by rw [Array.toArray_toList]; exact hS'⟩)
  · show Value.ref (z.heap.push (revObj a ((its.toArray.size : Int) - 1))).objs.size = Value.ref (z.heap.objs.size + 1)
    rw [szp]
/-- either of both -/
theorem pe_or2 {X : Cx} {e : Expr} {t u : TE} (h : PE X e t) (h' : PE X e u) : PE X e (fun σ H Q => t σ H Q ∨ u σ H Q) := ⟨fun pins s σ H Q I q => q.elim (h.run pins s σ H Q I) (h'.run pins s σ H Q I)⟩
end SoRv

set_option Elab.async false
set_option linter.all false
set_option maxRecDepth 100000
set_option maxHeartbeats 4000000
namespace K6
open PySem PySem.Spec PyProof.Rows L2 So
/-! ### a list or a tuple -/
def Sq (K : PySem.W.Frag) (H : Hp) (a : Addr) (xs : List V) : Prop := SqT K H a xs ∨ SqL K H a xs
theorem Sq.t {K : PySem.W.Frag} {H : Hp} {a : Addr} {xs : List V} (h : SqT K H a xs) : Sq K H a xs := .inl h
theorem Sq.mono {K : PySem.W.Frag} {P : Addr} {H H' : Hp} {a : Addr} {xs : List V} (t : GxR.TabG H P) (s : Sm P H H') (h : Sq K H a xs) : Sq K H' a xs := h.elim (fun h => .inl (s.tup t h)) (fun h => .inr (s.lst t h))
theorem tyL {K : PySem.W.Frag} {H : Hp} {p : Addr} {xs : List V} (h : H p = some (.lst xs)) : TyX K H (.ref p) (.type "list") := .base (.lst h)
section
variable {X : Cx} {tg l : Expr} {tl : TE}
theorem pi_or {wi wi' : TI} (h : PI X tg l wi) (h' : PI X tg l wi') : PI X tg l (fun σ H R => wi σ H R ∨ wi' σ H R) := ⟨fun pins s σ H R I q => q.elim (h.run pins s σ H R I) (h'.run pins s σ H R I)⟩
def iSq (K : PySem.W.Frag) (tl : TE) : TI := fun σ H R => iTup K tl σ H R ∨ iList K tl σ H R
theorem pi_sq (hl : PE X l tl) : PI X tg l (iSq X.K tl) := pi_or (pi_tup hl) (pi_list hl)
theorem ix_sq : IxR X (fun x y H Q => rIxT X.K x y H Q ∨ rIxL X.K x y H Q) := IxR.or ix_tup ix_list
end
def gSq (K : PySem.W.Frag) (n : Nat) (t : TGs) : TG := fun v σ H Q => ∃ a xs, v = .ref a ∧ Sq K H a xs ∧ xs.length = n ∧ t xs σ H Q
theorem pg_sq {X : Cx} {es : List Expr} {k : Nat} {t : TGs} {n : Nat} {pos : Pos} (hc : X.calm = true) (h : PGs X es t)
    (hn : (assignEach es X.env).length = n := by rfl) (hst : (assignEach es X.env).findIdx? (·.1) = none := by rfl) : PG X (.Tuple es k pos) (gSq X.K n t) := ⟨fun pins s σ H v u Q I r ⟨a, xs, e, q, l, z⟩ =>
  q.elim (fun q => (pg_tup hc h hn hst).run pins s σ H v u Q I r ⟨a, xs, e, q, l, z⟩) (fun q => (pg_unl hc h hn hst).run pins s σ H v u Q I r ⟨a, xs, e, q, l, z⟩)⟩
theorem at_sq {K : PySem.W.Frag} {H : Hp} {p : Addr} {xs : List V} {i : Int} {v : V} {Q : VK} (h : Sq K H p xs) (e : atI xs i = some v) (q : Q v H) : rIxT K (.ref p) (.int i) H Q ∨ rIxL K (.ref p) (.int i) H Q :=
  h.elim (fun h => .inl ⟨p, xs, i, v, rfl, rfl, h, e, q⟩) (fun h => .inr ⟨p, xs, i, v, rfl, rfl, h, e, q⟩)
/-- for x in a list or a tuple: the whole reading of the loop -/
theorem for_sq {K : PySem.W.Frag} {a : Addr} {xs : List V} {g : TG} {tb : TS} {D : Ends} {σ : L2.St} {H : Hp} {tl : TE} (h : Sq K H a xs) (ht : ∀ Q, Q (.ref a) H → tl σ H Q) (Pv : Nat → L2.St → Hp → Prop) (h0 : Pv 0 σ H)
    (hk : ∀ i σ' H', Pv i σ' H' → (SqT K H a xs → SqT K H' a xs) ∧ (SqL K H a xs → SqL K H' a xs))
    (hs : ∀ i x σ H, xs[i]? = some x → Pv i σ H → g x σ H fun σ2 H2 => tb { D with nx := Pv (i + 1), ct := Pv (i + 1), bk := D.nx } σ2 H2) (hd : ∀ σ H, Pv xs.length σ H → D.nx σ H) :
    tFor (iSq K tl) g tb D σ H := by
  rcases h with h | h
  · exact .inl (ht _ ⟨a, rfl, ⟨xs, h⟩, for_tup Pv h0 (fun i σ' H' _ p => (hk i σ' H' p).1 h) hs hd⟩)
  · exact .inr (ht _ ⟨a, rfl, ⟨xs, h⟩, for_list Pv h0 (fun i σ' H' _ p => (hk i σ' H' p).2 h) hs hd⟩)
/-- the same of a comprehension, walking the name in a slot -/
theorem lc_sq {K : PySem.W.Frag} {a : Addr} {xs : List V} {g : TG} {tt : TT} {te : TE} {vs : List Nat} {σ : L2.St} {H1 : Hp} {Q : VK} {tl : TE} (h : Sq K H1 a xs) (ht : ∀ Q, Q (.ref a) H1 → tl σ H1 Q) (Pv : Addr → Nat → Hp → Prop) (h0 : ∀ D, H1 D = none → Pv D 0 (upd H1 D (.lst [])))
    (hk : ∀ D, H1 D = none → ∀ i H', Pv D i H' → (SqT K H1 a xs → SqT K H' a xs) ∧ (SqL K H1 a xs → SqL K H' a xs))
    (hs : ∀ D, H1 D = none → ∀ i x H, xs[i]? = some x → Pv D i H → g x (wipe σ vs) H fun σ2 H2 => wipe σ2 vs = wipe σ vs ∧ tt σ2 H2 fun b H3 =>
      if b = true then te σ2 H3 fun y H4 => ∃ acc, H4 D = some (.lst acc) ∧ acc.length < sizeLine ∧ Pv D (i + 1) (upd H4 D (.lst (acc ++ [y]))) else Pv D (i + 1) H3) (hd : ∀ D, H1 D = none → ∀ H, Pv D xs.length H → Q (.ref D) H) :
    tLc (iSq K tl) g tt te vs σ H1 Q := by
  rcases h with h | h
  · exact .inl (ht _ ⟨a, rfl, ⟨xs, h⟩, fun D hD => lc_tup (Pv D) (h0 D hD) (fun i H' _ p => (hk D hD i H' p).1 h) (hs D hD) (hd D hD)⟩)
  · exact .inr (ht _ ⟨a, rfl, ⟨xs, h⟩, fun D hD => lc_list (Pv D) (h0 D hD) (fun i H' _ p => (hk D hD i H' p).2 h) (hs D hD) (hd D hD)⟩)
theorem sq_keep {K : PySem.W.Frag} {P : Addr} {H H' : Hp} {a : Addr} {xs : List V} (t : GxR.TabG H P) (s : Sm P H H') : (SqT K H a xs → SqT K H' a xs) ∧ (SqL K H a xs → SqL K H' a xs) := ⟨s.tup t, s.lst t⟩
theorem next_of {D : Ends} {σ : L2.St} {H : Hp} (h : D.nx σ H) : tNext D σ H := h
theorem ret_of {te : TE} {D : Ends} {σ : L2.St} {H : Hp} (h : te σ H D.rt) : tRet te D σ H := h
theorem then_of {ta : TE} {k : V → Hp → VK → Prop} {σ : L2.St} {H : Hp} {Q : VK} (h : ta σ H fun x H1 => k x H1 Q) : tThen ta k σ H Q := h
theorem cb1_of {r : List V → Hp → VK → Prop} {ta : TE} {σ : L2.St} {H : Hp} {Q : VK} (h : ta σ H fun x H1 => r [x] H1 Q) : tCB r (tCons ta tNil) σ H Q := h
theorem asg_of {te : TE} {g : TG} {D : Ends} {σ : L2.St} {H : Hp} (h : te σ H fun x H1 => g x σ H1 D.nx) : tAsg te g D σ H := h
theorem seq_of {t u : TS} {D : Ends} {σ : L2.St} {H : Hp} (h : t { D with nx := u D } σ H) : tSeq t u D σ H := h
theorem cons_of {ta : TE} {tr : TA} {σ : L2.St} {H : Hp} {Q : List V → Hp → Prop} (h : ta σ H fun x H1 => tr σ H1 fun xs H2 => Q (x :: xs) H2) : tCons ta tr σ H Q := h
end K6

set_option Elab.async false
set_option linter.all false
set_option maxRecDepth 100000
set_option maxHeartbeats 4000000
namespace K6
open PySem PySem.Spec PyProof.Rows L2 So
structure Ty (K : PySem.W.Frag) (mg : Str → Option Value) : Prop where
  T : Tx K mg
  any : mg "any" = none
  zip : mg "zip" = none
  repr : mg "repr" = none
  fmo : ∃ t, mg "FACTS_MOST" = some (.int 100 t)
  cmo : ∃ t, mg "COUNT_MOST" = some (.int 3 t)
  mmo : ∃ t, mg "MODULO_MOST" = some (.int 4 t)
theorem pe_weak {X : Cx} {e : Expr} {t t' : TE} (h : PE X e t) (i : ∀ σ H Q, t' σ H Q → t σ H Q) : PE X e t' := ⟨fun pins s σ H Q I q => h.run pins s σ H Q I (i σ H Q q)⟩
theorem pt_weak {X : Cx} {e : Expr} {t t' : TT} (h : PT X e t) (i : ∀ σ H Q, t' σ H Q → t σ H Q) : PT X e t' := ⟨fun pins s σ H Q I q => h.run pins s σ H Q I (i σ H Q q)⟩
theorem ps_weak {X : Cx} {e : Stmt} {t t' : TS} (h : PS X e t) (i : ∀ D σ H, t' D σ H → t D σ H) : PS X e t' := ⟨fun pins s σ H D I q => h.run pins s σ H D I (i D σ H q)⟩
theorem nPt {H' : Hp} {P a : Addr} (t : GxR.TabG H' P) (e : H' a = none) : a ≠ P := fun z => by
  obtain ⟨ps, q, _⟩ := t
  rw [z, q] at e
  cases e
theorem kitTrueL {K : PySem.W.Frag} : PySem.W.kitAny K (.type "list") [.type "list", .type "tuple"] = some true :=
  kitAny_cons (b := true) (kit_ty (by decide +kernel)) (fun q => nomatch q) (fun _ => rfl)
theorem tyLL {K : PySem.W.Frag} {H : Hp} {p : Addr} {xs : List V} (h : SqL K H p xs) : TyX K H (.ref p) (.type "list") := by
  rcases h with (h | ⟨o, h⟩) | ⟨o, its, n, h, c, _⟩
  · exact .base (.lst h)
  · exact .base (.frz h)
  · exact .kList h c
section
variable {Pg : Program} {w : World} {K : PySem.W.Frag} {mg : Str → Option Value} {base : Heap} {P : Addr}
/-! ### is_sequence, is_row_of, of a list or a tuple -/
def spSeq2 (K : PySem.W.Frag) (P : Addr) : Sp := Pu P fun vs H R => ∃ (p : Addr) (xs : List V), vs = [.ref p] ∧ Sq K H p xs ∧ R = fun v _ => v = .bl true
theorem ok_seq2 {f : Addr} {fd : FuncData} (F : Fun K "is_sequence" "is_sequence" sSeq f fd) (T : Tx K mg) : FnOk Pg w K mg base CX0 1 f fd ["value"] (spSeq2 K P) := by
  refine F.ok scSeq (fun vs H Q E h => ?_) (fun cdv A outer s H vs Q E hr h => ?_)
  · obtain ⟨_, _, ⟨p, xs, rfl, _⟩, _⟩ := h
    rfl
  · obtain ⟨t, _, ⟨p, xs, rfl, hx, rfl⟩, k⟩ := h
    refine ⟨_, pss_one (ps_ret (pe_callB call_isiT (by rfl) T.isi (by decide +kernel) (pa_cons (pv 0) (pa_cons (pe_tup (pa_cons (pe_bltn (v := .ty "list") (by rfl) T.list (by decide +kernel) rfl) (pa_cons (pe_bltn (v := .ty "tuple") (by rfl) T.tuple (by decide +kernel) rfl) pa_nil))) pa_nil)))), ?_⟩
    refine ⟨_, rfl, (by show 2 ≤ sizeLine; decide), fun q hq => ?_⟩
    have s1 : Sm P H (upd H q (.tup [.ty "list", .ty "tuple"])) := Sm.new t hq
    rcases hx with hx | hx
    · exact ⟨_, q, _, _, _, true, rfl, upd_same, .cons (.ty _) (.cons (.ty _) .nil), tyT (s1.tup t hx), kitTrue, k _ _ s1 rfl⟩
    · exact ⟨_, q, _, _, _, true, rfl, upd_same, .cons (.ty _) (.cons (.ty _) .nil), tyLL (s1.lst t hx), kitTrueL, k _ _ s1 rfl⟩
theorem len_sq {H : Hp} {p : Addr} {xs : List V} (h : Sq K H p xs) : SqL K H p xs ∨ SqT K H p xs := h.symm
def spRow2 (K : PySem.W.Frag) (P : Addr) : Sp := Pu P fun vs H R => ∃ (p : Addr) (xs : List V) (n : Int), vs = [.ref p, .int n] ∧ Sq K H p xs ∧ R = fun v _ => v = .bl (decide ((xs.length : Int) = n))
theorem ok_row2 {f fS : Addr} {fd fdS : FuncData} (F : Fun K "is_row_of" "is_row_of" sRow f fd) (T : Tx K mg) (S : Df K mg "is_sequence" sSeq ["value"] fS fdS) : FnOk Pg w K mg base CX0 2 f fd ["value", "many"] (spRow2 K P) := by
  have GS : FnOk Pg w K mg base CX0 1 fS fdS ["value"] (spSeq2 K P) := ok_seq2 S.F T
  refine F.ok scRow (fun vs H Q E h => ?_) (fun cdv A outer s H vs Q E hr h => ?_)
  · obtain ⟨_, _, ⟨p, xs, n, rfl, _⟩, _⟩ := h
    rfl
  · obtain ⟨t, _, ⟨p, xs, n, rfl, hx, rfl⟩, k⟩ := h
    refine ⟨_, pss_one (ps_ret (pe_and (pe_call GS hr (by rfl) S.g S.F.kp S.b .nil pass0 (pa_cons (pv 0) pa_nil)) (pe_one (pe_cmpR op_eq (pe_callB call_len_seq (by rfl) T.len (by decide +kernel) (pa_cons (pv 0) pa_nil)) (pv 1) (nomark _))))), ?_⟩
    refine ⟨_, rfl, t, _, ⟨p, xs, rfl, hx, rfl⟩, fun v H' s1 e => ⟨true, e, ?_⟩⟩
    refine iteT ⟨_, rfl, p, xs, rfl, len_sq (hx.mono t s1), _, rfl, rfl, ?_⟩
    refine k _ _ s1 ?_
    show V.bl (decide (V.int (xs.length : Int) = V.int n)) = V.bl (decide ((xs.length : Int) = n))
    by_cases e : (xs.length : Int) = n
    · rw [decide_eq_true e, decide_eq_true (congrArg V.int e)]
    · rw [decide_eq_false e, decide_eq_false (fun q => e (V.int.inj q))]
/-! ### is_number_below, is_state_count -/
abbrev sNub : Stmt := top 11
theorem scNub : FnScope ["value", "bound"] ["value", "bound"] (defScope sNub) := ⟨rfl, rfl, rfl, by decide +kernel, rfl, by decide +kernel, by decide +kernel⟩
def spNub (P : Addr) : Sp := Pu P fun vs H R => ∃ n b : Int, vs = [.int n, .int b] ∧ 0 ≤ n ∧ n < b ∧ R = fun v _ => v = .bl true
theorem ok_nub {f fN : Addr} {fd fdN : FuncData} (F : Fun K "is_number_below" "is_number_below" sNub f fd) (T : Tx K mg) (N : Df K mg "is_number" sNum ["value"] fN fdN) : FnOk Pg w K mg base CX0 2 f fd ["value", "bound"] (spNub P) := by
  have GN : FnOk Pg w K mg base CX0 1 fN fdN ["value"] (spNum P) := ok_num N.F T
  refine F.ok scNub (fun vs H Q E h => ?_) (fun cdv A outer s H vs Q E hr h => ?_)
  · obtain ⟨_, _, ⟨n, b, rfl, _⟩, _⟩ := h
    rfl
  · obtain ⟨t, _, ⟨n, b, rfl, h0, hb, rfl⟩, k⟩ := h
    refine ⟨_, pss_one (ps_ret (pe_and (pe_call GN hr (by rfl) N.g N.F.kp N.b .nil pass0 (pa_cons (pv 0) pa_nil)) (pe_one (pe_cmpR op_lt (pv 0) (pv 1) (nomark _))))), ?_⟩
    refine ⟨_, rfl, t, _, ⟨n, rfl, rfl⟩, fun v H1 s1 e => ⟨true, by rw [e, decide_eq_true (show n ≥ 0 from h0)], iteT ?_⟩⟩
    exact ⟨_, rfl, _, rfl, _, _, rfl, rfl, k _ _ s1 (by show V.bl (decide (n < b)) = V.bl true; rw [decide_eq_true hb])⟩
end
def ItS (S : Hp → Addr → List V → Prop) (H : Hp) (v : V) (ys : List V) : Prop := ∃ b, v = .ref b ∧ S H b ys
def RowsS (S : Hp → Addr → List V → Prop) (H : Hp) (v : V) (yss : List (List V)) : Prop := ∃ a xs, v = .ref a ∧ S H a xs ∧ Paired (ItS S H) xs yss
def Mo (S : Hp → Addr → List V → Prop) (P : Addr) : Prop := ∀ H H' a xs, GxR.TabG H P → Sm P H H' → S H a xs → S H' a xs
theorem mo_sq {K : PySem.W.Frag} {P : Addr} : Mo (Sq K) P := fun _ _ _ _ t s h => h.mono t s
theorem mo_tup {K : PySem.W.Frag} {P : Addr} : Mo (SqT K) P := fun _ _ _ _ t s h => s.tup t h
theorem ItS.mono {S : Hp → Addr → List V → Prop} {P : Addr} {H H' : Hp} {v : V} {ys : List V} (m : Mo S P) (t : GxR.TabG H P) (s : Sm P H H') (h : ItS S H v ys) : ItS S H' v ys := by
  obtain ⟨b, e, h⟩ := h
  exact ⟨b, e, m _ _ _ _ t s h⟩
theorem RowsS.mono {S : Hp → Addr → List V → Prop} {P : Addr} {H H' : Hp} {v : V} {yss : List (List V)} (m : Mo S P) (t : GxR.TabG H P) (s : Sm P H H') (h : RowsS S H v yss) : RowsS S H' v yss := by
  obtain ⟨a, xs, e, h, p⟩ := h
  exact ⟨a, xs, e, m _ _ _ _ t s h, paired_mono (fun _ _ h => h.mono m t s) p⟩
def iV (ns : List Nat) : List V := ns.map fun n => V.int (n : Nat)
def bV (bs : List Bool) : List V := bs.map V.bl
theorem iV_at {ns : List Nat} {i : Nat} {x : V} (h : (iV ns)[i]? = some x) : ∃ n, ns[i]? = some n ∧ x = .int (n : Nat) := by
  unfold iV at h
  rw [List.getElem?_map] at h
  cases e : ns[i]? with
  | none =>
    rw [e] at h
    cases h
  | some y =>
    rw [e] at h
    exact ⟨y, rfl, (Option.some.inj h).symm⟩
end K6

set_option Elab.async false
set_option linter.all false
set_option maxRecDepth 100000
set_option maxHeartbeats 4000000
namespace K6
open PySem PySem.Spec PyProof.Rows L2 So
def Wrs (K : PySem.W.Frag) (H0 H : Hp) : List (Addr × List V) → List (List Nd) → Prop := Paired fun f w => H f.1 = some (.lst f.2.reverse) ∧ DpAll K H0 f.2 (ndsD w)
theorem Wrs.mono {K : PySem.W.Frag} {H0 H H' : Hp} : ∀ {fr : List (Addr × List V)} {ws : List (List Nd)}, (∀ f ∈ fr, H' f.1 = H f.1) → Wrs K H0 H fr ws → Wrs K H0 H' fr ws
  | _, _, _, .nil => .nil
  | f :: _, _, h, .cons a b => .cons ⟨by rw [h f (List.mem_cons_self ..)]; exact a.1, a.2⟩ (Wrs.mono (fun x hx => h x (List.mem_cons_of_mem _ hx)) b)
/-- between two nodes: S the list of signs, W that of what waits -/
structure WInv (K : PySem.W.Frag) (P : Addr) (H0 H : Hp) (S W : Addr) (fr : List (Addr × List V)) (ws : List (List Nd)) (out whole : List Sg) (outs : List V) : Prop where
  sm : Sm P H0 H
  hS : H S = some (.lst outs)
  os : Paired (SgV K H) outs out
  hW : H W = some (.lst (refs fr))
  wr : Wrs K H0 H fr ws
  nd : (S :: W :: adr fr).Nodup
  nw : ∀ a ∈ S :: W :: adr fr, H0 a = none ∧ a ≠ P
  eq : out ++ rest ws = whole
  le : fr.length ≤ out.length + 1
theorem sgs_tp {K : PySem.W.Frag} {H H' : Hp} (s : Tp H H') {xs : List V} {gs : List Sg} (h : Paired (SgV K H) xs gs) : Paired (SgV K H') xs gs :=
  paired_mono (fun _ _ ⟨q, e, h⟩ => ⟨q, e, s.sq h⟩) h
theorem paired_append {α β : Type} {R : α → β → Prop} : ∀ {xs xs' : List α} {ys ys' : List β}, Paired R xs ys → Paired R xs' ys' → Paired R (xs ++ xs') (ys ++ ys')
  | [], _, _, _, .nil, h => h
  | _ :: _, _, _, _, .cons a b, h => .cons a (paired_append b h)
def tRevS (K : PySem.W.Frag) : TE := fun σ H Q => ∃ (a : Addr) (xs : List V), σ[0]? = some (some (.ref a)) ∧ Sq K H a xs ∧ ∀ q, H q = none → Q (.ref q) (upd H q (.lst xs.reverse))
theorem revS {K : PySem.W.Frag} : ∀ σ H Q, tRevS K σ H Q → SoRv.tLstRev K (tVar 0) σ H Q ∨ SoRv.tLstRevL K (tVar 0) σ H Q := by
  rintro σ H Q ⟨a, xs, e, h, k⟩
  exact h.elim (fun h => .inl ⟨_, e, a, xs, rfl, h, k⟩) (fun h => .inr ⟨_, e, a, xs, rfl, h, k⟩)
section
variable {Pg : Program} {w : World} {K : PySem.W.Frag} {mg : Str → Option Value} {base : Heap} {P : Addr}
abbrev sSig : Stmt := top 19
theorem scSig : FnScope ["document", "signs", "many", "waiting", "node"] ["document"] (defScope sSig) := ⟨rfl, rfl, rfl, by decide +kernel, rfl, by decide +kernel, by decide +kernel⟩
def spSig (K : PySem.W.Frag) (P : Addr) : Sp := Pu P fun vs H R => ∃ (a : Addr) (xs : List V) (ds : List Nd), vs = [.ref a] ∧ Sq K H a xs ∧ DpAll K H xs (ndsD ds) ∧ (sgs ds).all Sg.ok = true ∧ (sgs ds).length ≤ 1000 ∧ R = fun v H' => ∃ q ys, v = .ref q ∧ RowAt K H' q ys (sgs ds)
theorem ok_sig {f fS fX fE : Addr} {fd fdS fdX fdE : FuncData} (F : Fun K "signs_of" "signs_of" sSig f fd) (T : Tx K mg) (S : Df K mg "is_sequence" sSeq ["value"] fS fdS)
    (X : Df K mg "_is_text_node" sItn ["value"] fX fdX) (GX : FnOk Pg w K mg base CX0 3 fX fdX ["value"] (spItn K P))
    (L : Df K mg "_is_element_node" sIen' ["value"] fE fdE) (GL : FnOk Pg w K mg base CX0 3 fE fdE ["value"] (spIel K P)) : FnOk Pg w K mg base CX0 4 f fd ["document"] (spSig K P) := by
  have GS : FnOk Pg w K mg base CX0 1 fS fdS ["value"] (spSeq2 K P) := ok_seq2 S.F T
  refine F.ok scSig (fun vs H Q E h => ?_) (fun cdv A outer s H vs Q E hr h => ?_)
  · obtain ⟨_, _, ⟨_, _, _, rfl, _⟩, _⟩ := h
    rfl
  · obtain ⟨t, _, ⟨a, xs, ds, rfl, hx, hds, hok, hlen, rfl⟩, k⟩ := h
    have hr1 : Room 1 _ := hr.mono (by decide)
    refine ⟨_, pss_cons (ps_if (pt_not (pt_val (pe_call GS hr1 (by rfl) S.g S.F.kp S.b .nil pass0 (pa_cons (pv 0) pa_nil)))) pss_never pss_nil)
      (pss_cons (ps_set (i := 1) scSig.nd rfl (Or.inl rfl) (pe_lst pa_nil))
      (pss_cons (ps_set (i := 2) scSig.nd rfl (Or.inl rfl) pe_int)
      (pss_cons (ps_set (i := 3) scSig.nd rfl (Or.inl rfl) (pe_lst (pa_cons (pe_weak (t' := tRevS K) (SoRv.pe_or2 (SoRv.pe_lstRev rfl (by rfl) T.list (by rfl) T.reversed (pv 0)) (SoRv.pe_lstRevL rfl (by rfl) T.list (by rfl) T.reversed (pv 0))) revS) pa_nil)))
      (pss_one (ps_while PassesOwn.never (pt_val pe_bl)
        (pss_cons (ps_while PassesOwn.never (pt_cmpR op_eq (pe_callB call_len_seq (by rfl) T.len (by decide +kernel) (pa_cons (pe_ix ix_list (pv 3) (pe_un un_neg pe_int) (fun _ _ => rfl)) pa_nil)) pe_int (nomark _))
            (pss_cons (ps_expr (pe_bm0 PySem.F.plainAttrs_list PySem.F.slot_list_pop PySem.F.type_list_pop mt_pop (pv 3)))
            (pss_cons (ps_if (pt_cmpR op_eq (pe_callB call_len_seq (by rfl) T.len (by decide +kernel) (pa_cons (pv 3) pa_nil)) pe_int (nomark _)) (pss_one (ps_ret (pe_tupleOf (by rfl) T.tuple (pv 1)))) pss_nil)
            (pss_one (ps_expr (pe_bm PySem.F.plainAttrs_list PySem.F.slot_list_append PySem.F.type_list_append mt_append (pv 1) (pa_cons (pe_tup (pa_cons pe_str pa_nil)) pa_nil)))))))
        (pss_cons (ps_set (i := 4) scSig.nd rfl (Or.inl rfl) (pe_bm0 PySem.F.plainAttrs_list PySem.F.slot_list_pop PySem.F.type_list_pop mt_pop (pe_ix ix_list (pv 3) (pe_un un_neg pe_int) (fun _ _ => rfl))))
        (pss_cons (ps_if (pt_val (pe_call GX hr (by rfl) X.g X.F.kp X.b .nil pass0 (pa_cons (pv 4) pa_nil)))
            (pss_one (ps_expr (pe_bm PySem.F.plainAttrs_list PySem.F.slot_list_append PySem.F.type_list_append mt_append (pv 1) (pa_cons (pe_tup (pa_cons pe_str (pa_cons (pe_ix ix_tup (pv 4) pe_int (fun _ _ => rfl)) pa_nil))) pa_nil))))
            (pss_one (ps_if (pt_val (pe_call GL hr (by rfl) L.g L.F.kp L.b .nil pass0 (pa_cons (pv 4) pa_nil)))
              (pss_cons (ps_expr (pe_bm PySem.F.plainAttrs_list PySem.F.slot_list_append PySem.F.type_list_append mt_append (pv 1) (pa_cons (pe_tup (pa_cons pe_str (pa_cons (pe_ix ix_tup (pv 4) pe_int (fun _ _ => rfl)) pa_nil))) pa_nil)))
                (pss_one (ps_expr (pe_bm PySem.F.plainAttrs_list PySem.F.slot_list_append PySem.F.type_list_append mt_append (pv 3) (pa_cons (SoRv.pe_lstRev rfl (by rfl) T.list (by rfl) T.reversed (pe_ix ix_tup (pv 4) pe_int (fun _ _ => rfl))) pa_nil)))))
              pss_never)))
        (pss_one (ps_aug (i := 2) scSig.nd rfl (.inl rfl) pe_int ip_add)))))))))), ?_⟩
    have small : ∀ {n : Nat}, n ≤ 1002 → n < sizeLine := fun h => Nat.lt_of_le_of_lt h (by decide)
    refine ⟨_, rfl, t, _, ⟨a, xs, rfl, hx, rfl⟩, fun v H1 s1 e => ⟨true, e, iteF ?_⟩⟩
    refine ⟨Nat.zero_le _, fun S hS => ?_⟩
    have s2 : Sm P H (upd H1 S (.lst [])) := s1.trans (Sm.new s1.2 hS)
    refine ⟨a, xs, rfl, hx.mono t s2, fun A1 hA1 => ⟨(by show 1 ≤ sizeLine; decide), fun W hW => ?_⟩⟩
    have s3 := s2.trans (Sm.new (o := .lst xs.reverse) s2.2 hA1)
    have s4 := s3.trans (Sm.new (o := .lst [.ref A1]) s3.2 hW)
    have nP : ∀ {H' : Hp} {a : Addr}, GxR.TabG H' P → H' a = none → a ≠ P := fun t e z => by
      obtain ⟨ps, q, _⟩ := t
      rw [z, q] at e
      cases e
    have nSA : S ≠ A1 := ne_of_none upd_same hA1
    have nAW : A1 ≠ W := ne_of_none upd_same hW
    have nSW : S ≠ W := ne_of_none (o := .lst []) (by rw [upd_ne nSA, upd_same]) hW
    have start : WInv K P H (upd (upd (upd H1 S (.lst [])) A1 (.lst xs.reverse)) W (.lst [.ref A1])) S W [(A1, xs)] [ds] [] (sgs ds) [] := {
      sm := s4
      hS := by rw [upd_ne nSW, upd_ne nSA, upd_same]
      os := .nil
      hW := upd_same
      wr := .cons ⟨by rw [upd_ne nAW, upd_same], hds⟩ .nil
      nd := by simp [adr, nSW, nSA, nAW.symm]
      nw := fun b hb => by
        have : b = S ∨ b = W ∨ b = A1 := by simpa [adr] using hb
        rcases this with z | z | z
        · rw [z]; exact ⟨s1.free t hS, nP s1.2 hS⟩
        · rw [z]; exact ⟨s3.free t hW, nP s3.2 hW⟩
        · rw [z]; exact ⟨s2.free t hA1, nP s2.2 hA1⟩
      eq := rfl
      le := Nat.le_refl _ }
    refine ⟨fun m σ H' => ∃ (fr : List (Addr × List V)) (ws : List (List Nd)) (out : List Sg) (outs : List V) (mn : Int) (v4 : Option V), σ = [some (.ref a), some (.ref S), some (.int mn), some (.ref W), v4] ∧ WInv K P H H' S W fr ws out (sgs ds) outs ∧ ws ≠ [] ∧ m = cntW ws,
      ⟨_, [(A1, xs)], [ds], [], [], 0, none, rfl, start, by simp, rfl⟩, ?_⟩
    rintro m σ H' ⟨fr, ws, out, outs, mn, v4, rfl, N, hne, rfl⟩
    refine ⟨true, rfl, iteT ?_⟩
    refine ⟨fun σ' H'' => ∃ (fr' : List (Addr × List V)) (ws' : List (List Nd)) (out' : List Sg) (outs' : List V) (mn : Int) (v4 : Option V), σ' = [some (.ref a), some (.ref S), some (.int mn), some (.ref W), v4] ∧ WInv K P H H'' S W fr' ws' out' (sgs ds) outs' ∧ ws' ≠ [] ∧ cntW ws' < cntW ws,
      fun σ' H'' ⟨fr', ws', out', outs', mn, v4, e1, N', h1, h2⟩ => ⟨cntW ws', h2, fr', ws', out', outs', mn, v4, e1, N', h1, rfl⟩, ?_⟩
    -- the inner while
    refine ⟨fun m σ H' => ∃ (fr' : List (Addr × List V)) (ws' : List (List Nd)) (out' : List Sg) (outs' : List V) (v4 : Option V), σ = [some (.ref a), some (.ref S), some (.int mn), some (.ref W), v4] ∧ WInv K P H H' S W fr' ws' out' (sgs ds) outs' ∧ ws' ≠ [] ∧ cntW ws' = cntW ws ∧ m = ws'.length,
      ⟨_, fr, ws, out, outs, v4, rfl, N, hne, rfl, rfl⟩, ?_⟩
    clear N hne
    rintro m σ H' ⟨fr, ws', out, outs, v4, rfl, N, hne, hcnt, rfl⟩
    have hwr := N.wr
    have hl : out.length ≤ 1000 := by
      have e := congrArg List.length N.eq
      rw [List.length_append] at e
      omega
    have lo : outs.length = out.length := Paired.length N.os
    obtain ⟨ndS, nd1⟩ := List.nodup_cons.mp N.nd
    obtain ⟨ndW, nda⟩ := List.nodup_cons.mp nd1
    have neSW : S ≠ W := fun z => ndS (by rw [z]; exact List.mem_cons_self ..)
    cases hwr with
    | nil => exact absurd rfl hne
    | @cons f w fr' ws'' hf hfr =>
      obtain ⟨f1, f2⟩ := hf
      obtain ⟨ndf, ndfr⟩ := List.nodup_cons.mp nda
      have nfS : f.1 ≠ S := fun z => ndS (by rw [← z]; exact List.mem_cons_of_mem _ (List.mem_cons_self ..))
      have nfW : f.1 ≠ W := fun z => ndW (by rw [← z]; exact List.mem_cons_self ..)
      have wS := N.nw S (by simp)
      have wW := N.nw W (by simp)
      have wf := N.nw f.1 (by simp [adr])
      have hlast : atI (refs (f :: fr')) (-1) = some (V.ref f.1) := by rw [refs_cons]; exact atI_last _ _
      have hW' : H' W = some (.lst (refs fr' ++ [V.ref f.1])) := by
        rw [← refs_cons]
        exact N.hW
      refine ⟨_, rfl, _, rfl, W, _, _, _, rfl, rfl, SqL.of N.hW, hlast, f.1, _, rfl, .inl (SqL.of f1), rfl, _, rfl, ?_⟩
      have sub2 : ∀ x ∈ fr', x.1 ∈ adr (f :: fr') := fun x hx => List.mem_cons_of_mem _ (List.mem_map_of_mem hx)
      have xS : ∀ x ∈ fr', x.1 ≠ S := fun x hx z => ndS (by rw [← z]; exact List.mem_cons_of_mem _ (sub2 x hx))
      have xW : ∀ x ∈ fr', x.1 ≠ W := fun x hx z => ndW (by rw [← z]; exact sub2 x hx)
      have ndf' : f.1 ∉ adr fr' := ndf
      have xf : ∀ x ∈ fr', x.1 ≠ f.1 := fun x hx z => ndf' (by rw [← z]; exact List.mem_map_of_mem hx)
      have xat : ∀ x ∈ fr', ∃ u, H' x.1 = some (.lst u) := fun x hx => by
        obtain ⟨j, hj⟩ := List.mem_iff_getElem?.mp hx
        obtain ⟨_, _, q1, _⟩ := paired_get hfr hj
        exact ⟨_, q1⟩
      cases w with
      | nil =>
        have e0 : f.2 = [] := by
          rw [ndsD] at f2
          exact all_nil' f2
        rw [e0]
        refine iteT ?_
        refine ⟨fun σ' H'' => ∃ (fr2 : List (Addr × List V)) (ws2 : List (List Nd)) (out2 : List Sg) (outs2 : List V) (v4 : Option V), σ' = [some (.ref a), some (.ref S), some (.int mn), some (.ref W), v4] ∧ WInv K P H H'' S W fr2 ws2 out2 (sgs ds) outs2 ∧ ws2 ≠ [] ∧ cntW ws2 = cntW ws ∧ ws2.length < ([] :: ws'').length,
          fun σ' H'' ⟨fr2, ws2, out2, outs2, v4, e1, N', h1, h2, h3⟩ => ⟨ws2.length, h3, fr2, ws2, out2, outs2, v4, e1, N', h1, h2, rfl⟩, ?_⟩
        refine ⟨_, rfl, .inl ⟨rfl, _, SqL.of hW'⟩, W, _, _, rfl, rfl, hW', pop_last _ _, ?_⟩
        rw [List.dropLast_concat]
        have hW2 : upd H' W (.lst (refs fr')) W = some (.lst (refs fr')) := upd_same
        have hS2 : upd H' W (.lst (refs fr')) S = some (.lst outs) := by
          rw [upd_ne neSW]
          exact N.hS
        have t2 : Tp H' (upd H' W (.lst (refs fr'))) := Tp.lst hW'
        have m2 : Sm P H (upd H' W (.lst (refs fr'))) := N.sm.mut wW.1 wW.2
        refine ⟨_, rfl, W, _, rfl, .inl (SqL.of hW2), rfl, _, rfl, ?_⟩
        cases hfr with
        | nil =>
          refine iteT ⟨_, rfl, .inl ⟨S, outs, rfl, SqL.of hS2, fun q hq => ?_⟩⟩
          have eo : out = sgs ds := by
            have := N.eq
            simp [rest, sgs] at this
            exact this
          refine k _ _ (m2.trans (Sm.new m2.2 hq)) ⟨q, outs, rfl, .inl (.inl upd_same), ?_, hok, by omega⟩
          rw [← eo]
          exact sgs_tp (t2.trans (Tp.new hq)) N.os
        | @cons f' w' fr'' ws3 hf' hfr' =>
          rw [show (decide (V.int (((refs (f' :: fr'')).length : Nat) : Int) = V.int 0)) = false from decide_eq_false (fun z => by
            have z' := V.int.inj z
            rw [refs_len, List.length_cons] at z'
            omega)]
          refine iteF ⟨_, rfl, .inl ⟨rfl, _, SqL.of hS2⟩, (by show 1 ≤ sizeLine; decide), fun T1 hT1 => ?_⟩
          have nS1 : S ≠ T1 := ne_of_none hS2 hT1
          have nW1 : W ≠ T1 := ne_of_none hW2 hT1
          have hS3 : upd (upd H' W (.lst (refs (f' :: fr'')))) T1 (.tup [.str "close"]) S = some (.lst outs) := by
            rw [upd_ne nS1]
            exact hS2
          refine ⟨S, _, _, rfl, rfl, hS3, small (by omega), ?_⟩
          have t3 := t2.trans (Tp.new (o := .tup [.str "close"]) hT1)
          have t4 := t3.trans (Tp.lst (o := .lst (outs ++ [V.ref T1])) hS3)
          have m3 := m2.trans (Sm.new (o := .tup [.str "close"]) m2.2 hT1)
          have m4 : Sm P H (upd (upd (upd H' W (.lst (refs (f' :: fr'')))) T1 (.tup [.str "close"])) S (.lst (outs ++ [V.ref T1]))) := m3.mut wS.1 wS.2
          refine ⟨f' :: fr'', w' :: ws3, out ++ [.cl], outs ++ [V.ref T1], _, rfl, ⟨m4, upd_same, ?_, ?_, Wrs.mono (fun x hx => ?_) (.cons hf' hfr'), ?_, ?_, ?_, ?_⟩, by simp, by rw [← hcnt]; simp [cntW, cntS], by simp⟩
          · refine paired_append (sgs_tp t4 N.os) (.cons ⟨T1, rfl, .inl (.inl ?_)⟩ .nil)
            rw [upd_ne nS1.symm, upd_same]
            rfl
          · rw [upd_ne neSW.symm, upd_ne nW1, upd_same]
          · obtain ⟨u, hu⟩ := xat x hx
            have x1 : x.1 ≠ T1 := ne_of_none (o := .lst u) (by rw [upd_ne (xW x hx)]; exact hu) hT1
            rw [upd_ne (xS x hx), upd_ne x1, upd_ne (xW x hx)]
          · refine List.nodup_cons.mpr ⟨fun z => ?_, List.nodup_cons.mpr ⟨fun z => ?_, ndfr⟩⟩
            · rcases List.mem_cons.mp z with z | z
              · exact neSW z
              · exact ndS (List.mem_cons_of_mem _ (List.mem_cons_of_mem _ z))
            · exact ndW (List.mem_cons_of_mem _ z)
          · intro b hb
            refine N.nw b ?_
            rcases List.mem_cons.mp hb with z | z
            · rw [z]; exact List.mem_cons_self ..
            · rcases List.mem_cons.mp z with z | z
              · rw [z]; exact List.mem_cons_of_mem _ (List.mem_cons_self ..)
              · exact List.mem_cons_of_mem _ (List.mem_cons_of_mem _ (List.mem_cons_of_mem _ z))
          · have := N.eq
            rw [rest_nil] at this
            rw [List.append_assoc]
            exact this
          · have := N.le
            rw [List.length_append, List.length_singleton]
            simp at this ⊢
            omega
      | cons d w' =>
        rw [ndsD] at f2
        obtain ⟨v, vs, ef, d1, d2⟩ := all_cons' f2
        rw [show (decide (V.int ((f.2.reverse.length : Nat) : Int) = V.int 0)) = false from decide_eq_false (fun z => by
          have z' := V.int.inj z
          rw [ef, List.length_reverse, List.length_cons] at z'
          omega)]
        refine iteF ?_
        have f1' : H' f.1 = some (.lst (vs.reverse ++ [v])) := by
          rw [f1, ef, List.reverse_cons]
        refine ⟨_, rfl, _, rfl, W, _, _, _, rfl, rfl, SqL.of N.hW, hlast, .inl ⟨rfl, _, SqL.of f1'⟩, f.1, _, _, rfl, rfl, f1', pop_last _ _, ?_⟩
        rw [List.dropLast_concat]
        have t1 : Tp H' (upd H' f.1 (.lst vs.reverse)) := Tp.lst f1'
        have m1 : Sm P H (upd H' f.1 (.lst vs.reverse)) := N.sm.mut wf.1 wf.2
        have hS1 : upd H' f.1 (.lst vs.reverse) S = some (.lst outs) := by
          rw [upd_ne nfS.symm]
          exact N.hS
        have hW1 : upd H' f.1 (.lst vs.reverse) W = some (.lst (refs (f :: fr'))) := by
          rw [upd_ne nfW.symm]
          exact N.hW
        have hf1 : upd H' f.1 (.lst vs.reverse) f.1 = some (.lst vs.reverse) := upd_same
        have hfr1 : Wrs K H (upd H' f.1 (.lst vs.reverse)) fr' ws'' := Wrs.mono (fun x hx => upd_ne (xf x hx)) hfr
        have os1 := sgs_tp t1 N.os
        generalize upd H' f.1 (.lst vs.reverse) = G1 at m1 hS1 hW1 hf1 hfr1 os1
        have restE : rest ((d :: w') :: ws'') = sgN d ++ rest (w' :: ws'') := by cases ws'' <;> simp [rest, sgs]
        have okd : (sgN d).all Sg.ok = true := by
          have e := N.eq
          rw [restE] at e
          rw [← e, List.all_append, List.all_append, Bool.and_eq_true, Bool.and_eq_true] at hok
          exact hok.2.1
        have toR : refs (f :: fr') = refs ((f.1, vs) :: fr') := by rw [refs_cons, refs_cons]
        refine ⟨_, rfl, m1.2, _, ⟨v, d, rfl, nd_tp (Tp.sm t m1) _ _ d1, okd, rfl⟩, fun b G2 s2 e => ⟨isTx d, e, ?_⟩⟩
        have m2 := m1.trans s2
        have hS2 := s2.atL m1.2 hS1
        have hW2 := s2.atL m1.2 hW1
        have hf2 := s2.atL m1.2 hf1
        have hfr2 : Wrs K H G2 fr' ws'' := by
          refine paired_mono (fun x y q => ⟨s2.atL m1.2 q.1, q.2⟩) hfr1
        have os2 := sgs_tp (Tp.sm m1.2 s2) os1
        clear hS1 hW1 hf1 hfr1 os1 m1 t1
        have at2 : ∀ x ∈ fr', ∃ u, G2 x.1 = some (.lst u) := fun x hx => by
          obtain ⟨j, hj⟩ := List.mem_iff_getElem?.mp hx
          obtain ⟨_, _, q1, _⟩ := paired_get hfr2 hj
          exact ⟨_, q1⟩
        have nodup' : (S :: W :: adr ((f.1, vs) :: fr')).Nodup := N.nd
        have news' : ∀ b ∈ S :: W :: adr ((f.1, vs) :: fr'), H b = none ∧ b ≠ P := N.nw
        cases d with
        | tx z =>
          obtain ⟨q, rfl, hq0⟩ := nd_tx d1
          refine iteT ⟨_, rfl, .inl ⟨rfl, _, SqL.of hS2⟩, _, rfl, q, _, _, _, rfl, rfl, m2.tup t hq0, atI_nat (j := 1) rfl, (by show 2 ≤ sizeLine; decide), fun T1 hT1 => ?_⟩
          have nS1 : S ≠ T1 := ne_of_none hS2 hT1
          have nW1 : W ≠ T1 := ne_of_none hW2 hT1
          have nf1 : f.1 ≠ T1 := ne_of_none hf2 hT1
          have hS3 : upd G2 T1 (.tup [.str "text", .str z]) S = some (.lst outs) := by
            rw [upd_ne nS1]
            exact hS2
          refine ⟨S, _, _, rfl, rfl, hS3, small (by omega), ?_⟩
          have t4 := (Tp.new (o := .tup [.str "text", .str z]) hT1).trans (Tp.lst (o := .lst (outs ++ [V.ref T1])) hS3)
          have m3 := m2.trans (Sm.new (o := .tup [.str "text", .str z]) m2.2 hT1)
          have m4 : Sm P H (upd (upd G2 T1 (.tup [.str "text", .str z])) S (.lst (outs ++ [V.ref T1]))) := m3.mut wS.1 wS.2
          refine ⟨_, rfl, _, _, rfl, rfl, ?_⟩
          refine ⟨(f.1, vs) :: fr', w' :: ws'', out ++ [.tx z], outs ++ [V.ref T1], _, _, rfl, ⟨m4, upd_same, ?_, ?_, .cons ⟨?_, d2⟩ (Wrs.mono (fun x hx => ?_) hfr2), nodup', news', ?_, ?_⟩, by simp, by rw [← hcnt]; exact cnt_tx⟩
          · refine paired_append (sgs_tp t4 os2) (.cons ⟨T1, rfl, .inl (.inl ?_)⟩ .nil)
            rw [upd_ne nS1.symm, upd_same]
            rfl
          · rw [upd_ne neSW.symm, upd_ne nW1, hW2, toR]
          · rw [upd_ne nfS, upd_ne nf1]
            exact hf2
          · obtain ⟨u, hu⟩ := at2 x hx
            rw [upd_ne (xS x hx), upd_ne (ne_of_none hu hT1)]
          · have := N.eq
            rw [rest_tx] at this
            rw [List.append_assoc]
            exact this
          · have := N.le
            rw [List.length_append, List.length_singleton]
            simp at this ⊢
            omega
        | el l ds' =>
          obtain ⟨q, b2, ys, rfl, hq0, hb0, hys⟩ := nd_el d1
          have okl : Sg.ok (.op l) = true := by
            have e : (sgN (.el l ds')).all Sg.ok = true := okd
            rw [sgN, List.all_cons, Bool.and_eq_true] at e
            exact e.1
          refine iteF ⟨_, rfl, m2.2, _, ⟨_, l, ds', rfl, nd_tp (Tp.sm t m2) _ _ d1, okl, rfl⟩, fun b G3 s3 e => ⟨true, e, iteT ?_⟩⟩
          have m3 := m2.trans s3
          have hS3 := s3.atL m2.2 hS2
          have hW3 := s3.atL m2.2 hW2
          have hf3 := s3.atL m2.2 hf2
          have hfr3 : Wrs K H G3 fr' ws'' := paired_mono (fun x y q => ⟨s3.atL m2.2 q.1, q.2⟩) hfr2
          have os3 := sgs_tp (Tp.sm m2.2 s3) os2
          have at3 : ∀ x ∈ fr', ∃ u, G3 x.1 = some (.lst u) := fun x hx => by
            obtain ⟨j, hj⟩ := List.mem_iff_getElem?.mp hx
            obtain ⟨_, _, q1, _⟩ := paired_get hfr3 hj
            exact ⟨_, q1⟩
          refine ⟨_, rfl, .inl ⟨rfl, _, SqL.of hS3⟩, _, rfl, q, _, _, _, rfl, rfl, m3.tup t hq0, atI_nat (j := 1) rfl, (by show 2 ≤ sizeLine; decide), fun T1 hT1 => ?_⟩
          have nS1 : S ≠ T1 := ne_of_none hS3 hT1
          have nW1 : W ≠ T1 := ne_of_none hW3 hT1
          have nf1 : f.1 ≠ T1 := ne_of_none hf3 hT1
          have hS4 : upd G3 T1 (.tup [.str "open", .str l]) S = some (.lst outs) := by
            rw [upd_ne nS1]
            exact hS3
          refine ⟨S, _, _, rfl, rfl, hS4, small (by omega), ?_⟩
          have t4 := (Tp.new (o := .tup [.str "open", .str l]) hT1).trans (Tp.lst (o := .lst (outs ++ [V.ref T1])) hS4)
          have m4 := m3.trans (Sm.new (o := .tup [.str "open", .str l]) m3.2 hT1)
          have m5 : Sm P H (upd (upd G3 T1 (.tup [.str "open", .str l])) S (.lst (outs ++ [V.ref T1]))) := m4.mut wS.1 wS.2
          have hS5 : upd (upd G3 T1 (.tup [.str "open", .str l])) S (.lst (outs ++ [V.ref T1])) S = some (.lst (outs ++ [V.ref T1])) := upd_same
          have hW5 : upd (upd G3 T1 (.tup [.str "open", .str l])) S (.lst (outs ++ [V.ref T1])) W = some (.lst (refs (f :: fr'))) := by
            rw [upd_ne neSW.symm, upd_ne nW1]
            exact hW3
          have hf5 : upd (upd G3 T1 (.tup [.str "open", .str l])) S (.lst (outs ++ [V.ref T1])) f.1 = some (.lst vs.reverse) := by
            rw [upd_ne nfS, upd_ne nf1]
            exact hf3
          have hfr5 : Wrs K H (upd (upd G3 T1 (.tup [.str "open", .str l])) S (.lst (outs ++ [V.ref T1]))) fr' ws'' := Wrs.mono (fun x hx => by
            obtain ⟨u, hu⟩ := at3 x hx
            rw [upd_ne (xS x hx), upd_ne (ne_of_none hu hT1)]) hfr3
          have os5 : Paired (SgV K (upd (upd G3 T1 (.tup [.str "open", .str l])) S (.lst (outs ++ [V.ref T1])))) (outs ++ [V.ref T1]) (out ++ [.op l]) := by
            refine paired_append (sgs_tp t4 os3) (.cons ⟨T1, rfl, .inl (.inl ?_)⟩ .nil)
            rw [upd_ne nS1.symm, upd_same]
            rfl
          generalize upd (upd G3 T1 (.tup [.str "open", .str l])) S (.lst (outs ++ [V.ref T1])) = G5 at m5 hS5 hW5 hf5 hfr5 os5
          have at5 : ∀ x ∈ fr', ∃ u, G5 x.1 = some (.lst u) := fun x hx => by
            obtain ⟨j, hj⟩ := List.mem_iff_getElem?.mp hx
            obtain ⟨_, _, q1, _⟩ := paired_get hfr5 hj
            exact ⟨_, q1⟩
          refine ⟨_, rfl, .inl ⟨rfl, _, SqL.of hW5⟩, _, rfl, q, _, _, _, rfl, rfl, m5.tup t hq0, atI_nat (j := 2) rfl, b2, ys, rfl, m5.tup t hb0, fun A2 hA2 => ?_⟩
          have nS2 : S ≠ A2 := ne_of_none hS5 hA2
          have nW2 : W ≠ A2 := ne_of_none hW5 hA2
          have nf2 : f.1 ≠ A2 := ne_of_none hf5 hA2
          have hW6 : upd G5 A2 (.lst ys.reverse) W = some (.lst (refs (f :: fr'))) := by
            rw [upd_ne nW2]
            exact hW5
          refine ⟨W, _, _, rfl, rfl, hW6, ?_, ?_⟩
          · rw [refs_len]
            have := N.le
            exact small (by omega)
          have t6 := (Tp.new (o := .lst ys.reverse) hA2).trans (Tp.lst (o := .lst (refs (f :: fr') ++ [V.ref A2])) hW6)
          have m6 := m5.trans (Sm.new (o := .lst ys.reverse) m5.2 hA2)
          have m7 : Sm P H (upd (upd G5 A2 (.lst ys.reverse)) W (.lst (refs (f :: fr') ++ [V.ref A2]))) := m6.mut wW.1 wW.2
          refine ⟨_, rfl, _, _, rfl, rfl, ?_⟩
          have x2 : ∀ x ∈ fr', x.1 ≠ A2 := fun x hx => by
            obtain ⟨u, hu⟩ := at5 x hx
            exact ne_of_none hu hA2
          refine ⟨(A2, ys) :: (f.1, vs) :: fr', ds' :: w' :: ws'', out ++ [.op l], outs ++ [V.ref T1], _, _, rfl, ⟨m7, ?_, sgs_tp t6 os5, ?_, .cons ⟨?_, hys⟩ (.cons ⟨?_, d2⟩ (Wrs.mono (fun x hx => ?_) hfr5)), ?_, ?_, ?_, ?_⟩, by simp, by rw [← hcnt]; exact cnt_el⟩
          · rw [upd_ne neSW, upd_ne nS2]
            exact hS5
          · rw [upd_same, refs_cons (A2, ys), ← toR]
          · rw [upd_ne nW2.symm, upd_same]
          · rw [upd_ne nfW, upd_ne nf2]
            exact hf5
          · rw [upd_ne (xW x hx), upd_ne (x2 x hx)]
          · have hA : A2 ∉ adr ((f.1, vs) :: fr') := fun z => by
              rcases List.mem_cons.mp z with z | z
              · exact nf2 z.symm
              · obtain ⟨x, hx, e⟩ := List.mem_map.mp z
                exact x2 x hx e
            refine List.nodup_cons.mpr ⟨fun z => ?_, List.nodup_cons.mpr ⟨fun z => ?_, List.nodup_cons.mpr ⟨hA, nda⟩⟩⟩
            · rcases List.mem_cons.mp z with z | z
              · exact neSW z
              · rcases List.mem_cons.mp z with z | z
                · exact nS2 z
                · exact ndS (List.mem_cons_of_mem _ z)
            · rcases List.mem_cons.mp z with z | z
              · exact nW2 z
              · exact ndW z
          · intro b hb
            rcases List.mem_cons.mp hb with z | z
            · rw [z]; exact wS
            · rcases List.mem_cons.mp z with z | z
              · rw [z]; exact wW
              · rcases List.mem_cons.mp z with z | z
                · rw [z]; exact ⟨m5.free t hA2, nP m5.2 hA2⟩
                · exact news' b (List.mem_cons_of_mem _ (List.mem_cons_of_mem _ z))
          · have := N.eq
            rw [rest_el] at this
            rw [List.append_assoc]
            exact this
          · have := N.le
            rw [List.length_append, List.length_singleton]
            simp at this ⊢
            omega
end
end K6

set_option Elab.async false
set_option linter.all false
set_option maxRecDepth 100000
set_option maxHeartbeats 4000000
namespace K6
open PySem PySem.Spec PyProof.Rows L2 So
/-- where draws come from -/
def Box (H : Hp) (b : Addr) : Prop := ∃ g s : Int, H b = some (.lst [.int g, .int s]) ∧ 0 ≤ g ∧ 0 ≤ s ∧ s ≤ 2147483587
section
variable {Pg : Program} {w : World} {K : PySem.W.Frag} {mg : Str → Option Value} {base : Heap} {P : Addr}
/-! ### _law_box -/
abbrev sBox : Stmt := top 39
theorem scBox : FnScope ["script", "k", "cell", "great"] ["script", "k"] (defScope sBox) := ⟨rfl, rfl, rfl, by decide +kernel, rfl, by decide +kernel, by decide +kernel⟩
def spBox (K : PySem.W.Frag) (P : Addr) : Sp := fun vs H Q _ => GxR.TabG H P ∧ ∃ (a : Addr) (ns : List Int) (k : Nat), vs = [.ref a, .int (k : Int)] ∧ SqL K H a (ns.map V.int) ∧ ns.length ≤ 63 ∧ k ≤ 1000 ∧
  ∀ b H', Sm P H H' → H b = none → b ≠ P → Box H' b → Q (.ref b) H'
theorem item_int {ns : List Int} {j : Nat} (h : j < ns.length) : ∃ n, (ns.map V.int)[j]? = some (V.int n) := ⟨ns[j], by rw [List.getElem?_map, List.getElem?_eq_getElem h]; rfl⟩
theorem ok_box {f : Addr} {fd : FuncData} (F : Fun K "_law_box" "_law_box" sBox f fd) (T : Tx K mg) : FnOk Pg w K mg base CX0 1 f fd ["script", "k"] (spBox K P) := by
  refine F.ok scBox (fun vs H Q E h => ?_) (fun cdv A outer s H vs Q E hr h => ?_)
  · obtain ⟨_, _, _, _, rfl, _⟩ := h
    rfl
  · obtain ⟨t, a, ns, k, rfl, hS, hlen, hk, kont⟩ := h
    refine ⟨_, pss_cons (ps_set (i := 2) scBox.nd rfl (Or.inl rfl) (pe_op op_add (pe_op op_mul pe_int (pv 1)) pe_int))
      (pss_cons (ps_if (pt_cmpR op_lt (pv 1) (pe_callB call_len_seq (by rfl) T.len (by decide +kernel) (pa_cons (pv 0) pa_nil)) (nomark _))
        (pss_one (ps_set (i := 2) scBox.nd rfl (Or.inl rfl) (pe_callB call_abs (by rfl) T.abs (by decide +kernel) (pa_cons (pe_callTy call_int1 (by rfl) T.int (by decide +kernel) (pa_cons (pe_ix ix_list (pv 0) (pv 1) (fun _ _ => rfl)) pa_nil)) pa_nil))))
        (pss_one (ps_if (pt_cmpR op_gt (pe_callB call_len_seq (by rfl) T.len (by decide +kernel) (pa_cons (pv 0) pa_nil)) pe_int (nomark _))
          (pss_one (ps_set (i := 2) scBox.nd rfl (Or.inl rfl) (pe_op op_add (pv 2) (pe_op op_mul (pe_op op_mod (pe_callTy call_int1 (by rfl) T.int (by decide +kernel) (pa_cons (pe_callB call_abs (by rfl) T.abs (by decide +kernel) (pa_cons (pe_callTy call_int1 (by rfl) T.int (by decide +kernel)
              (pa_cons (pe_ix ix_list (pv 0) (pe_op op_mod (pe_callTy call_int1 (by rfl) T.int (by decide +kernel) (pa_cons (pv 1) pa_nil)) (pe_callB call_len_seq (by rfl) T.len (by decide +kernel) (pa_cons (pv 0) pa_nil))) (fun _ _ => rfl)) pa_nil)) pa_nil)) pa_nil)) pe_int) pe_int))))
          pss_nil)))
      (pss_cons (ps_set (i := 3) scBox.nd rfl (Or.inl rfl) (pe_ifExp (pt_cmpR op_ge (pv 2) (pe_op op_pow pe_int pe_int) (nomark _)) (pv 2) pe_int))
      (pss_one (ps_ret (pe_lst (pa_cons (pv 3) (pa_cons (pe_op op_add (pe_op op_mod (pe_callTy call_int1 (by rfl) T.int (by decide +kernel) (pa_cons (pe_op op_add (pe_op op_mul (pe_op op_mod (pe_callTy call_int1 (by rfl) T.int (by decide +kernel) (pa_cons (pv 2) pa_nil)) pe_int) pe_int) (pe_op op_mul pe_int (pv 1))) pa_nil)) pe_int) pe_int) pa_nil))))))), ?_⟩
    have nP : ∀ {b : Addr}, H b = none → b ≠ P := fun e z => by
      obtain ⟨ps, q, _⟩ := t
      rw [z, q] at e
      cases e
    refine ⟨_, rfl, _, _, rfl, rfl, .inl ⟨(by show -(2 ^ 64) < (8707 : Int); decide), (by show (8707 : Int) < 2 ^ 64; decide)⟩, _, _, rfl, rfl, ?_⟩
    refine ⟨_, rfl, _, rfl, a, _, rfl, .inl hS, _, _, rfl, rfl, _, rfl, ?_⟩
    refine ite2 (fun h1 => ?_) (fun h1 => ?_)
    · have h1' : (k : Int) < ((ns.map V.int).length : Nat) := of_decide_eq_true h1
      rw [List.length_map] at h1'
      obtain ⟨n, hn⟩ := item_int (ns := ns) (j := k) (by omega)
      refine ⟨_, rfl, _, rfl, a, _, _, _, rfl, rfl, hS, atI_nat hn, .inl ⟨_, rfl, _, rfl, ?_⟩⟩
      have c0 : 0 ≤ (if n < 0 then -n else n) := by split <;> omega
      generalize (if n < 0 then -n else n) = c at c0
      refine ⟨_, rfl, _, _, rfl, rfl, ⟨by decide, by decide, by decide⟩, _, _, rfl, rfl, _, rfl, ?_⟩
      refine ite2 (fun _ => ?_) (fun _ => ?_)
      · refine ⟨_, rfl, ?_⟩
        refine ⟨_, rfl, _, rfl, .inl ⟨_, rfl, _, _, rfl, rfl, (by show (0 : Int) < 2147483587; decide), _, _, rfl, rfl, .inr ⟨(by show -(2 ^ 64) < (70191 : Int); decide), (by show (70191 : Int) < 2 ^ 64; decide)⟩, _, rfl, _, _, rfl, rfl, .inl ⟨(by show -(2 ^ 64) < (1759 : Int); decide), (by show (1759 : Int) < 2 ^ 64; decide)⟩, _, _, rfl, rfl, .inl ⟨_, rfl, _, _, rfl, rfl, (by show (0 : Int) < 2147483587; decide), _, _, rfl, rfl, (by show 2 ≤ sizeLine; decide), fun q hq => ?_⟩⟩⟩
        exact kont q _ (Sm.new t hq) hq (nP hq) ⟨_, _, upd_same, c0, by omega, by omega⟩
      · refine ⟨_, rfl, _, rfl, .inl ⟨_, rfl, _, _, rfl, rfl, (by show (0 : Int) < 2147483587; decide), _, _, rfl, rfl, .inr ⟨(by show -(2 ^ 64) < (70191 : Int); decide), (by show (70191 : Int) < 2 ^ 64; decide)⟩, _, rfl, _, _, rfl, rfl, .inl ⟨(by show -(2 ^ 64) < (1759 : Int); decide), (by show (1759 : Int) < 2 ^ 64; decide)⟩, _, _, rfl, rfl, .inl ⟨_, rfl, _, _, rfl, rfl, (by show (0 : Int) < 2147483587; decide), _, _, rfl, rfl, (by show 2 ≤ sizeLine; decide), fun q hq => ?_⟩⟩⟩
        exact kont q _ (Sm.new t hq) hq (nP hq) ⟨_, _, upd_same, Int.le_refl 0, by omega, by omega⟩
    · refine ⟨_, rfl, a, _, rfl, .inl hS, _, _, rfl, rfl, _, rfl, ?_⟩
      have c1 : (0 : Int) ≤ 8707 * (k : Int) + 1759 := by omega
      refine ite2 (fun h2 => ?_) (fun h2 => ?_)
      · have h2' : ((ns.map V.int).length : Nat) > (0 : Int) := of_decide_eq_true h2
        rw [List.length_map] at h2'
        obtain ⟨n, hn⟩ := item_int (ns := ns) (j := k % ns.length) (Nat.mod_lt _ (by omega))
        have ej : (k : Int) % (((ns.map V.int).length : Nat) : Int) = ((k % ns.length : Nat) : Int) := by
          rw [List.length_map]
          exact (Int.natCast_emod k ns.length).symm
        have at2 : atI (ns.map V.int) ((k : Int) % (((ns.map V.int).length : Nat) : Int)) = some (V.int n) := by
          rw [ej]
          exact atI_nat hn
        refine ⟨_, rfl, _, rfl, _, rfl, .inl ⟨_, rfl, _, rfl, a, _, rfl, .inl hS, _, _, rfl, rfl, (by rw [List.length_map]; exact h2'), a, _, _, _, rfl, rfl, hS, at2, .inl ⟨_, rfl, _, rfl, .inl ⟨_, rfl, _, _, rfl, rfl, (by show (0 : Int) < 2147483587; decide), _, _, rfl, rfl, .inr ⟨(by show -(2 ^ 64) < (51137 : Int); decide), (by show (51137 : Int) < 2 ^ 64; decide)⟩, _, _, rfl, rfl, ?_⟩⟩⟩⟩
        have m0 : 0 ≤ (if n < 0 then -n else n) % 2147483587 := Int.emod_nonneg _ (by decide)
        have c0 : 0 ≤ 8707 * (k : Int) + 1759 + (if n < 0 then -n else n) % 2147483587 * 51137 := by omega
        refine ⟨_, rfl, _, _, rfl, rfl, ⟨by decide, by decide, by decide⟩, _, _, rfl, rfl, _, rfl, ?_⟩
        refine ite2 (fun _ => ?_) (fun _ => ?_)
        · refine ⟨_, rfl, ?_⟩
          refine ⟨_, rfl, _, rfl, .inl ⟨_, rfl, _, _, rfl, rfl, (by show (0 : Int) < 2147483587; decide), _, _, rfl, rfl, .inr ⟨(by show -(2 ^ 64) < (70191 : Int); decide), (by show (70191 : Int) < 2 ^ 64; decide)⟩, _, rfl, _, _, rfl, rfl, .inl ⟨(by show -(2 ^ 64) < (1759 : Int); decide), (by show (1759 : Int) < 2 ^ 64; decide)⟩, _, _, rfl, rfl, .inl ⟨_, rfl, _, _, rfl, rfl, (by show (0 : Int) < 2147483587; decide), _, _, rfl, rfl, (by show 2 ≤ sizeLine; decide), fun q hq => ?_⟩⟩⟩
          exact kont q _ (Sm.new t hq) hq (nP hq) ⟨_, _, upd_same, c0, by omega, by omega⟩
        · refine ⟨_, rfl, _, rfl, .inl ⟨_, rfl, _, _, rfl, rfl, (by show (0 : Int) < 2147483587; decide), _, _, rfl, rfl, .inr ⟨(by show -(2 ^ 64) < (70191 : Int); decide), (by show (70191 : Int) < 2 ^ 64; decide)⟩, _, rfl, _, _, rfl, rfl, .inl ⟨(by show -(2 ^ 64) < (1759 : Int); decide), (by show (1759 : Int) < 2 ^ 64; decide)⟩, _, _, rfl, rfl, .inl ⟨_, rfl, _, _, rfl, rfl, (by show (0 : Int) < 2147483587; decide), _, _, rfl, rfl, (by show 2 ≤ sizeLine; decide), fun q hq => ?_⟩⟩⟩
          exact kont q _ (Sm.new t hq) hq (nP hq) ⟨_, _, upd_same, Int.le_refl 0, by omega, by omega⟩
      · refine ⟨_, rfl, _, _, rfl, rfl, ⟨by decide, by decide, by decide⟩, _, _, rfl, rfl, _, rfl, ?_⟩
        refine ite2 (fun _ => ?_) (fun _ => ?_)
        · refine ⟨_, rfl, ?_⟩
          refine ⟨_, rfl, _, rfl, .inl ⟨_, rfl, _, _, rfl, rfl, (by show (0 : Int) < 2147483587; decide), _, _, rfl, rfl, .inr ⟨(by show -(2 ^ 64) < (70191 : Int); decide), (by show (70191 : Int) < 2 ^ 64; decide)⟩, _, rfl, _, _, rfl, rfl, .inl ⟨(by show -(2 ^ 64) < (1759 : Int); decide), (by show (1759 : Int) < 2 ^ 64; decide)⟩, _, _, rfl, rfl, .inl ⟨_, rfl, _, _, rfl, rfl, (by show (0 : Int) < 2147483587; decide), _, _, rfl, rfl, (by show 2 ≤ sizeLine; decide), fun q hq => ?_⟩⟩⟩
          exact kont q _ (Sm.new t hq) hq (nP hq) ⟨_, _, upd_same, c1, by omega, by omega⟩
        · refine ⟨_, rfl, _, rfl, .inl ⟨_, rfl, _, _, rfl, rfl, (by show (0 : Int) < 2147483587; decide), _, _, rfl, rfl, .inr ⟨(by show -(2 ^ 64) < (70191 : Int); decide), (by show (70191 : Int) < 2 ^ 64; decide)⟩, _, rfl, _, _, rfl, rfl, .inl ⟨(by show -(2 ^ 64) < (1759 : Int); decide), (by show (1759 : Int) < 2 ^ 64; decide)⟩, _, _, rfl, rfl, .inl ⟨_, rfl, _, _, rfl, rfl, (by show (0 : Int) < 2147483587; decide), _, _, rfl, rfl, (by show 2 ≤ sizeLine; decide), fun q hq => ?_⟩⟩⟩
          exact kont q _ (Sm.new t hq) hq (nP hq) ⟨_, _, upd_same, Int.le_refl 0, by omega, by omega⟩
end
end K6

set_option Elab.async false
set_option linter.all false
set_option maxRecDepth 100000
set_option maxHeartbeats 4000000
namespace K6
open PySem PySem.Spec PyProof.Rows L2 So
/-- behind a draw -/
def Drw (H : Hp) (b : Addr) (k : Hp → Prop) : Prop := ∀ g s : Int, 0 ≤ g → 0 ≤ s → s ≤ 2147483587 → k (upd H b (.lst [.int g, .int s]))
theorem box_of {H : Hp} {b : Addr} {g s : Int} (h1 : 0 ≤ g) (h2 : 0 ≤ s) (h3 : s ≤ 2147483587) : Box (upd H b (.lst [.int g, .int s])) b := ⟨g, s, upd_same, h1, h2, h3⟩
section
variable {Pg : Program} {w : World} {K : PySem.W.Frag} {mg : Str → Option Value} {base : Heap} {P : Addr}
/-! ### _law_take -/
abbrev sTak : Stmt := top 40
theorem scTak : FnScope ["box", "many", "digit", "raw"] ["box", "many"] (defScope sTak) := ⟨rfl, rfl, rfl, by decide +kernel, rfl, by decide +kernel, by decide +kernel⟩
def spTak : Sp := fun vs H Q _ => ∃ (b : Addr) (n : Int), vs = [.ref b, .int n] ∧ Box H b ∧ 0 < n ∧ n < 1000000000 ∧ ∀ r : Int, 0 ≤ r → r < n → Drw H b (fun H' => Q (.int r) H')
theorem ok_tak {f : Addr} {fd : FuncData} (F : Fun K "_law_take" "_law_take" sTak f fd) (T : Tx K mg) : FnOk Pg w K mg base CX0 1 f fd ["box", "many"] spTak := by
  refine F.ok scTak (fun vs H Q E h => ?_) (fun cdv A outer s H vs Q E hr h => ?_)
  · obtain ⟨_, _, rfl, _⟩ := h
    rfl
  · obtain ⟨b, n, rfl, ⟨g, z, hb, hg, hz, hz2⟩, hn, hn2, kont⟩ := h
    refine ⟨_, pss_cons (ps_if (pt_cmpR op_gt (pe_ix ix_list (pv 0) pe_int (fun _ _ => rfl)) pe_int (nomark _))
        (pss_cons (ps_set (i := 2) scTak.nd rfl (Or.inl rfl) (pe_op op_mod (pe_callTy call_int1 (by rfl) T.int (by decide +kernel) (pa_cons (pe_ix ix_list (pv 0) pe_int (fun _ _ => rfl)) pa_nil)) (pv 1)))
        (pss_cons (ps_asg (pe_op op_fdiv (pe_ix ix_list (pv 0) pe_int (fun _ _ => rfl)) (pv 1)) (pg_sub (pv 0) pe_int set_list))
        (pss_one (ps_ret (pv 2))))) pss_nil)
      (pss_cons (ps_set (i := 3) scTak.nd rfl (Or.inl rfl) (pe_op op_mod (pe_callTy call_int1 (by rfl) T.int (by decide +kernel) (pa_cons (pe_op op_add (pe_op op_mul (pe_ix ix_list (pv 0) pe_int (fun _ _ => rfl)) pe_int) pe_int) pa_nil)) pe_int))
      (pss_cons (ps_asg (pe_op op_add (pe_op op_mod (pe_callTy call_int1 (by rfl) T.int (by decide +kernel) (pa_cons (pe_op op_add (pe_op op_mul (pv 3) pe_int) pe_int) pa_nil)) pe_int) pe_int) (pg_sub (pv 0) pe_int set_list))
      (pss_one (ps_ret (pe_op op_mod (pe_callTy call_int1 (by rfl) T.int (by decide +kernel) (pa_cons (pe_op op_fdiv (pe_op op_add (pe_op op_mul (pv 3) pe_int) (pe_ix ix_list (pv 0) pe_int (fun _ _ => rfl))) pe_int) pa_nil)) (pv 1)))))), ?_⟩
    refine ⟨_, rfl, b, _, _, _, rfl, rfl, SqL.of hb, atI_nat (j := 0) rfl, _, _, rfl, rfl, _, rfl, ?_⟩
    refine ite2 (fun _ => ?_) (fun _ => ?_)
    · refine ⟨_, rfl, b, _, _, _, rfl, rfl, SqL.of hb, atI_nat (j := 0) rfl, .inl ⟨_, rfl, _, rfl, _, _, rfl, rfl, hn, ?_⟩⟩
      refine ⟨_, rfl, b, _, _, _, rfl, rfl, SqL.of hb, atI_nat (j := 0) rfl, _, rfl, _, _, rfl, rfl, ⟨hn, by omega⟩, ?_⟩
      refine ⟨_, rfl, b, _, _, 0, rfl, rfl, hb, rfl, ?_⟩
      refine ⟨_, rfl, ?_⟩
      exact kont _ (Int.emod_nonneg _ (by omega)) (Int.emod_lt_of_pos _ hn) (g / n) z (Int.ediv_nonneg hg (by omega)) hz hz2
    · refine ⟨_, rfl, b, _, _, _, rfl, rfl, SqL.of hb, atI_nat (j := 1) rfl, _, _, rfl, rfl, .inr ⟨(by show -(2 ^ 64) < (40692 : Int); decide), (by show (40692 : Int) < 2 ^ 64; decide)⟩, _, _, rfl, rfl, .inl ⟨_, rfl, _, _, rfl, rfl, (by show (0 : Int) < 2147483399; decide), ?_⟩⟩
      refine ⟨_, rfl, _, _, rfl, rfl, .inr ⟨(by show -(2 ^ 64) < (39373 : Int); decide), (by show (39373 : Int) < 2 ^ 64; decide)⟩, _, _, rfl, rfl, .inl ⟨_, rfl, _, _, rfl, rfl, (by show (0 : Int) < 2147483587; decide), _, _, rfl, rfl, ?_⟩⟩
      refine ⟨_, rfl, b, _, _, 1, rfl, rfl, hb, rfl, ?_⟩
      refine ⟨_, rfl, _, _, rfl, rfl, .inr ⟨(by show -(2 ^ 64) < (2147483629 : Int); decide), (by show (2147483629 : Int) < 2 ^ 64; decide)⟩, _, rfl, b, _, _, _, rfl, rfl, SqL.of upd_same, atI_nat (j := 1) rfl, _, _, rfl, rfl, _, _, rfl, rfl, ⟨by decide, by decide⟩, .inl ⟨_, rfl, _, rfl, _, _, rfl, rfl, hn, ?_⟩⟩
      exact kont _ (Int.emod_nonneg _ (by omega)) (Int.emod_lt_of_pos _ hn) g _ hg (by omega) (by omega)
/-! ### _law_pick -/
abbrev sPck : Stmt := top 41
theorem scPck : FnScope ["box", "some"] ["box", "some"] (defScope sPck) := ⟨rfl, rfl, rfl, by decide +kernel, rfl, by decide +kernel, by decide +kernel⟩
def spPck : Sp := fun vs H Q _ => ∃ (b l : Addr) (xs : List V), vs = [.ref b, .ref l] ∧ Box H b ∧ H l = some (.lst xs) ∧ l ≠ b ∧ 0 < xs.length ∧ xs.length < 1000 ∧ ∀ (j : Nat) (v : V), xs[j]? = some v → Drw H b (fun H' => Q v H')
theorem ok_pck {f fT : Addr} {fd fdT : FuncData} (F : Fun K "_law_pick" "_law_pick" sPck f fd) (T : Tx K mg) (D : Df K mg "_law_take" sTak ["box", "many"] fT fdT) : FnOk Pg w K mg base CX0 2 f fd ["box", "some"] spPck := by
  have GD : FnOk Pg w K mg base CX0 1 fT fdT ["box", "many"] spTak := ok_tak D.F T
  refine F.ok scPck (fun vs H Q E h => ?_) (fun cdv A outer s H vs Q E hr h => ?_)
  · obtain ⟨_, _, _, rfl, _⟩ := h
    rfl
  · obtain ⟨b, l, xs, rfl, hb, hl, ne, h0, h1, kont⟩ := h
    refine ⟨_, pss_one (ps_ret (pe_ix ix_list (pv 1) (pe_call GD hr (by rfl) D.g D.F.kp D.b .nil pass0 (pa_cons (pv 0) (pa_cons (pe_callB call_len_seq (by rfl) T.len (by decide +kernel) (pa_cons (pv 1) pa_nil)) pa_nil))) (fun _ _ => rfl))), ?_⟩
    refine ⟨_, rfl, _, rfl, _, rfl, l, _, rfl, .inl (SqL.of hl), b, _, rfl, hb, by omega, by omega, fun r r0 r1 g z a1 a2 a3 => ?_⟩
    obtain ⟨j, rfl⟩ : ∃ j : Nat, r = (j : Int) := ⟨r.toNat, by omega⟩
    have hj : xs[j]? = some xs[j] := List.getElem?_eq_getElem (by omega)
    have hl' : upd H b (.lst [.int g, .int z]) l = some (.lst xs) := by
      rw [upd_ne ne]
      exact hl
    exact ⟨l, _, _, _, rfl, rfl, SqL.of hl', atI_nat hj, kont j _ hj g z a1 a2 a3⟩
end
end K6

set_option Elab.async false
set_option linter.all false
set_option maxRecDepth 100000
set_option maxHeartbeats 4000000
namespace K6
open PySem PySem.Spec PyProof.Rows L2 So
theorem Box.keep {P b : Addr} {H H1 : Hp} (t : GxR.TabG H P) (s : Sm P H H1) (h : Box H b) : Box H1 b := by
  obtain ⟨g, z, e, r⟩ := h
  exact ⟨g, z, s.atL t e, r⟩
/-! ### what draws leave -/
structure SB (P b : Addr) (H H' : Hp) : Prop where
  keep : ∀ c o, c ≠ P → c ≠ b → H c = some o → H' c = some o
  tab : GxR.TabG H' P
  box : Box H' b
section
variable {K : PySem.W.Frag} {P b : Addr} {H H1 H2 : Hp}
theorem SB.refl (t : GxR.TabG H P) (bx : Box H b) : SB P b H H := ⟨fun _ _ _ _ h => h, t, bx⟩
theorem SB.trans (a : SB P b H H1) (c : SB P b H1 H2) : SB P b H H2 := ⟨fun x o h1 h2 e => c.keep x o h1 h2 (a.keep x o h1 h2 e), c.tab, c.box⟩
theorem SB.sm (bx : Box H b) (t : GxR.TabG H P) (s : Sm P H H1) : SB P b H H1 := ⟨fun x o h1 _ e => s.1 x o h1 e, s.2, bx.keep t s⟩
theorem SB.draw {g z : Int} (t : GxR.TabG H P) (bP : b ≠ P) (h1 : 0 ≤ g) (h2 : 0 ≤ z) (h3 : z ≤ 2147483587) : SB P b H (upd H b (.lst [.int g, .int z])) := by
  refine ⟨fun x o _ hb e => by rw [upd_ne hb]; exact e, ?_, box_of h1 h2 h3⟩
  obtain ⟨ps, e, r⟩ := t
  exact ⟨ps, by rw [upd_ne (Ne.symm bP)]; exact e, r⟩
theorem SB.mut {F : Addr} {o : HO} (a : SB P b H H1) (h : H F = none) (FP : F ≠ P) (Fb : F ≠ b) : SB P b H (upd H1 F o) := by
  refine ⟨fun x u h1 h2 e => ?_, ?_, ?_⟩
  · rw [upd_ne (ne_of_none e h)]
    exact a.keep x u h1 h2 e
  · obtain ⟨ps, e, r⟩ := a.tab
    exact ⟨ps, by rw [upd_ne (Ne.symm FP)]; exact e, r⟩
  · obtain ⟨g, z, e, r⟩ := a.box
    exact ⟨g, z, by rw [upd_ne (Ne.symm Fb)]; exact e, r⟩
theorem SB.tp (a : SB P b H H1) (t : GxR.TabG H P) (bx : Box H b) : Tp H H1 := fun c xs r => by
  obtain ⟨g, z, e, _⟩ := bx
  rcases r with r | ⟨u, r⟩
  · exact .inl (a.keep _ _ (tab_tup t r (fun _ q => nomatch q)) (ne_of r e (fun q => nomatch q)) r)
  · exact .inr ⟨u, a.keep _ _ (tab_tup t r (fun _ q => nomatch q)) (ne_of r e (fun q => nomatch q)) r⟩
theorem SB.free (a : SB P b H H1) (t : GxR.TabG H P) (bx : Box H b) {c : Addr} (h : H1 c = none) : H c = none := by
  cases q : H c with
  | none => rfl
  | some o =>
    by_cases e : c = P
    · obtain ⟨ps, z, _⟩ := a.tab
      rw [e, z] at h
      cases h
    · by_cases e2 : c = b
      · obtain ⟨g, z, z2, _⟩ := a.box
        rw [e2, z2] at h
        cases h
      · rw [a.keep _ _ e e2 q] at h
        cases h
theorem box_ne {c : Addr} (bx : Box H b) (h : H c = none) : c ≠ b := by
  obtain ⟨_, _, e, _⟩ := bx
  exact (ne_of_none e h).symm
end
end K6

set_option Elab.async false
set_option linter.all false
set_option maxRecDepth 100000
set_option maxHeartbeats 4000000
namespace K6
open PySem PySem.Spec PyProof.Rows L2 So
def sV (L : List Str) : List V := L.map V.str
theorem sV_at {L : List Str} {i : Nat} {x : V} (h : (sV L)[i]? = some x) : ∃ z, L[i]? = some z ∧ x = .str z := by
  unfold sV at h
  rw [List.getElem?_map] at h
  cases e : L[i]? with
  | none =>
    rw [e] at h
    cases h
  | some y =>
    rw [e] at h
    exact ⟨y, rfl, (Option.some.inj h).symm⟩
theorem cut1 (xs : List V) : cutV xs (some 1) none = xs.drop 1 := by
  cases xs with
  | nil => rfl
  | cons x r => simp [cutV, HT.sIx]
theorem sV_flat (L : List Str) : (sV L).all flatV = true := by
  unfold sV
  rw [List.all_map]
  exact List.all_eq_true.mpr fun _ _ => rfl
theorem inV_str (L : List Str) (z : Str) : inV (.str z) (sV L) = decide (z ∈ L) := by
  unfold inV sV
  rw [List.any_map, Bool.eq_iff_iff, List.any_eq_true, decide_eq_true_iff]
  constructor
  · rintro ⟨x, hx, e⟩
    have e' : (x == z) = true := e
    rw [← beq_iff_eq.mp e']
    exact hx
  · intro h
    exact ⟨z, h, (beq_iff_eq.mpr rfl : (z == z) = true)⟩
/-! ### facts -/
inductive Tw | later | next | and | or
inductive On | first | last | inside | not
def Tw.w : Tw → Str
  | .later => "later"
  | .next => "next"
  | .and => "and"
  | .or => "or"
def On.w : On → Str
  | .first => "first"
  | .last => "last"
  | .inside => "inside"
  | .not => "not"
inductive Fa
  | txt (s : Option Str) (n : Nat)
  | lab (l : Str)
  | chi (f n : Nat)
  | mdl (f m r : Nat)
  | two (w : Tw) (f g : Nat)
  | one (w : On) (f : Nat)
def optV : Option Str → V
  | none => .non
  | some s => .str s
def Fa.w : Fa → Str
  | .txt _ _ => "text"
  | .lab _ => "label"
  | .chi _ _ => "child"
  | .mdl _ _ _ => "modulo"
  | .two w _ _ => w.w
  | .one w _ => w.w
def Fa.ps : Fa → List V
  | .txt s n => [optV s, .int (n : Nat)]
  | .lab l => [.str l]
  | .chi f n => [.int (f : Nat), .int (n : Nat)]
  | .mdl f m r => [.int (f : Nat), .int (m : Nat), .int (r : Nat)]
  | .two _ f g => [.int (f : Nat), .int (g : Nat)]
  | .one _ f => [.int (f : Nat)]
def Fa.vs (f : Fa) : List V := .str f.w :: f.ps
def Fa.srt : Fa → List Str
  | .txt _ _ => ["string", "n"]
  | .lab _ => ["label"]
  | .chi _ _ => ["f", "n"]
  | .mdl _ _ _ => ["f", "m", "r"]
  | .two _ _ _ => ["f", "f"]
  | .one _ _ => ["f"]
def okStr : Option Str → Prop
  | none => True
  | some s => s.length ≤ 65535
def Fa.ok (at_ : Nat) : Fa → Prop
  | .txt s n => okStr s ∧ 1 ≤ n ∧ n ≤ 3
  | .lab l => isLab l = true ∧ l.length ≤ 12
  | .chi f n => f < at_ ∧ 1 ≤ n ∧ n ≤ 3
  | .mdl f m r => f < at_ ∧ 2 ≤ m ∧ m ≤ 4 ∧ r < m
  | .two _ f g => f < at_ ∧ g < at_
  | .one _ f => f < at_
/-- what the module's tables say of facts' parts -/
structure Tz (K : PySem.W.Frag) (w : World) (mg : Str → Option Value) (d J : Addr) : Prop where
  T : Ty K mg
  parts : mg "PARTS" = some (.ref d)
  dict : ∃ es n, KDict K w d es n
  row : ∀ f : Fa, ∃ a, PySem.W.nsIn K d f.w = some (some (.ref a)) ∧ ∀ H, SqT K H a (sV f.srt)
  joining : mg "JOINING" = some (.ref J)
  joins : ∀ H, SqT K H J (sV ["not", "and", "or"])
/-- .get of a dict of the module -/
def tGetK (K : PySem.W.Frag) (d : Addr) (to ty : TE) : TE := fun σ H Q => to σ H fun x H1 => x = .ref d ∧ ty σ H1 fun y H2 => ∃ (z : Str) (r : Option Value) (v0 : V), y = .str z ∧ PySem.W.nsIn K d z = some r ∧ RelV v0 (r.getD .none) ∧ Q v0 H2
theorem pe_getK {X : Cx} {d : Addr} {es : Array DictEntry} {n : Nat} {o e : Expr} {apos cpos : Pos} {to ty : TE} (D : KDict X.K X.w d es n) (ho : PE X o to) (he : PE X e ty) (m : M1 X o "get" apos e cpos) :
    PE X (.Call (.Attribute o "get" apos) [e] [] cpos) (tGetK X.K d to ty) := by
  refine ⟨fun pins s σ H Q I h => ?_⟩
  refine wpAny_Call_method m.base m.few m.line PySem.F.plainAttrs_dict PySem.F.slot_dict_get PySem.F.type_dict_get (thn (ho.run pins s σ H _ I h) fun u s1 ⟨x, H1, I1, rx, ex, q1⟩ => ?_)
  subst ex
  obtain rfl : u = Value.ref d := rx
  have J1 := PySem.W.mapOf_K (prog := X.prog) (w := X.w) I1.kIn D.at_ D.lit
  refine ⟨J1.typeIs, fun a e => ?_, ?_⟩
  · cases e
    exact ⟨_, I1.kIn _ _ D.at_, rfl⟩
  rw [m.trees]
  refine Calls.callWith_builtin rfl (Calls.evalArgs_plain (Calls.spliced_cons (thn (he.run pins s1 σ H1 _ I1 q1) fun iv s2 ⟨y, H2, I2, ry, z, r, v0, ey, e0, rv, q2⟩ => Calls.spliced_nil ?_)))
  subst ey
  obtain ⟨t, rfl⟩ := ry
  have J2 := PySem.W.mapOf_K (prog := X.prog) (w := X.w) I2.kIn D.at_ D.lit
  refine call_meetsIn PySem.F.slot_dict_get J2.typeIs PySem.F.entry_dict_get (PySem.F.args_dict_get_2 _ _) (meets_dict_get (strKind X.prog X.w) d (PySem.strKind_is X.prog X.w z t) D.low) ⟨_, J2, ⟨v0, H2, I2.tok _, ?_, q2⟩⟩
  rw [PySem.W.find_K D.at_ e0]
  exact rv
end K6

set_option Elab.async false
set_option linter.all false
set_option maxRecDepth 100000
set_option maxHeartbeats 4000000
namespace K6
open PySem PySem.Spec PyProof.Rows L2 So
theorem iteN {a b : Str} {A B : Prop} (h : decide (a = b) = false) (q : B) : if decide (V.str a = V.str b) = true then A else B := by
  rw [dstr h]
  exact iteF q
theorem iteE {a : Str} {A B : Prop} (q : A) : if decide (V.str a = V.str a) = true then A else B := by
  rw [decide_eq_true rfl]
  exact iteT q
section
variable {Pg : Program} {w : World} {K : PySem.W.Frag} {mg : Str → Option Value} {base : Heap} {P d J : Addr}
abbrev sPrt : Stmt := top 26
theorem scPrt : FnScope ["sort", "value", "fact", "ahead"] ["sort", "value", "fact", "ahead"] (defScope sPrt) := ⟨rfl, rfl, rfl, by decide +kernel, rfl, by decide +kernel, by decide +kernel⟩
/-- a part that is as its sort says -/
inductive OkPart (K : PySem.W.Frag) (H : Hp) (fa : Addr) (ahead : Nat) : Str → V → Prop
  | f {n : Nat} (h : n < ahead) : OkPart K H fa ahead "f" (.int (n : Nat))
  | n {n : Nat} (h : 1 ≤ n) (h2 : n ≤ 3) : OkPart K H fa ahead "n" (.int (n : Nat))
  | m {n : Nat} (h : 2 ≤ n) (h2 : n ≤ 4) : OkPart K H fa ahead "m" (.int (n : Nat))
  | r {r m : Nat} {us : List V} (h : Sq K H fa us) (e : us[2]? = some (.int (m : Nat))) (h2 : r < m) : OkPart K H fa ahead "r" (.int (r : Nat))
  | lab {l : Str} (h : isLab l = true) (h2 : l.length ≤ 12) : OkPart K H fa ahead "label" (.str l)
  | non : OkPart K H fa ahead "string" .non
  | str {s : Str} (h : s.length ≤ 65535) : OkPart K H fa ahead "string" (.str s)
def spPrt (K : PySem.W.Frag) (P : Addr) : Sp := Pu P fun vs H R => ∃ (z : Str) (v : V) (fa : Addr) (n : Nat), vs = [.str z, v, .ref fa, .int (n : Nat)] ∧ OkPart K H fa n z v ∧ R = fun v _ => v = .bl true
theorem ok_prt {f fB fN fL fX c : Addr} {fd fdB fdN fdL fdX : FuncData} (F : Fun K "_is_part" "_is_part" sPrt f fd) (T : Tz K w mg d J) (TB : GxR.TabB base mg c P) (Nb : Df K mg "is_number_below" sNub ["value", "bound"] fB fdB) (Nu : Df K mg "is_number" sNum ["value"] fN fdN)
    (Lb : DfC K mg "is_label" sLab ["value"] fL fdL c) (Tx' : Df K mg "is_text" sTxt ["value"] fX fdX) : FnOk Pg w K mg base CX0 3 f fd ["sort", "value", "fact", "ahead"] (spPrt K P) := by
  have GB : FnOk Pg w K mg base CX0 2 fB fdB ["value", "bound"] (spNub P) := ok_nub Nb.F T.T.T Nu
  have GN : FnOk Pg w K mg base CX0 1 fN fdN ["value"] (spNum P) := ok_num Nu.F T.T.T
  have GL : FnOk Pg w K mg base CX0 1 fL fdL ["value"] (spLab P) := ok_lab Lb T.T.T TB
  have GX : FnOk Pg w K mg base CX0 1 fX fdX ["value"] (spTxt P) := ok_txt Tx'.F T.T.T
  obtain ⟨_, tcm⟩ := T.T.cmo
  obtain ⟨_, tmm⟩ := T.T.mmo
  refine F.ok scPrt (fun vs H Q E h => ?_) (fun cdv A outer s H vs Q E hr h => ?_)
  · obtain ⟨_, _, ⟨_, _, _, _, rfl, _⟩, _⟩ := h
    rfl
  · obtain ⟨t, _, ⟨z, v, fa, n, rfl, ok, rfl⟩, k⟩ := h
    have r1 : Room 1 _ := hr.mono (by decide)
    have r2 : Room 2 _ := hr.mono (by decide)
    refine ⟨_, (pss_cons (ps_if (pt_cmpR op_eq (pv 0) pe_str (nomark _)) (pss_one (ps_ret (pe_call GB r2 (by rfl) Nb.g Nb.F.kp Nb.b .nil pass0 (pa_cons (pv 1) (pa_cons (pv 3) pa_nil))))) pss_nil)
      (pss_cons (ps_if (pt_cmpR op_eq (pv 0) pe_str (nomark _)) (pss_one (ps_ret (pe_and (pe_call GN r1 (by rfl) Nu.g Nu.F.kp Nu.b .nil pass0 (pa_cons (pv 1) pa_nil)) (pe_one (pe_chain op_le op_le pe_int (pv 1) (pe_glob (v := .int 3) (by rfl) tcm ⟨_, rfl⟩)))))) pss_nil)
      (pss_cons (ps_if (pt_cmpR op_eq (pv 0) pe_str (nomark _)) (pss_one (ps_ret (pe_and (pe_call GN r1 (by rfl) Nu.g Nu.F.kp Nu.b .nil pass0 (pa_cons (pv 1) pa_nil)) (pe_one (pe_chain op_le op_le pe_int (pv 1) (pe_glob (v := .int 4) (by rfl) tmm ⟨_, rfl⟩)))))) pss_nil)
      (pss_cons (ps_if (pt_cmpR op_eq (pv 0) pe_str (nomark _)) (pss_one (ps_ret (pe_call GB r2 (by rfl) Nb.g Nb.F.kp Nb.b .nil pass0 (pa_cons (pv 1) (pa_cons (pe_ix ix_sq (pv 2) pe_int (fun _ _ => rfl)) pa_nil))))) pss_nil)
      (pss_cons (ps_if (pt_cmpR op_eq (pv 0) pe_str (nomark _)) (pss_one (ps_ret (pe_call GL r1 (by rfl) Lb.g Lb.kp Lb.b .nil pass0 (pa_cons (pv 1) pa_nil)))) pss_nil)
      (pss_one (ps_ret (pe_or (pe_cmp (pc_isN (pv 1))) (pe_one (pe_call GX r1 (by rfl) Tx'.g Tx'.F.kp Tx'.b .nil pass0 (pa_cons (pv 1) pa_nil))))))))))), ?_⟩
    have no : ∀ {a b : Str}, (a == b) = false → (a == b) = false := fun h => h
    have sl : ∀ {m : Nat}, m ≤ 65535 → m ≤ sizeLine := fun h => Nat.le_trans h (by decide)
    cases ok with
    | f h =>
      refine ⟨_, rfl, rfl, _, rfl, iteE ?_⟩
      exact ⟨_, rfl, _, rfl, t, _, ⟨_, _, rfl, by omega, by omega, rfl⟩, fun v H1 s1 e => k _ _ s1 e⟩
    | n h h2 =>
      refine ⟨_, rfl, rfl, _, rfl, iteN (by decide +kernel) ⟨_, rfl, rfl, _, rfl, iteE ?_⟩⟩
      refine ⟨_, rfl, t, _, ⟨_, rfl, rfl⟩, fun v H1 s1 e => ⟨true, by rw [e]; exact congrArg V.bl (decide_eq_true (by omega)), iteT ⟨_, rfl, _, _, rfl, rfl, _, rfl, ?_⟩⟩⟩
      rw [decide_eq_true (by omega)]
      exact iteT ⟨_, _, rfl, rfl, k _ _ s1 (congrArg V.bl (decide_eq_true (by omega)))⟩
    | m h h2 =>
      refine ⟨_, rfl, rfl, _, rfl, iteN (by decide +kernel) ⟨_, rfl, rfl, _, rfl, iteN (by decide +kernel) ⟨_, rfl, rfl, _, rfl, iteE ?_⟩⟩⟩
      refine ⟨_, rfl, t, _, ⟨_, rfl, rfl⟩, fun v H1 s1 e => ⟨true, by rw [e]; exact congrArg V.bl (decide_eq_true (by omega)), iteT ⟨_, rfl, _, _, rfl, rfl, _, rfl, ?_⟩⟩⟩
      rw [decide_eq_true (by omega)]
      exact iteT ⟨_, _, rfl, rfl, k _ _ s1 (congrArg V.bl (decide_eq_true (by omega)))⟩
    | r h e h2 =>
      refine ⟨_, rfl, rfl, _, rfl, iteN (by decide +kernel) ⟨_, rfl, rfl, _, rfl, iteN (by decide +kernel) ⟨_, rfl, rfl, _, rfl, iteN (by decide +kernel) ⟨_, rfl, rfl, _, rfl, iteE ?_⟩⟩⟩⟩
      refine ⟨_, rfl, _, rfl, at_sq h (atI_nat (j := 2) e) ?_⟩
      exact ⟨t, _, ⟨_, _, rfl, by omega, by omega, rfl⟩, fun v H1 s1 e => k _ _ s1 e⟩
    | lab h h2 =>
      refine ⟨_, rfl, rfl, _, rfl, iteN (by decide +kernel) ⟨_, rfl, rfl, _, rfl, iteN (by decide +kernel) ⟨_, rfl, rfl, _, rfl, iteN (by decide +kernel) ⟨_, rfl, rfl, _, rfl, iteN (by decide +kernel) ⟨_, rfl, rfl, _, rfl, iteE ?_⟩⟩⟩⟩⟩
      exact ⟨_, rfl, t, _, ⟨_, rfl, sl (by omega), rfl⟩, fun v H1 s1 e => k _ _ s1 (by rw [e, h])⟩
    | non =>
      refine ⟨_, rfl, rfl, _, rfl, iteN (by decide +kernel) ⟨_, rfl, rfl, _, rfl, iteN (by decide +kernel) ⟨_, rfl, rfl, _, rfl, iteN (by decide +kernel) ⟨_, rfl, rfl, _, rfl, iteN (by decide +kernel) ⟨_, rfl, rfl, _, rfl, iteN (by decide +kernel) ?_⟩⟩⟩⟩⟩
      exact ⟨_, rfl, true, rfl, iteT (k _ _ (Sm.refl t) rfl)⟩
    | str h =>
      refine ⟨_, rfl, rfl, _, rfl, iteN (by decide +kernel) ⟨_, rfl, rfl, _, rfl, iteN (by decide +kernel) ⟨_, rfl, rfl, _, rfl, iteN (by decide +kernel) ⟨_, rfl, rfl, _, rfl, iteN (by decide +kernel) ⟨_, rfl, rfl, _, rfl, iteN (by decide +kernel) ?_⟩⟩⟩⟩⟩
      exact ⟨_, rfl, false, rfl, iteF ⟨_, rfl, t, _, ⟨_, rfl, sl h, rfl⟩, fun v H1 s1 e => k _ _ s1 (by rw [e, decide_eq_true (show (_ : Int) ≤ 65535 by omega)])⟩⟩
/-! ### _is_fact -/
abbrev sFac : Stmt := top 27
theorem scFac : FnScope ["value", "ahead", "parts", "place", "sort"] ["value", "ahead"] (defScope sFac) := ⟨rfl, rfl, rfl, by decide +kernel, rfl, by decide +kernel, by decide +kernel⟩
def FaV (S : Hp → Addr → List V → Prop) (H : Hp) (v : V) (f : Fa) : Prop := ∃ a, v = .ref a ∧ S H a f.vs
def spFac (K : PySem.W.Frag) (P : Addr) : Sp := Pu P fun vs H R => ∃ (v : V) (f : Fa) (n : Nat), vs = [v, .int (n : Nat)] ∧ FaV (Sq K) H v f ∧ f.ok n ∧ R = fun v _ => v = .bl true
theorem len_vs (f : Fa) : f.vs.length = f.srt.length + 1 := by cases f <;> rfl
theorem ok_part {H : Hp} {a : Addr} {f : Fa} {n i : Nat} {z : Str} (h : Sq K H a f.vs) (o : f.ok n) (e : f.srt[i]? = some z) : ∃ v, f.vs[i + 1]? = some v ∧ OkPart K H a n z v := by
  cases f with
  | txt s m =>
    match i, e with
    | 0, e =>
      cases e
      cases s with
      | none => exact ⟨_, rfl, .non⟩
      | some s => exact ⟨_, rfl, .str o.1⟩
    | 1, e => cases e; exact ⟨_, rfl, .n o.2.1 o.2.2⟩
    | i + 2, e => simp [Fa.srt] at e
  | lab l =>
    match i, e with
    | 0, e => cases e; exact ⟨_, rfl, .lab o.1 o.2⟩
    | i + 1, e => simp [Fa.srt] at e
  | chi f m =>
    match i, e with
    | 0, e => cases e; exact ⟨_, rfl, .f o.1⟩
    | 1, e => cases e; exact ⟨_, rfl, .n o.2.1 o.2.2⟩
    | i + 2, e => simp [Fa.srt] at e
  | mdl f m r =>
    match i, e with
    | 0, e => cases e; exact ⟨_, rfl, .f o.1⟩
    | 1, e => cases e; exact ⟨_, rfl, .m o.2.1 o.2.2.1⟩
    | 2, e => cases e; exact ⟨_, rfl, .r h rfl o.2.2.2⟩
    | i + 3, e => simp [Fa.srt] at e
  | two w f g =>
    match i, e with
    | 0, e => cases e; exact ⟨_, rfl, .f o.1⟩
    | 1, e => cases e; exact ⟨_, rfl, .f o.2⟩
    | i + 2, e => simp [Fa.srt] at e
  | one w f =>
    match i, e with
    | 0, e => cases e; exact ⟨_, rfl, .f o⟩
    | i + 1, e => simp [Fa.srt] at e
theorem ok_fac {f fS fP : Addr} {fd fdS fdP : FuncData} (F : Fun K "_is_fact" "_is_fact" sFac f fd) (T : Tz K w mg d J) (Sq' : Df K mg "is_sequence" sSeq ["value"] fS fdS)
    (Pr : Df K mg "_is_part" sPrt ["sort", "value", "fact", "ahead"] fP fdP) (GP : FnOk Pg w K mg base CX0 3 fP fdP ["sort", "value", "fact", "ahead"] (spPrt K P)) : FnOk Pg w K mg base CX0 4 f fd ["value", "ahead"] (spFac K P) := by
  have GS : FnOk Pg w K mg base CX0 1 fS fdS ["value"] (spSeq2 K P) := ok_seq2 Sq'.F T.T.T
  obtain ⟨es, nn, D⟩ := T.dict
  refine F.ok scFac (fun vs H Q E h => ?_) (fun cdv A outer s H vs Q E hr h => ?_)
  · obtain ⟨_, _, ⟨_, _, _, rfl, _⟩, _⟩ := h
    rfl
  · obtain ⟨t, _, ⟨v, fa, n, rfl, ⟨a, rfl, ha⟩, ok, rfl⟩, k⟩ := h
    have r1 : Room 1 _ := hr.mono (by decide)
    have r3 : Room 3 _ := hr
    refine ⟨_, (pss_cons (ps_if (PW.pt (pw_or (pt_not (pt_val (pe_call GS r1 (by rfl) Sq'.g Sq'.F.kp Sq'.b .nil pass0 (pa_cons (pv 0) pa_nil)))) (pw_or (pt_cmpR op_eq (pe_callB call_len_seq (by rfl) T.T.T.len (by decide +kernel) (pa_cons (pv 0) pa_nil)) pe_int (nomark _)) (pw_or1 (pt_not (pt_val (pe_callB call_isi (by rfl) T.T.T.isi (by decide +kernel) (pa_cons (pe_ix ix_sq (pv 0) pe_int (fun _ _ => rfl)) (pa_cons (pe_bltn (v := .ty "str") (by rfl) T.T.T.str (by decide +kernel) rfl) pa_nil))))))))) pss_never pss_nil)
      (pss_cons (ps_set (i := 2) scFac.nd rfl (Or.inl rfl) (pe_getK D (pe_glob (v := .ref d) (by rfl) T.parts rfl) (pe_ix ix_sq (pv 0) pe_int (fun _ _ => rfl)) ⟨rfl, rfl, rfl, rfl⟩))
      (pss_cons (ps_if (PW.pt (pw_or (pt_cmp (pc_isN (pv 2))) (pw_or1 (pt_cmpR op_ne (pe_callB call_len_seq (by rfl) T.T.T.len (by decide +kernel) (pa_cons (pv 0) pa_nil)) (pe_op op_add (pe_callB call_len_seq (by rfl) T.T.T.len (by decide +kernel) (pa_cons (pv 2) pa_nil)) pe_int) (nomark _))))) pss_never pss_nil)
      (pss_cons (ps_for PassesOwn.never rfl (SoE.pi_enumT (by rfl) T.T.T.enumerate (pa_cons (pv 2) pa_nil)) (pg_tup rfl (pgs_cons (pg_name (i := 3) scFac.nd rfl (.inl rfl)) (pgs_cons (pg_name (i := 4) scFac.nd rfl (.inl rfl)) pgs_nil))) (pss_one (ps_if (pt_not (pt_val (pe_call GP r3 (by rfl) Pr.g Pr.F.kp Pr.b .nil pass0 (pa_cons (pv 4) (pa_cons (pe_ix ix_sq (pv 0) (pe_op op_add (pv 3) pe_int) (fun _ _ => rfl)) (pa_cons (pv 0) (pa_cons (pv 1) pa_nil))))))) pss_never pss_nil)))
      (pss_one (ps_ret pe_bl)))))), ?_⟩
    obtain ⟨pa, hpa, hp⟩ := T.row fa
    have lv := len_vs fa
    have ls : (sV fa.srt).length = fa.srt.length := by unfold sV; rw [List.length_map]
    refine ⟨_, rfl, t, _, ⟨a, _, rfl, ha, rfl⟩, fun v H1 s1 e => ⟨true, e, iteF ?_⟩⟩
    have ha1 := ha.mono t s1
    refine ⟨_, rfl, a, fa.vs, rfl, len_sq ha1, rfl, false, congrArg V.bl (decide_eq_false fun q => ?_), iteF ?_⟩
    · have := V.int.inj q
      omega
    refine ⟨_, rfl, at_sq ha1 (atI_nat (j := 0) rfl) ⟨_, _, _, _, true, rfl, .ty _, .base (.str _), kit_ty (by decide +kernel), true, rfl, iteF ?_⟩⟩
    refine ⟨rfl, _, rfl, at_sq ha1 (atI_nat (j := 0) rfl) ⟨_, _, .ref pa, rfl, hpa, rfl, ?_⟩⟩
    refine ⟨_, rfl, false, congrArg V.bl (decide_eq_false fun q => nomatch q), iteF ?_⟩
    refine ⟨_, rfl, a, fa.vs, rfl, len_sq ha1, _, rfl, pa, sV fa.srt, rfl, .inr (hp _), _, _, rfl, rfl, rfl, false, ?_, iteF ?_⟩
    · rw [ls, lv]
      exact congrArg V.bl (by rw [decide_eq_true (congrArg V.int (by omega))]; rfl)
    refine ⟨_, rfl, pa, sV fa.srt, rfl, hp _, for_it SoE.walk_enumT (fun i σ H' => ∃ (v3 v4 : Option V), σ = [some (.ref a), some (.int (n : Nat)), some (.ref pa), v3, v4] ∧ Sm P H H') ⟨none, none, rfl, s1⟩ (fun i σ H' _ _ => hp _) ?_ ?_⟩
    · rintro i y σ Ha Hb hi ⟨v3, v4, rfl, s3⟩ ⟨T1, x1, x, rfl, hT, rfl, e1, hxi⟩
      cases e1
      obtain ⟨z, hz, rfl⟩ := sV_at hxi
      have s4 : Sm P H (upd Ha T1 (.tup [.int (i : Nat), .str z])) := s3.trans (Sm.new s3.2 hT)
      have ha4 := ha.mono t s4
      obtain ⟨v, hv, hok⟩ := ok_part ha4 ok hz
      refine ⟨T1, _, rfl, .inl (.inl upd_same), rfl, _, _, rfl, _, _, rfl, rfl, ?_⟩
      have e2 : atI fa.vs ((i : Int) + 1) = some v := atI_nat (j := i + 1) hv
      refine ⟨_, rfl, _, rfl, _, rfl, _, _, rfl, rfl, at_sq ha4 e2 ⟨_, rfl, _, rfl, s4.2, _, ⟨z, v, a, n, rfl, hok, rfl⟩, fun v H5 s5 e => ⟨true, e, iteF ?_⟩⟩⟩
      exact ⟨_, _, rfl, s4.trans s5⟩
    · rintro σ H' ⟨v3, v4, rfl, s3⟩
      exact k _ _ s3 rfl
end
end K6

set_option Elab.async false
set_option linter.all false
set_option maxRecDepth 100000
set_option maxHeartbeats 4000000
namespace K6
open PySem PySem.Spec PyProof.Rows L2 So
def iES (K : PySem.W.Frag) (tl : TA) : TI := fun σ H R => iEnum K tl σ H R ∨ SoE.iEnumT K tl σ H R
theorem for_esq {K : PySem.W.Frag} {a : Addr} {xs : List V} {g : TG} {tb : TS} {D : Ends} {σ : L2.St} {H : Hp} {tl : TA} (h : Sq K H a xs) (ht : ∀ Q : List V → Hp → Prop, Q [.ref a] H → tl σ H Q) (Pv : Nat → L2.St → Hp → Prop) (h0 : Pv 0 σ H)
    (hk : ∀ i σ' H', Pv i σ' H' → (SqT K H a xs → SqT K H' a xs) ∧ (SqL K H a xs → SqL K H' a xs))
    (hs : ∀ i x σ H T, xs[i]? = some x → Pv i σ H → H T = none → g (.ref T) σ (upd H T (.tup [.int (i : Nat), x])) fun σ2 H2 => tb { D with nx := Pv (i + 1), ct := Pv (i + 1), bk := D.nx } σ2 H2) (hd : ∀ σ H, Pv xs.length σ H → D.nx σ H) :
    tFor (iES K tl) g tb D σ H := by
  rcases h with h | h
  · refine .inr (ht _ ⟨a, xs, rfl, h, for_it SoE.walk_enumT Pv h0 (fun i σ' H' _ p => (hk i σ' H' p).1 h) ?_ hd⟩)
    rintro i y σ Ha Hb hi p ⟨T1, x1, x, rfl, hT, rfl, e1, hxi⟩
    cases e1
    exact hs i x σ Ha T1 hxi p hT
  · refine .inl (ht _ ⟨a, xs, rfl, h, for_it walk_enum Pv h0 (fun i σ' H' _ p => (hk i σ' H' p).2 h) ?_ hd⟩)
    rintro i y σ Ha Hb hi p ⟨T1, x1, x, rfl, hT, rfl, e1, hxi⟩
    cases e1
    exact hs i x σ Ha T1 hxi p hT
section
variable {Pg : Program} {w : World} {K : PySem.W.Frag} {mg : Str → Option Value} {base : Heap} {P d J : Addr}
theorem tup_sq {H : Hp} {a : Addr} {xs : List V} {Q : VK} (t : GxR.TabG H P) (h : Sq K H a xs) (k : ∀ z H2, Sm P H H2 → SqT K H2 z xs → Q (.ref z) H2) : kTup K (.ref a) H Q :=
  h.elim (fun h => .inr ⟨a, xs, rfl, h, k a H (Sm.refl t) h⟩) (fun h => .inl ⟨a, xs, rfl, h, fun q hq => k q _ (Sm.new t hq) (.inl (.inl upd_same))⟩)

abbrev sCkq : Stmt := top 28
theorem scCkq : FnScope ["value", "at", "fact"] ["value"] (defScope sCkq) := ⟨rfl, rfl, rfl, by decide +kernel, rfl, by decide +kernel, by decide +kernel⟩
def fV (q : List Fa) : List (List V) := q.map Fa.vs
def okQ (q : List Fa) : Prop := 1 ≤ q.length ∧ q.length ≤ 100 ∧ ∀ (i : Nat) (f : Fa), q[i]? = some f → f.ok i
def spCkq (K : PySem.W.Frag) (P : Addr) : Sp := Pu P fun vs H R => ∃ (v : V) (q : List Fa), vs = [v] ∧ RowsS (Sq K) H v (fV q) ∧ okQ q ∧ R = fun v H' => RowsS (SqT K) H' v (fV q)
theorem fV_at {q : List Fa} {i : Nat} {ys : List V} (h : (fV q)[i]? = some ys) : ∃ f, q[i]? = some f ∧ ys = f.vs := by
  unfold fV at h
  rw [List.getElem?_map] at h
  cases e : q[i]? with
  | none =>
    rw [e] at h
    cases h
  | some y =>
    rw [e] at h
    exact ⟨y, rfl, (Option.some.inj h).symm⟩
theorem ok_ckq {f fS fF : Addr} {fd fdS fdF : FuncData} (F : Fun K "check_question" "check_question" sCkq f fd) (T : Tz K w mg d J) (Sq' : Df K mg "is_sequence" sSeq ["value"] fS fdS)
    (Fc : Df K mg "_is_fact" sFac ["value", "ahead"] fF fdF) (GF : FnOk Pg w K mg base CX0 4 fF fdF ["value", "ahead"] (spFac K P)) : FnOk Pg w K mg base CX0 5 f fd ["value"] (spCkq K P) := by
  have GS : FnOk Pg w K mg base CX0 1 fS fdS ["value"] (spSeq2 K P) := ok_seq2 Sq'.F T.T.T
  obtain ⟨_, tfm⟩ := T.T.fmo
  refine F.ok scCkq (fun vs H Q E h => ?_) (fun cdv A outer s H vs Q E hr h => ?_)
  · obtain ⟨_, _, ⟨_, _, rfl, _⟩, _⟩ := h
    rfl
  · obtain ⟨t0, _, ⟨v, q, rfl, ⟨a, xs, rfl, ha, hp⟩, ⟨o1, o2, o3⟩, rfl⟩, k0⟩ := h
    have r1 : Room 1 _ := hr.mono (by decide)
    refine ⟨_, (pss_cons (ps_if (PW.pt (pw_or (pt_not (pt_val (pe_call GS r1 (by rfl) Sq'.g Sq'.F.kp Sq'.b .nil pass0 (pa_cons (pv 0) pa_nil)))) (pw_or1 (pt_not (pt_chain op_le op_le pe_int (pe_callB call_len_seq (by rfl) T.T.T.len (by decide +kernel) (pa_cons (pv 0) pa_nil)) (pe_glob (v := .int 100) (by rfl) tfm ⟨_, rfl⟩)))))) pss_never pss_nil)
      (pss_cons (ps_for PassesOwn.never rfl (pi_or (pi_enum (by rfl) T.T.T.enumerate (pa_cons (pv 0) pa_nil)) (SoE.pi_enumT (by rfl) T.T.T.enumerate (pa_cons (pv 0) pa_nil))) (pg_tup rfl (pgs_cons (pg_name (i := 1) scCkq.nd rfl (.inl rfl)) (pgs_cons (pg_name (i := 2) scCkq.nd rfl (.inl rfl)) pgs_nil))) (pss_one (ps_if (pt_not (pt_val (pe_call GF hr (by rfl) Fc.g Fc.F.kp Fc.b .nil pass0 (pa_cons (pv 2) (pa_cons (pv 1) pa_nil))))) pss_never pss_nil)))
      (pss_one (ps_ret (pe_tupleOf (by rfl) T.T.T.tuple (pe_lc (own := [("fact", 2)]) (g := gName 2) (tt := tYes) rfl scCkq.nd (pi_sq (pv 0)) (blkOk_by (N := ["value", "at", "fact"]) (sc := defScope sCkq) (by decide +kernel)) (fun _ _ _ _ _ => pg_name (i := 2) scCkq.nd rfl (Or.inl rfl)) (fun _ _ _ _ _ => pts_nil) (fun _ _ _ _ _ => show PE _ _ (tThen (tVar 2) (kTup K)) from (pe_tupleOf (by rfl) T.T.T.tuple (pv 2))))))))), ?_⟩
    have lq : (fV q).length = q.length := List.length_map _
    have lx : xs.length = q.length := (Paired.length hp).trans lq
    refine ⟨_, rfl, t0, _, ⟨a, xs, rfl, ha, rfl⟩, fun v H1 s1 e => ⟨true, e, iteF ?_⟩⟩
    refine ⟨_, rfl, a, xs, rfl, len_sq (ha.mono t0 s1), _, _, rfl, rfl, _, rfl, ?_⟩
    rw [decide_eq_true (by omega)]
    refine iteT ⟨_, _, rfl, rfl, true, congrArg V.bl (decide_eq_true (by omega)), iteF ?_⟩
    refine for_esq (ha.mono t0 s1) (fun Q q => ⟨_, rfl, q⟩) (fun i σ H' => ∃ (v1 v2 : Option V), σ = [some (.ref a), v1, v2] ∧ Sm P H1 H') ⟨none, none, rfl, Sm.refl s1.2⟩ (fun i σ' H' ⟨_, _, _, s⟩ => sq_keep s1.2 s) ?_ ?_
    · rintro i x σ Ha T1 hx ⟨v1, v2, rfl, s3⟩ hT
      obtain ⟨ys, hy, b, rfl, hb⟩ := paired_get hp hx
      obtain ⟨f, hf, rfl⟩ := fV_at hy
      have s4 : Sm P H1 (upd Ha T1 (.tup [.int (i : Nat), .ref b])) := s3.trans (Sm.new s3.2 hT)
      refine ⟨T1, _, rfl, .inl (.inl upd_same), rfl, _, _, rfl, _, _, rfl, rfl, ?_⟩
      refine ⟨_, rfl, _, rfl, s4.2, _, ⟨_, f, i, rfl, ⟨b, rfl, (hb.mono t0 s1).mono s1.2 s4⟩, o3 i f hf, rfl⟩, fun v H5 s5 e => ⟨true, e, iteF ?_⟩⟩
      exact ⟨_, _, rfl, s4.trans s5⟩
    rintro σ G2 ⟨v1, v2, rfl, s2⟩
    dsimp only
    have s12 := s1.trans s2
    have t : GxR.TabG G2 P := s12.2
    have ha := ha.mono t0 s12
    have hp : Paired (ItS (Sq K) G2) xs (fV q) := paired_mono (fun _ _ h => h.mono mo_sq t0 s12) hp
    have k : ∀ v H', Sm P G2 H' → RowsS (SqT K) H' v (fV q) → Q v H' := fun v H' s h => k0 v H' (s12.trans s) h
    clear k0 s1 s2 s12
    generalize fV q = yss at *
    have hl : yss.length ≤ 1000 := by omega
    have lx : xs.length = yss.length := Paired.length hp
    refine ret_of (then_of ?_)
    refine lc_sq (xs := xs) ha (fun Q q => ⟨_, rfl, q⟩) (fun D i H' => ∃ zs, Sm P G2 H' ∧ H' D = some (.lst zs) ∧ zs.length = i ∧ Paired (ItS (SqT K) H') zs (yss.take i)) (fun D hD => ⟨[], Sm.new t hD, upd_same, rfl, .nil⟩)
      (fun D hD i H' ⟨_, s, _⟩ => sq_keep t s) ?_ ?_
    · rintro D hD i x H' hx ⟨zs, s1, q1, q2, q3⟩
      obtain ⟨ys, hy, b, rfl, hb⟩ := paired_get hp hx
      have hi : i < yss.length := (List.getElem?_eq_some_iff.mp hy).1
      have DP : D ≠ P := fun z => by
        obtain ⟨ps, q, _⟩ := t
        rw [z, q] at hD
        cases hD
      refine ⟨rfl, _, rfl, ?_⟩
      have fin : ∀ (z : Addr) (H2 : Hp), Sm P H' H2 → SqT K H2 z ys → ∃ acc, H2 D = some (.lst acc) ∧ acc.length < sizeLine ∧ ∃ zs, Sm P G2 (upd H2 D (.lst (acc ++ [.ref z]))) ∧ upd H2 D (.lst (acc ++ [.ref z])) D = some (.lst zs) ∧ zs.length = i + 1 ∧ Paired (ItS (SqT K) (upd H2 D (.lst (acc ++ [.ref z])))) zs (yss.take (i + 1)) := by
        intro z H2 s2 hz
        have q1' := s2.atL s1.2 q1
        have tp : Tp H2 (upd H2 D (.lst (zs ++ [.ref z]))) := Tp.lst q1'
        refine ⟨zs, q1', Nat.lt_of_lt_of_le (by omega : zs.length < 10000) (by decide), zs ++ [.ref z], (s1.trans s2).mut hD DP, upd_same, by rw [List.length_append, q2]; rfl, ?_⟩
        rw [take_snoc hy]
        exact paired_append (paired_mono (fun _ _ ⟨b, e, h⟩ => ⟨b, e, tp.sq (s2.tup s1.2 h)⟩) q3) (.cons ⟨z, rfl, tp.sq hz⟩ .nil)
      rcases hb with hb | hb
      · exact .inr ⟨b, ys, rfl, s1.tup t hb, fin b H' (Sm.refl s1.2) (s1.tup t hb)⟩
      · exact .inl ⟨b, ys, rfl, s1.lst t hb, fun z hz => fin z _ (Sm.new s1.2 hz) (.inl (.inl upd_same))⟩
    · rintro D hD H' ⟨zs, s1, q1, q2, q3⟩
      rw [lx, List.take_length] at q3
      refine .inl ⟨D, zs, rfl, SqL.of q1, fun q hq => ?_⟩
      exact k _ _ (s1.trans (Sm.new s1.2 hq)) ⟨q, zs, rfl, .inl (.inl upd_same), paired_mono (fun _ _ h => h.mono mo_tup s1.2 (Sm.new s1.2 hq)) q3⟩
/-! ### check_asked -/
abbrev sCka : Stmt := top 29
theorem scCka : FnScope ["facts", "asked", "value"] ["facts", "asked"] (defScope sCka) := ⟨rfl, rfl, rfl, by decide +kernel, rfl, by decide +kernel, by decide +kernel⟩
def spCka (K : PySem.W.Frag) (P : Addr) : Sp := Pu P fun vs H R => ∃ (fa : Addr) (xs : List V) (v : V) (ns : List Nat), vs = [.ref fa, v] ∧ SqT K H fa xs ∧ ItS (Sq K) H v (iV ns) ∧ ns ≠ [] ∧ (∀ n ∈ ns, n < xs.length) ∧ R = fun v H' => ItS (SqT K) H' v (iV ns)
theorem ok_cka {f fS fB fN : Addr} {fd fdS fdB fdN : FuncData} (F : Fun K "check_asked" "check_asked" sCka f fd) (T : Tz K w mg d J) (Sq' : Df K mg "is_sequence" sSeq ["value"] fS fdS)
    (Nb : Df K mg "is_number_below" sNub ["value", "bound"] fB fdB) (Nu : Df K mg "is_number" sNum ["value"] fN fdN) : FnOk Pg w K mg base CX0 3 f fd ["facts", "asked"] (spCka K P) := by
  have GS : FnOk Pg w K mg base CX0 1 fS fdS ["value"] (spSeq2 K P) := ok_seq2 Sq'.F T.T.T
  have GB : FnOk Pg w K mg base CX0 2 fB fdB ["value", "bound"] (spNub P) := ok_nub Nb.F T.T.T Nu
  refine F.ok scCka (fun vs H Q E h => ?_) (fun cdv A outer s H vs Q E hr h => ?_)
  · obtain ⟨_, _, ⟨_, _, _, _, rfl, _⟩, _⟩ := h
    rfl
  · obtain ⟨t, _, ⟨fa, xs, v, ns, rfl, hf, ⟨a, rfl, ha⟩, hne, hlt, rfl⟩, k⟩ := h
    have r1 : Room 1 _ := hr.mono (by decide)
    refine ⟨_, (pss_cons (ps_if (PW.pt (pw_or (pt_not (pt_val (pe_call GS r1 (by rfl) Sq'.g Sq'.F.kp Sq'.b .nil pass0 (pa_cons (pv 1) pa_nil)))) (pw_or1 (pt_cmpR op_eq (pe_callB call_len_seq (by rfl) T.T.T.len (by decide +kernel) (pa_cons (pv 1) pa_nil)) pe_int (nomark _))))) pss_never pss_nil)
      (pss_cons (ps_for PassesOwn.never rfl (pi_sq (pv 1)) (pg_name (i := 2) scCka.nd rfl (Or.inl rfl)) (pss_one (ps_if (pt_not (pt_val (pe_call GB hr (by rfl) Nb.g Nb.F.kp Nb.b .nil pass0 (pa_cons (pv 2) (pa_cons (pe_callB call_len_seq (by rfl) T.T.T.len (by decide +kernel) (pa_cons (pv 0) pa_nil)) pa_nil))))) pss_never pss_nil)))
      (pss_one (ps_ret (pe_tupleOf (by rfl) T.T.T.tuple (pv 1)))))), ?_⟩
    have ln : (iV ns).length = ns.length := List.length_map _
    have l0 : ns.length ≠ 0 := fun e => hne (List.length_eq_zero_iff.mp e)
    refine ⟨_, rfl, t, _, ⟨a, _, rfl, ha, rfl⟩, fun v H1 s1 e => ⟨true, e, iteF ?_⟩⟩
    refine ⟨_, rfl, a, _, rfl, len_sq (ha.mono t s1), rfl, false, congrArg V.bl (decide_eq_false fun q => ?_), iteF ?_⟩
    · have := V.int.inj q
      omega
    refine for_sq (ha.mono t s1) (fun Q q => ⟨_, rfl, q⟩) (fun i σ H' => ∃ (v2 : Option V), σ = [some (.ref fa), some (.ref a), v2] ∧ Sm P H1 H') ⟨none, rfl, Sm.refl s1.2⟩ (fun i σ' H' ⟨_, _, s⟩ => sq_keep s1.2 s) ?_ ?_
    · rintro i x σ H' hx ⟨v2, rfl, s2⟩
      obtain ⟨n, hn, rfl⟩ := iV_at hx
      have hl := hlt n (List.mem_of_getElem? hn)
      have s12 := s1.trans s2
      refine ⟨_, rfl, _, rfl, fa, xs, rfl, .inr (s12.tup t hf), s2.2, _, ⟨_, _, rfl, by omega, by omega, rfl⟩, fun v H5 s5 e => ⟨true, e, iteF ?_⟩⟩
      exact ⟨_, rfl, s2.trans s5⟩
    · rintro σ H' ⟨v2, rfl, s2⟩
      have s12 := s1.trans s2
      exact ⟨_, rfl, tup_sq s12.2 (ha.mono t s12) fun z H2 s3 hz => k _ _ (s12.trans s3) ⟨z, rfl, hz⟩⟩
end
end K6

set_option Elab.async false
set_option linter.all false
set_option maxRecDepth 100000
set_option maxHeartbeats 4000000
namespace SoZl
open PySem PySem.Spec PyProof.Rows L2
theorem zip_no_len : typeLookup (.type "zip") "__len__" = pure none := by rw [typeLookup_type, builtinLookup_eq_fast]; kernel_rfl
theorem zip_no_hint : typeLookup (.type "zip") "__length_hint__" = pure none := by rw [typeLookup_type, builtinLookup_eq_fast]; kernel_rfl
/-- a zip of two lists at its turn i -/
def ZSt (S : Addr) (h : Heap) (z TI TO i1 i2 l1 l2 : Addr) (i : Nat) : Prop := IsPair h TI (.ref i1) (.ref i2) ∧ h.IsListIter i1 l1 i ∧ h.IsListIter i2 l2 i ∧
  ((IsZip h z TI TO .none ∧ ∃ a b, IsPair h TO a b) ∨ ∃ T f oT, IsZipHeld h z TI TO T f ∧ h.get? T = some oT ∧ T ≠ z ∧ T ≠ i1 ∧ T ≠ i2 ∧ T ≠ S)
section
variable {prog : Program} {w : World} {A : Around} {E : Value → Shared → Prop} {s : Shared} {S z TI TO i1 i2 l1 l2 : Addr} {i : Nat} {xs ys : Array Value} {x y : Value}
theorem zip_next {Q : Option Value → Shared → Prop} (D : ZipApart z TI TO i1 i2 l1 l2) (hS : S < s.heap.objs.size) (st : ZSt S s.heap z TI TO i1 i2 l1 l2 i) (hl1 : s.heap.IsList l1 xs) (hl2 : s.heap.IsList l2 ys) (hx : xs[i]? = some x) (hy : ys[i]? = some y)
    (hQ : ∀ h', ZSt S h' z TI TO i1 i2 l1 l2 (i + 1) → IsPair h' s.heap.objs.size x y → h'.objs.size = s.heap.objs.size + 1 → (∀ c o, c ≠ z → c ≠ TO → c ≠ i1 → c ≠ i2 → s.heap.get? c = some o → h'.get? c = some o) → Q (some (.ref s.heap.objs.size)) { s with heap := h' }) :
    wpAny (model prog w) A (pyNext (.ref z)) Q E s := by
  obtain ⟨hTI, h1, h2, hz⟩ := st
  have lt1 : i1 < s.heap.objs.size := by
    obtain ⟨_, e, _⟩ := h1
    exact Heap.lt_size e
  have lt2 : i2 < s.heap.objs.size := by
    obtain ⟨_, e, _⟩ := h2
    exact Heap.lt_size e
  rcases hz with ⟨hz, a, b, hTO⟩ | ⟨T, f, oT, hz, hT, n1, n2, n3, n4⟩
  · have ltz : z < s.heap.objs.size := Heap.lt_size hz
    refine wpAny_pyNext_zip_item D hz hTI hTO h1 h2 hl1 hl2 hx hy fun h' z' TO' h1' h2' hT hsz hk => hQ h' ⟨hk _ _ D.TIz D.TITO D.TIi1 D.TIi2 hTI, h1', h2', .inr ⟨s.heap.objs.size, false, _, z', hT, Nat.ne_of_gt ltz, Nat.ne_of_gt lt1, Nat.ne_of_gt lt2, Nat.ne_of_gt hS⟩⟩ hT hsz hk
  · refine wpAny_pyNext_zip_item_held D hz hT hTI h1 h2 hl1 hl2 hx hy fun h' z' h1' h2' hP hsz hk => hQ h' ⟨hk _ _ D.TIz D.TIi1 D.TIi2 hTI, h1', h2', .inr ⟨T, true, oT, z', hk _ _ n1 n2 n3 hT, n1, n2, n3, n4⟩⟩ hP hsz fun c o c1 _ c3 c4 e => hk c o c1 c3 c4 e
theorem zip_stop {Q : Option Value → Shared → Prop} (hh : A.handled = none) (D : ZipApart z TI TO i1 i2 l1 l2) (st : ZSt S s.heap z TI TO i1 i2 l1 l2 i) (hl1 : s.heap.IsList l1 xs) (hl2 : s.heap.IsList l2 ys) (he : xs[i]? = none ∨ ys[i]? = none)
    (hQ : ∀ h', (∀ c o, c ≠ z → c ≠ TO → c ≠ i1 → c ≠ i2 → s.heap.get? c = some o → h'.get? c = some o) → Q none { s with heap := h' }) : wpAny (model prog w) A (pyNext (.ref z)) Q E s := by
  obtain ⟨hTI, h1, h2, hz⟩ := st
  rcases hz with ⟨hz, a, b, hTO⟩ | ⟨T, f, oT, hz, hT, _⟩
  · exact wpAny_pyNext_zip_end hh D hz hTI hTO h1 h2 hl1 hl2 he fun h' hk => hQ h' hk
  · exact wpAny_pyNext_zip_end_held hh D hz hT hTI h1 h2 hl1 hl2 he fun h' hk => hQ h' fun c o c1 _ c3 c4 e => hk c o c1 c3 c4 e
end
/-- the list's tuples -/
def Zd (H : Hp) (ts : List Addr) (qs : List (V × V)) : Prop := Paired (fun (t : Addr) (q : V × V) => H t = some (.tup [q.1, q.2])) ts qs
theorem Zd.mono {H H' : Hp} : ∀ {ts : List Addr} {qs : List (V × V)}, (∀ t xs, H t = some (.tup xs) → H' t = some (.tup xs)) → Zd H ts qs → Zd H' ts qs
  | _, _, _, .nil => .nil
  | _, _, k, .cons h r => .cons (k _ _ h) (Zd.mono k r)
theorem paired_snoc {α β : Type} {R : α → β → Prop} {x : α} {y : β} (r : R x y) : ∀ {xs : List α} {ys : List β}, Paired R xs ys → Paired R (xs ++ [x]) (ys ++ [y])
  | _, _, .nil => .cons r .nil
  | _, _, .cons a t => .cons a (paired_snoc r t)
section
variable {X : Cx} {pins : List (Addr × Obj)} {σ : L2.St} {A : Around} {R : Result → Shared → Prop} {S z TI TO i1 i2 l1 l2 : Addr} {res : Value} {xs ys : List V}
theorem sql_keep {K : PySem.W.Frag} {H H' : Hp} {a : Addr} {us : List V} (n : a ≠ S) (k : ∀ b o, b ≠ S → H b = some o → H' b = some o) (h : SqL K H a us) : SqL K H' a us := by
  rcases h with (h | ⟨o, h⟩) | h
  · exact .inl (.inl (k _ _ n h))
  · exact .inl (.inr ⟨o, k _ _ n h⟩)
  · exact .inr h
theorem zip_loop (hh : A.handled = none) (D : ZipApart z TI TO i1 i2 l1 l2) (n1 : l1 ≠ S) (n2 : l2 ≠ S) (nS : S ∉ [z, TI, TO, i1, i2]) {n : Nat} (hn : n = min xs.length ys.length) (hz : n ≤ sizeLine) :
    ∀ (k i : Nat) (s : Shared) (H : Hp) (ts : List Addr), n - i = k → i ≤ n → Inv X pins σ H s → ZSt S s.heap z TI TO i1 i2 l1 l2 i → H S = some (.lst (ts.map V.ref)) → Zd H ts ((xs.zip ys).take i) → (∀ b ∈ [z, TI, TO, i1, i2], FpOk X pins H b ∧ b < s.heap.objs.size) →
      SqL X.K H l1 xs → SqL X.K H l2 ys →
      (∀ s' H' ts', Inv X pins σ H' s' → (∀ b o, b ≠ S → H b = some o → H' b = some o) → H' S = some (.lst (ts'.map V.ref)) → Zd H' ts' (xs.zip ys) → R (.ok (.ret res)) s') →
      codeAny (model X.prog X.w) A (.builtin "list.extend.loop" ⟨[.ref S, .ref z, res], []⟩) R s := by
  have lz : (xs.zip ys).length = n := by rw [List.length_zip, hn]
  intro k
  induction k with
  | zero =>
    intro i s H ts hk hi I st hS hts hf q1 q2 fin
    have hin : i = n := by omega
    subst hin
    obtain ⟨its, rv, p1, _⟩ := I.list q1
    obtain ⟨its2, rv2, p2, _⟩ := I.list q2
    have e1 := rv.length
    have e2 := rv2.length
    refine codeAny_builtin F.entry_extend_loop ?_
    rw [Around.under_plainId F.plain_extend_loop _]
    show wpAny _ A.in1 (pyNext (.ref z) >>= _) _ _ s
    refine wpAny_bind (zip_stop (show A.in1.handled = none from hh) D st p1.isList p2.isList ?_ fun h' hk' => ?_)
    · have : xs.length ≤ i ∨ ys.length ≤ i := by omega
      rcases this with q | q
      · exact .inl (by simp; omega)
      · exact .inr (by simp; omega)
    · rw [List.take_of_length_le (by omega)] at hts
      refine wpAny_pure (fin { s with heap := h' } H ts (I.turnedL (t' := s.toks) (ch := [z, TI, TO, i1, i2]) (fun c o hb q => hk' c o (fun q' => hb (by simp [q'])) (fun q' => hb (by simp [q'])) (fun q' => hb (by simp [q'])) (fun q' => hb (by simp [q'])) q) fun b hb => (hf b hb).1) (fun _ _ _ e => e) hS hts)
  | succ k ih =>
    intro i s H ts hk hi I st hS hts hf q1 q2 fin
    have hlt : i < n := by omega
    obtain ⟨its, rv, p1, _⟩ := I.list q1
    obtain ⟨its2, rv2, p2, _⟩ := I.list q2
    have hx : xs[i]? = some (xs[i]'(by omega)) := List.getElem?_eq_getElem (by omega)
    have hy : ys[i]? = some (ys[i]'(by omega)) := List.getElem?_eq_getElem (by omega)
    obtain ⟨u, hu, ru⟩ := rv.get hx
    obtain ⟨u2, hu2, ru2⟩ := rv2.get hy
    have hSl : S < s.heap.objs.size := (I.hok S _ hS).lt
    refine codeAny_builtin F.entry_extend_loop ?_
    rw [Around.under_plainId F.plain_extend_loop _]
    show wpAny _ A.in1 (pyNext (.ref z) >>= _) _ _ s
    refine wpAny_bind (zip_next (x := u) (y := u2) D hSl st p1.isList p2.isList (by simpa using hu) (by simpa using hu2) fun h' st' hT hsz hk' => ?_)
    have hn : H s.heap.objs.size = none := I.hok.fresh (Nat.le_refl _)
    have I1 : Inv X pins σ (upd H s.heap.objs.size (.tup [xs[i], ys[i]])) { s with heap := h' } :=
      I.turnedNew (t' := s.toks) (ch := [z, TI, TO, i1, i2]) (fun c o hb q => hk' c o (fun q' => hb (by simp [q'])) (fun q' => hb (by simp [q'])) (fun q' => hb (by simp [q'])) (fun q' => hb (by simp [q'])) q) (fun b hb => (hf b hb).1) (Nat.le_refl _)
        ⟨by show 2 ≤ sizeLine; decide, [u, u2], .cons ru (.cons ru2 .nil), ⟨_, hT, rfl, _, rfl⟩⟩
    have hS1 : upd H s.heap.objs.size (.tup [xs[i], ys[i]]) S = some (.lst (ts.map V.ref)) := by
      rw [upd_ne (Nat.ne_of_lt hSl)]
      exact hS
    have lts : ts.length = i := by
      have := Paired.length hts
      rw [this, List.length_take, lz]
      omega
    obtain ⟨_, ios, nn, r, hl, e⟩ := I1.lstM hS1
    have li : ios.length = i := by rw [← hl, List.length_map, lts]
    show wpAny _ A.in1 (updateSeq S (·.push (.ref s.heap.objs.size)) >>= _) _ _ _
    refine wpAny_bind ?_
    have I2 : Inv X pins σ (upd (upd H s.heap.objs.size (.tup [xs[i], ys[i]])) S (.lst ((ts ++ [s.heap.objs.size]).map V.ref))) { s with heap := h'.update S (Obj.mapSeq (·.push (.ref s.heap.objs.size))) } := by
      refine I1.lset (its' := ios ++ [.ref s.heap.objs.size]) (t' := s.toks) hS1 e (by simp) ?_ ?_
      · rw [List.map_append]
        exact r.append (.cons rfl .nil)
      · rw [List.length_map, List.length_append, lts]
        show i + 1 ≤ sizeLine
        omega
    refine wpAny_updateSeq e rfl (wpAny_pure ⟨plainId_quiet F.plain_extend_loop _, ih (i + 1) _ _ (ts ++ [s.heap.objs.size]) (by omega) hlt I2 ?_ upd_same ?_ ?_ ?_ ?_ ?_⟩) (by rw [List.size_toArray, li]; omega) (by show (ios.toArray.push _).size ≤ sizeLine + 1; rw [Array.size_push, List.size_toArray, li]; omega)
    · obtain ⟨t1, t2, t3, t4⟩ := st'
      have ks : ∀ b o, b ≠ S → h'.get? b = some o → (h'.update S (Obj.mapSeq (·.push (.ref s.heap.objs.size)))).get? b = some o := fun b o hb q => (Heap.get?_update_other _ _ (Ne.symm hb)).trans q
      have m : ∀ b, b ∈ [z, TI, TO, i1, i2] → b ≠ S := fun b hb q => nS (by rw [← q]; exact hb)
      refine ⟨ks _ _ (m _ (by simp)) t1, t2.at fun o q => ks _ _ (m _ (by simp)) q, t3.at fun o q => ks _ _ (m _ (by simp)) q, ?_⟩
      rcases t4 with ⟨g, a, b, g2⟩ | ⟨T, f, oT, g, gT, g1, g2, g3, g4⟩
      · exact .inl ⟨ks _ _ (m _ (by simp)) g, a, b, ks _ _ (m _ (by simp)) g2⟩
      · exact .inr ⟨T, f, oT, ks _ _ (m _ (by simp)) g, ks _ _ g4 gT, g1, g2, g3, g4⟩
    · have e3 : (xs.zip ys).take (i + 1) = (xs.zip ys).take i ++ [(xs[i], ys[i])] := by
        have hz : (xs.zip ys)[i]? = some (xs[i], ys[i]) := by
          rw [List.getElem?_zip_eq_some]
          exact ⟨hx, hy⟩
        rw [List.take_add_one, hz]
        rfl
      rw [e3]
      refine paired_snoc ?_ (Zd.mono (fun t us q => ?_) hts)
      · show upd (upd H s.heap.objs.size (.tup [xs[i], ys[i]])) S _ s.heap.objs.size = _
        rw [upd_ne (Nat.ne_of_gt hSl), upd_same]
      · rw [upd_ne (ne_of q hS (fun y => nomatch y)), upd_ne (ne_of_none q hn)]
        exact q
    · intro b hb
      obtain ⟨⟨f0, f1, f2, f3, f4, f5⟩, fl⟩ := hf b hb
      refine ⟨⟨?_, f1, f2, f3, f4, f5⟩, ?_⟩
      · rw [upd_ne (fun q => nS (by rw [← q]; exact hb)), upd_ne (Nat.ne_of_lt fl)]
        exact f0
      · show b < (h'.update S _).objs.size
        rw [Heap.size_update, hsz]
        exact Nat.lt_succ_of_lt fl
    · refine sql_keep (S := S) n1 (fun b o hb q => ?_) q1
      rw [upd_ne hb, upd_ne (ne_of_none q hn)]
      exact q
    · refine sql_keep (S := S) n2 (fun b o hb q => ?_) q2
      rw [upd_ne hb, upd_ne (ne_of_none q hn)]
      exact q
    · intro s' H' ts' J kk hS' hz'
      refine fin s' H' ts' J (fun b o hb q => kk b o hb ?_) hS' hz'
      rw [upd_ne hb, upd_ne (ne_of_none q hn)]
      exact q
theorem size_zl {Q : Bool → Shared → Prop} {s : Shared} {E : Value → Shared → Prop} (hT : s.TypeIs (.ref z) "zip") (hQ : Q true s) : wpAny (model X.prog X.w) A (Builtin.List.listLengthHint (.ref z)) Q E s := by
  unfold Builtin.List.listLengthHint
  refine wpAny_bind (wpAny_specialOf hT zip_no_len ?_)
  show wpAny _ A (specialOf (Value.ref z) (Str.ofString "__length_hint__") >>= _) _ _ _
  exact wpAny_bind (wpAny_specialOf hT zip_no_hint (wpAny_pure hQ))
theorem extend_zl {s : Shared} {H : Hp} (hh : A.handled = none) (D : ZipApart z TI TO i1 i2 l1 l2) (n1 : l1 ≠ S) (n2 : l2 ≠ S) (nS : S ∉ [z, TI, TO, i1, i2]) (hz : min xs.length ys.length ≤ sizeLine) (I : Inv X pins σ H s)
    (hzz : IsZip s.heap z TI TO .none) (hTI : IsPair s.heap TI (.ref i1) (.ref i2)) (hTO : ∃ a b, IsPair s.heap TO a b) (h1 : s.heap.IsListIter i1 l1 0) (h2 : s.heap.IsListIter i2 l2 0)
    (hS : H S = some (.lst [])) (hf : ∀ b ∈ [z, TI, TO, i1, i2], FpOk X pins H b ∧ b < s.heap.objs.size) (q1 : SqL X.K H l1 xs) (q2 : SqL X.K H l2 ys)
    (fin : ∀ s' H' ts', Inv X pins σ H' s' → (∀ b o, b ≠ S → H b = some o → H' b = some o) → H' S = some (.lst (ts'.map V.ref)) → Zd H' ts' (xs.zip ys) → R (.ok (.ret res)) s') :
    wpAny (model X.prog X.w) A.in1 (Builtin.List.listExtendWith (.ref S) (.ref z) res)
      (fun fin s' => match fin with | .done f => R (.ok f) s' | .again c' => c'.quiet = true ∧ codeAny (model X.prog X.w) A c' R s') (fun e s' => R (.error e) s') s := by
  have hT : s.TypeIs (.ref z) "zip" := ⟨_, hzz, rfl⟩
  have Sz : S ≠ z := fun e => nS (by simp [e])
  have hsame : Builtin.List.listSameRef (.ref S) (.ref z) = false := by simp [Builtin.List.listSameRef, Sz]
  unfold Builtin.List.listExtendWith
  refine wpAny_bind (wpAny_typeOf hT ?_)
  rw [if_neg (by rw [hsame]; decide)]
  refine wpAny_bind (wpAny_pyIter_zip hzz ?_)
  refine wpAny_bind (wpAny_holding (size_zl hT ?_))
  refine PySem.W.KFB.if_so rfl ?_
  refine wpAny_bind (wpAny_rule ?_)
  refine wpAny_bind ?_
  show wpAny _ _ (updateSeq S (·.push .none) >>= fun _ => updateSeq S (·.pop)) _ _ _
  obtain ⟨_, its, nn, r, hl, e⟩ := I.lstM hS
  cases r
  refine wpAny_bind (wpAny_updateSeq e rfl ?_)
  have I1 : Inv X pins σ (upd H S (.lst [V.non])) { s with heap := s.heap.update S (Obj.mapSeq (·.push Value.none)) } := I.lset (its' := [Value.none]) (t' := s.toks) hS e rfl (.cons rfl .nil) (by show 1 ≤ sizeLine; decide)
  obtain ⟨_, its, nn, r, hl, e'⟩ := I1.lstM upd_same
  have I2 : Inv X pins σ (upd (upd H S (.lst [V.non])) S (.lst [])) { s with heap := (s.heap.update S (Obj.mapSeq (·.push Value.none))).update S (Obj.mapSeq (·.pop)) } := by
    cases r with
    | cons r1 r2 =>
      cases r2
      exact I1.lset (its' := []) (t' := s.toks) upd_same e' rfl .nil (Nat.zero_le _)
  refine wpAny_updateSeq e' rfl ?_ (hz := by
    cases r with
    | cons r1 r2 =>
      cases r2
      seq_fits)
  have oth : ∀ b o, b ≠ S → s.heap.get? b = some o → ((s.heap.update S (Obj.mapSeq (·.push Value.none))).update S (Obj.mapSeq (·.pop))).get? b = some o :=
    fun b o hb e => (Heap.get?_update_other _ _ (Ne.symm hb)).trans ((Heap.get?_update_other _ _ (Ne.symm hb)).trans e)
  have m : ∀ b, b ∈ [z, TI, TO, i1, i2] → b ≠ S := fun b hb q => nS (by rw [← q]; exact hb)
  have up : ∀ b o, b ≠ S → H b = some o → upd (upd H S (.lst [V.non])) S (.lst []) b = some o := fun b o hb q => by
    rw [upd_ne hb, upd_ne hb]
    exact q
  obtain ⟨a, b, hTO⟩ := hTO
  refine wpAny_pure ⟨plainId_quiet F.plain_extend_loop _, zip_loop (n := min xs.length ys.length) hh D n1 n2 nS rfl hz _ 0 _ _ [] rfl (Nat.zero_le _) I2 ?_ upd_same .nil ?_ (sql_keep n1 up q1) (sql_keep n2 up q2) fun s' H' ts' J k e3 e4 => fin s' H' ts' J (fun b o hb q => k b o hb (up b o hb q)) e3 e4⟩
  · exact ⟨oth _ _ (m _ (by simp)) hTI, h1.at fun o q => oth _ _ (m _ (by simp)) q, h2.at fun o q => oth _ _ (m _ (by simp)) q, .inl ⟨oth _ _ (m _ (by simp)) hzz, a, b, oth _ _ (m _ (by simp)) hTO⟩⟩
  · intro b hb
    obtain ⟨⟨f0, f1, f2, f3, f4, f5⟩, fl⟩ := hf b hb
    refine ⟨⟨?_, f1, f2, f3, f4, f5⟩, ?_⟩
    · rw [upd_ne (m b hb), upd_ne (m b hb)]
      exact f0
    · show b < ((s.heap.update S (Obj.mapSeq (·.push Value.none))).update S (Obj.mapSeq (·.pop))).objs.size
      rw [Heap.size_update, Heap.size_update]
      exact fl
/-- list(zip(x, y)) of two lists: a new list of new pairs -/
def tLstZip (K : PySem.W.Frag) (ta : TA) : TE := fun σ H Q => ta σ H fun vs H1 => ∃ (a b : Addr) (xs ys : List V), vs = [.ref a, .ref b] ∧ SqL K H1 a xs ∧ SqL K H1 b ys ∧
  ∀ (H' : Hp) (p : Addr) (ts : List Addr), (∀ b o, H1 b = some o → H' b = some o) → H1 p = none → H' p = some (.lst (ts.map V.ref)) → Zd H' ts (xs.zip ys) → Q (.ref p) H'
theorem pe_lstZip {e e2 : Expr} {ta : TA} {p p2 pos pos2 : Pos} (hc : X.calm = true) (hg : Gl X "list") (hm : X.mg "list" = none) (hg2 : Gl X "zip") (hm2 : X.mg "zip" = none) (ha : PA X [e, e2] ta)
    (hs : starEach [e, e2] X.env = (false, eval e X.env) :: starEach [e2] X.env := by rfl) (hpl : (backTo pos2 (starEach [e2] X.env)).any (·.1) = false := by rfl)
    (hs2 : starEach [.Call (.Name "zip" p2) [e, e2] [] pos2] X.env = (false, eval (.Call (.Name "zip" p2) [e, e2] [] pos2) X.env) :: starEach [] X.env := by rfl) :
    PE X (.Call (.Name "list" p) [.Call (.Name "zip" p2) [e, e2] [] pos2] [] pos) (tLstZip X.K ta) := by
  refine ⟨fun pins s σ H Q I h => ?_⟩
  refine Call_ (ld_blt I hg hm boot_list (PyProof.Rows.callWith_type1 (args_cons (Call_ (ld_blt I hg2 hm2 PyProof.Rows.boot_zip (PyProof.Rows.callWith_type1 (thn (ha.run pos2 pins s σ H _ I h) fun us s1 ⟨vs, H1, I1, r1, q1⟩ => ?_) hs hpl))) hs2) hs2 rfl))
  obtain ⟨a, b, xs, ys, rfl, hqx, hqy, q⟩ := q1
  cases r1 with
  | cons r rr =>
    cases rr with
    | cons r' rr =>
      cases rr
      cases r
      cases r'
      obtain ⟨its, rv, p1, z1⟩ := I1.list hqx
      obtain ⟨its2, rv2, p2', z2⟩ := I1.list hqy
      have la : a < s1.heap.objs.size := p1.lt
      have lb : b < s1.heap.objs.size := p2'.lt
      refine call_zip_2 p1.isList p2'.isList fun h' hz hTI hTO h1 h2 hsz hk => args_nil ?_
      have I2 : Inv X pins σ H1 { s1 with heap := h' } := I1.kept (t' := s1.toks) hk
      have D := PySem.W.ktu_apart s1.heap.objs.size a b la lb
      have na : a ≠ h'.objs.size := by rw [hsz]; exact Nat.ne_of_lt (Nat.lt_add_right 5 la)
      have nb : b ≠ h'.objs.size := by rw [hsz]; exact Nat.ne_of_lt (Nat.lt_add_right 5 lb)
      obtain ⟨o1, ho1, g1⟩ := h1
      obtain ⟨o2, ho2, g2⟩ := h2
      have I3 : Inv X pins σ (upd H1 h'.objs.size (.lst [])) { s1 with heap := h'.push { cls := .type "list", data := .seq #[] } } := I2.laid (t' := s1.toks) (fun c o e => Heap.get?_push_of_some _ e) (Nat.le_refl _) (show ObjOk X.prog X.w _ _ _ (.lst []) from ⟨Nat.zero_le _, [], 0, .nil, Heap.get?_push_size _ rfl⟩)
      refine callType_codes (Q₁ := fun obj z => obj = .ref h'.objs.size ∧ z = { s1 with heap := h'.push { cls := .type "list", data := .seq #[] } }) F.called_list (F.typeCall_list_1 _) F.entry_list_init
        (code_list_new _ ⟨rfl, rfl⟩) fun obj z hz' => ?_
      obtain ⟨rfl, rfl⟩ := hz'
      have hS : (h'.push { cls := .type "list", data := .seq #[] }).get? h'.objs.size = some { cls := .type "list", data := .seq #[] } := Heap.get?_push_size _ rfl
      refine ⟨⟨_, hS, rfl⟩, F.args_list_init_2 _ _, ?_⟩
      show wpAny _ _ (do let old ← Builtin.List.listItems (.ref h'.objs.size); Builtin.List.listUpdate (.ref h'.objs.size) (fun _ => #[]); letGo old.toList.reverse; Builtin.List.listExtendWith (.ref h'.objs.size) (.ref (s1.heap.objs.size + 4)) .none) _ _ _
      refine wpAny_bind ?_
      unfold Builtin.List.listItems
      refine wpAny_bind (wpAny_seqItems hS rfl (wpAny_pure ?_))
      show wpAny _ _ (updateSeq h'.objs.size (fun _ => #[]) >>= fun _ => letGo (#[] : Array Value).toList.reverse >>= fun _ => Builtin.List.listExtendWith (.ref h'.objs.size) (.ref (s1.heap.objs.size + 4)) .none) _ _ _
      refine wpAny_bind (wpAny_updateSeq hS rfl ?_)
      refine wpAny_bind (wpAny_letGo ?_)
      have I4 := I3.lset (f := fun _ => #[]) (its' := []) (ys := []) (t' := s1.toks) upd_same (its := []) (n := 0) hS rfl .nil (Nat.zero_le _)
      have up : ∀ b o, b ≠ h'.objs.size → H1 b = some o → upd (upd H1 h'.objs.size (.lst [])) h'.objs.size (.lst []) b = some o := fun b o hb q => by
        rw [upd_ne hb, upd_ne hb]
        exact q
      have oth : ∀ b o, h'.get? b = some o → ((h'.push { cls := .type "list", data := .seq #[] }).update h'.objs.size (Obj.mapSeq (fun _ => (#[] : Array Value)))).get? b = some o :=
        fun b o e => (Heap.get?_update_other _ _ (Nat.ne_of_gt (Heap.lt_size e))).trans (Heap.get?_push_of_some _ e)
      have hn : H1 h'.objs.size = none := I2.hok.fresh (Nat.le_refl _)
      refine extend_zl (A := X.A.in1) (S := h'.objs.size) (I1.ok.hd hc) D na nb (by rw [hsz]; simp) (Nat.le_trans (Nat.min_le_left _ _) z1) I4 (oth _ _ hz) (oth _ _ hTI) ⟨_, _, oth _ _ hTO⟩ ⟨o1, oth _ _ ho1, g1⟩ ⟨o2, oth _ _ ho2, g2⟩ upd_same (fun c hcm => ?_) (sql_keep (S := h'.objs.size) na up hqx) (sql_keep (S := h'.objs.size) nb up hqy) fun s' H' ts' J k e3 e4 => ?_
      · have e' : c = s1.heap.objs.size + 4 ∨ c = s1.heap.objs.size + 2 ∨ c = s1.heap.objs.size + 3 ∨ c = s1.heap.objs.size ∨ c = s1.heap.objs.size + 1 := by simpa using hcm
        have hle : s1.heap.objs.size ≤ c ∧ c < s1.heap.objs.size + 5 := by
          rcases e' with y | y | y | y | y
          · rw [y]; exact ⟨Nat.le_add_right _ _, Nat.add_lt_add_left (by decide) _⟩
          · rw [y]; exact ⟨Nat.le_add_right _ _, Nat.add_lt_add_left (by decide) _⟩
          · rw [y]; exact ⟨Nat.le_add_right _ _, Nat.add_lt_add_left (by decide) _⟩
          · rw [y]; exact ⟨Nat.le_refl _, Nat.lt_add_of_pos_right (by decide)⟩
          · rw [y]; exact ⟨Nat.le_add_right _ _, Nat.add_lt_add_left (by decide) _⟩
        have cn : c ≠ h'.objs.size := by rw [hsz]; exact Nat.ne_of_lt hle.2
        obtain ⟨f0, f1, f2, f3, f4, f5⟩ := I1.fpOk (H' := H1) hle.1 (I1.hok.fresh hle.1)
        refine ⟨⟨?_, f1, f2, f3, f4, f5⟩, ?_⟩
        · rw [upd_ne cn, upd_ne cn]
          exact f0
        · show c < ((h'.push _).update _ _).objs.size
          rw [Heap.size_update, Heap.size_push, hsz]
          exact Nat.lt_succ_of_lt hle.2
      · exact ⟨rfl, .ref h'.objs.size, H', J, rfl, q H' _ ts' (fun b o e => k b o (ne_of_none e hn) (up b o (ne_of_none e hn) e)) hn e3 e4⟩
end
end SoZl

set_option Elab.async false
set_option linter.all false
set_option maxRecDepth 100000
set_option maxHeartbeats 4000000
namespace SoCt
open PySem PySem.Spec PyProof.Rows L2
theorem count_vals {y : V} : ∀ {xs : List V} {us : List Value}, Vals xs us → xs.all flatV = true → us.countP (eqU y) = xs.countP fun x => eqV x y
  | _, _, .nil, _ => rfl
  | x :: xs, u :: us, .cons r t, h => by
    rw [List.all_cons, Bool.and_eq_true] at h
    rw [List.countP_cons, List.countP_cons, count_vals t h.2, eqU_of r h.1]
def rCntV (K : PySem.W.Frag) : V → List V → Hp → VK → Prop := fun x xs H Q => ∃ (p : Addr) (ys : List V) (y : V), x = .ref p ∧ xs = [y] ∧ SqL K H p ys ∧ flatV y = true ∧ ys.all flatV = true ∧ Q (.int (ys.countP (fun z => eqV z y) : Nat)) H
theorem mt_lcountV {X : Cx} : MtR X "list.count" (rCntV X.K) := by
  intro pins s σ H x xs v us Q I rx rxs h
  obtain ⟨p, ys, y, rfl, rfl, hs, fy, fys, q⟩ := h
  cases rx
  obtain ⟨u, rfl, ru⟩ := rxs.one
  obtain ⟨its, rv, ⟨⟨cls, dd, data, sl⟩, n, ho, hc, hdn, hd⟩, hlen⟩ := I.list hs
  simp only at hc hd
  subst hc hd
  refine call_meets PySem.F.slot_list_count ⟨_, ho, rfl⟩ PySem.F.entry_list_count (PySem.F.args_list_count_2 _ _)
    (SeqAt.list_countAt p its.toArray n dd sl u (eqU y)) ⟨ho, fun u' hu' => mem_eqAt ru fy rv fys u' (by simpa using hu'), ?_⟩
  have ec : its.toArray.toList.countP (eqU y) = ys.countP fun z => eqV z y := count_vals rv fys
  refine ⟨.int (ys.countP (fun z => eqV z y) : Nat), H, I.tok _, ⟨s.toks, ?_⟩, q⟩
  show Value.int ((its.toArray.toList.countP (eqU y) : Nat) : Int) s.toks = Value.int ((ys.countP (fun z => eqV z y) : Nat) : Int) s.toks
  rw [ec]
theorem count_str (L : List Str) (z : Str) : (L.map V.str).countP (fun x => eqV x (.str z)) = L.count z := by
  induction L with
  | nil => rfl
  | cons a r ih =>
    rw [List.map_cons, List.countP_cons, List.count_cons, ih]
    rfl
end SoCt

set_option Elab.async false
set_option linter.all false
set_option maxRecDepth 100000
set_option maxHeartbeats 4000000
namespace K6
open PySem PySem.Spec PyProof.Rows L2 So
/-! ### comprehensions that choose and tell -/
def sel (c : Nat → Bool) (p : Nat → V) (n : Nat) : List V := ((List.range n).filter c).map p
theorem sel_yes {c : Nat → Bool} {p : Nat → V} {n : Nat} (h : c n = true) : sel c p (n + 1) = sel c p n ++ [p n] := by
  unfold sel
  rw [List.range_succ, List.filter_append, List.map_append]
  simp [h]
theorem sel_no {c : Nat → Bool} {p : Nat → V} {n : Nat} (h : c n = false) : sel c p (n + 1) = sel c p n := by
  unfold sel
  rw [List.range_succ, List.filter_append, List.map_append]
  simp [h]
theorem sel_len (c : Nat → Bool) (p : Nat → V) (n : Nat) : (sel c p n).length ≤ n := by
  unfold sel
  rw [List.length_map]
  exact Nat.le_trans (List.length_filter_le _ _) (by rw [List.length_range]; exact Nat.le_refl _)
theorem lc_sel {J : It} {n : Nat} {G : Hp → Prop} {Y : Nat → Hp → V → Hp → Prop} {P D : Addr} {H1 : Hp} {g : TG} {tt : TT} {te : TE} {vs : List Nat} {σ : L2.St} {Qd : Hp → Prop} (w : Walk J n G Y) (t : GxR.TabG H1 P) (hD : H1 D = none) (hn : n ≤ 9000)
    (hG : ∀ H', Sm P H1 H' → G H') (c : Nat → Bool) (p : Nat → V)
    (hs : ∀ i x H H' (Qe : V → Hp → Prop) (N : Hp → Prop), i < n → Sm P H1 H → Y i H x H' → (c i = true → ∀ H4, Sm P H H4 → Qe (p i) H4) → (c i = false → ∀ H4, Sm P H H4 → N H4) →
      g x (wipe σ vs) H' fun σ2 H2 => wipe σ2 vs = wipe σ vs ∧ tt σ2 H2 fun b H3 => if b = true then te σ2 H3 Qe else N H3)
    (hd : ∀ H2, Sm P H1 H2 → H2 D = some (.lst (sel c p n)) → Qd H2) :
    ∃ W : Nat → Nat → Hp → Prop, (∃ m, W 0 m (upd H1 D (.lst []))) ∧ ∀ i m H, W i m H →
      (J.stop i H ∧ Qd H) ∨ (J.go i H ∧ ∃ Nx : Hp → Prop, (∀ H', Nx H' → ∃ m', m' < m ∧ W (i + 1) m' H') ∧ ∀ x H', J.yld i H x H' → g x (wipe σ vs) H' fun σ2 H2 => wipe σ2 vs = wipe σ vs ∧ tt σ2 H2 fun b H3 =>
        if b = true then te σ2 H3 fun y H4 => ∃ acc, H4 D = some (.lst acc) ∧ acc.length < sizeLine ∧ Nx (upd H4 D (.lst (acc ++ [y]))) else Nx H3) := by
  have DP := nPt t hD
  refine lc_it w (fun i H => Sm P H1 H ∧ H D = some (.lst (sel c p i))) ⟨Sm.new t hD, upd_same⟩ (fun i H _ q => hG H q.1) ?_ (fun H q => hd H q.1 q.2)
  rintro i x H H' hi ⟨s, q⟩ y
  refine hs i x H H' _ _ hi s y (fun ci H4 s4 => ?_) (fun ci H4 s4 => ?_)
  · have q4 := s4.atL s.2 q
    refine ⟨_, q4, Nat.lt_of_le_of_lt (Nat.le_trans (sel_len c p i) (by omega : i ≤ 9000)) (by decide), (s.trans s4).mut hD DP, ?_⟩
    rw [upd_same, sel_yes ci]
  · refine ⟨s.trans s4, ?_⟩
    rw [sel_no ci]
    exact s4.atL s.2 q
theorem sel_all (p : Nat → Bool) (n : Nat) : sel (fun _ => true) (fun i => .bl (p i)) n = ((List.range n).map p).map V.bl := by
  unfold sel
  rw [List.filter_eq_self.mpr (fun _ _ => rfl), List.map_map]
  rfl
/-! ### rows of bools -/
def bt (r : List Bool) (i : Nat) : Bool := r.getD i false
def aV (rs : List (List Bool)) : List (List V) := rs.map bV
theorem bV_bt {r : List Bool} {i : Nat} (h : i < r.length) : (bV r)[i]? = some (.bl (bt r i)) := by
  unfold bV bt
  rw [List.getElem?_map]
  simp [h]
theorem aV_at {rs : List (List Bool)} {i : Nat} {ys : List V} (h : (aV rs)[i]? = some ys) : ∃ r, rs[i]? = some r ∧ ys = bV r := by
  unfold aV at h
  rw [List.getElem?_map] at h
  cases e : rs[i]? with
  | none =>
    rw [e] at h
    cases h
  | some y =>
    rw [e] at h
    exact ⟨y, rfl, (Option.some.inj h).symm⟩
def lat (f g : Nat) : Bool → List (List Bool) → Bool
  | _, [] => false
  | met, r :: rs => (met && bt r g) || lat f g (met || bt r f) rs
def nxt (f g : Nat) (rs : List (List Bool)) : Bool := (List.range (min rs.length (rs.drop 1).length)).any fun i => bt (rs.getD i []) f && bt (rs.getD (i + 1) []) g
def many (f : Nat) (rs : List (List Bool)) : Nat := (rs.filter fun r => bt r f).length
def ofInner (number : Nat) (rs : List (List Bool)) : Fa → Bool
  | .two .later f g => lat f g false rs
  | .two .next f g => nxt f g rs
  | .one .first f => decide (0 < rs.length) && bt (rs.getD 0 []) f
  | .one .last f => decide (0 < rs.length) && bt (rs.getD (rs.length - 1) []) f
  | .one .inside f => rs.any fun r => bt r f || bt r number
  | .chi f n => decide (n ≤ many f rs)
  | .mdl f m r => decide (many f rs % m = r)
  | _ => false
/-- a list of tuples of bools -/
def RwL (K : PySem.W.Frag) (H : Hp) (a : Addr) (rs : List (List Bool)) : Prop := ∃ xs, SqL K H a xs ∧ Paired (ItS (SqT K) H) xs (aV rs)
section
variable {K : PySem.W.Frag} {P a : Addr} {H H' : Hp} {rs : List (List Bool)}
theorem RwL.mono (t : GxR.TabG H P) (s : Sm P H H') (h : RwL K H a rs) : RwL K H' a rs := by
  obtain ⟨xs, h1, h2⟩ := h
  exact ⟨xs, s.lst t h1, paired_mono (fun _ _ h => h.mono mo_tup t s) h2⟩
theorem rw_at {xs : List V} {i : Nat} {x : V} (h : Paired (ItS (SqT K) H) xs (aV rs)) (e : xs[i]? = some x) : ∃ r b, rs[i]? = some r ∧ x = .ref b ∧ SqT K H b (bV r) := by
  obtain ⟨ys, hy, b, rfl, hb⟩ := paired_get h e
  obtain ⟨r, hr, rfl⟩ := aV_at hy
  exact ⟨r, b, hr, rfl, hb⟩
theorem rw_len {xs : List V} (h : Paired (ItS (SqT K) H) xs (aV rs)) : xs.length = rs.length := by
  have := Paired.length h
  rw [this]
  unfold aV
  rw [List.length_map]
end
end K6

set_option Elab.async false
set_option linter.all false
set_option maxRecDepth 100000
set_option maxHeartbeats 4000000
namespace K6
open PySem PySem.Spec PyProof.Rows L2 So
/-- one[fact[1]] and other[fact[2]] -/
def tNx (K : PySem.W.Frag) : TE := fun σ H Q => ∃ (fa b c : Addr) (w : Tw) (f g : Nat) (r s : List Bool), σ[0]? = some (some (.ref fa)) ∧ σ[3]? = some (some (.ref b)) ∧ σ[4]? = some (some (.ref c)) ∧ SqT K H fa (Fa.two w f g).vs ∧ SqT K H b (bV r) ∧ SqT K H c (bV s) ∧ f < r.length ∧ g < s.length ∧ Q (.bl (bt r f && bt s g)) H
theorem nx_of {K : PySem.W.Frag} : ∀ σ H Q, tNx K σ H Q → tAndV (tOp (rIxT K) (tVar 3) (tOp (rIxT K) (tVar 0) (tC (.int 1)))) (tOp (rIxT K) (tVar 4) (tOp (rIxT K) (tVar 0) (tC (.int 2)))) σ H Q := by
  rintro σ H Q ⟨fa, b, c, w, f, g, r, s, e0, e3, e4, hf, hb, hc, l1, l2, q⟩
  refine ⟨_, e3, _, e0, fa, _, _, _, rfl, rfl, hf, atI_nat (j := 1) rfl, b, _, _, _, rfl, rfl, hb, atI_nat (bV_bt l1), bt r f, rfl, ?_⟩
  cases e : bt r f with
  | true =>
    refine iteT ⟨_, e4, _, e0, fa, _, _, _, rfl, rfl, hf, atI_nat (j := 2) rfl, c, _, _, _, rfl, rfl, hc, atI_nat (bV_bt l2), ?_⟩
    rw [e, Bool.true_and] at q
    exact q
  | false =>
    rw [e, Bool.false_and] at q
    exact iteF q
section
variable {Pg : Program} {w : World} {K : PySem.W.Frag} {mg : Str → Option Value} {base : Heap} {P d J : Addr}
abbrev sLat : Stmt := top 30
theorem scLat : FnScope ["fact", "inner", "met", "told"] ["fact", "inner"] (defScope sLat) := ⟨rfl, rfl, rfl, by decide +kernel, rfl, by decide +kernel, by decide +kernel⟩
def spTwo (K : PySem.W.Frag) (P : Addr) (F : Nat → Nat → List (List Bool) → Bool) : Sp := Pu P fun vs H R => ∃ (fa a : Addr) (w : Tw) (f g : Nat) (rs : List (List Bool)), vs = [.ref fa, .ref a] ∧ SqT K H fa (Fa.two w f g).vs ∧ RwL K H a rs ∧ (∀ r ∈ rs, f < r.length ∧ g < r.length) ∧ rs.length ≤ 1000 ∧ R = fun v _ => v = .bl (F f g rs)
theorem ok_lat {f : Addr} {fd : FuncData} (F : Fun K "_is_later" "_is_later" sLat f fd) (T : Tz K w mg d J) : FnOk Pg w K mg base CX0 1 f fd ["fact", "inner"] (spTwo K P fun f g rs => lat f g false rs) := by
  refine F.ok scLat (fun vs H Q E h => ?_) (fun cdv A outer s H vs Q E hr h => ?_)
  · obtain ⟨_, _, ⟨_, _, _, _, _, _, rfl, _⟩, _⟩ := h
    rfl
  · obtain ⟨t, _, ⟨fa, a, w, f, g, rs, rfl, hf, ⟨xs, ha, hp⟩, hl, hn, rfl⟩, k⟩ := h
    refine ⟨_, (pss_cons (ps_set (i := 2) scLat.nd rfl (Or.inl rfl) pe_bl)
      (pss_cons (ps_for PassesOwn.never rfl (pi_list (pv 1)) (pg_name (i := 3) scLat.nd rfl (Or.inl rfl)) (pss_cons (ps_if (PW.pt (pw_and (pt_val (pv 2)) (pw_and1 (pt_val (pe_ix ix_tup (pv 3) (pe_ix ix_tup (pv 0) pe_int (fun _ _ => rfl)) (fun _ _ => rfl)))))) (pss_one (ps_ret pe_bl)) pss_nil)
      (pss_one (ps_set (i := 2) scLat.nd rfl (Or.inl rfl) (pe_or (pv 2) (pe_one (pe_ix ix_tup (pv 3) (pe_ix ix_tup (pv 0) pe_int (fun _ _ => rfl)) (fun _ _ => rfl))))))))
      (pss_one (ps_ret pe_bl)))), ?_⟩
    have lx := rw_len hp
    refine ⟨_, rfl, a, rfl, ⟨_, ha⟩, for_list (K := K) (a := a) (xs := xs) (fun i σ H' => ∃ (met : Bool) (v3 : Option V), σ = [some (.ref fa), some (.ref a), some (.bl met), v3] ∧ Sm P H H' ∧ lat f g met (rs.drop i) = lat f g false rs) ⟨false, none, rfl, Sm.refl t, rfl⟩ (fun i σ H' _ ⟨_, _, _, s, _⟩ => s.lst t ha) ?_ ?_⟩
    · rintro i x σ H' hx ⟨met, v3, rfl, s1, e⟩
      obtain ⟨r, b, hr, rfl, hb⟩ := rw_at hp hx
      obtain ⟨l1, l2⟩ := hl r (List.mem_of_getElem? hr)
      have hi : i < rs.length := (List.getElem?_eq_some_iff.mp hr).1
      have ed : rs.drop i = r :: rs.drop (i + 1) := by
        rw [List.drop_eq_getElem_cons hi]
        congr 1
        exact (List.getElem?_eq_some_iff.mp hr).2
      rw [ed, lat] at e
      have hb1 := s1.tup t hb
      have hf1 := s1.tup t hf
      have nx : ∀ (met' : Bool) (σ2 : L2.St), met' = (met || bt r f) → σ2 = [some (.ref fa), some (.ref a), some (.bl met'), some (.ref b)] → (met && bt r g) = false → ∃ (met : Bool) (v3 : Option V), σ2 = [some (.ref fa), some (.ref a), some (.bl met), v3] ∧ Sm P H H' ∧ lat f g met (rs.drop (i + 1)) = lat f g false rs := fun met' σ2 e1 e2 e3 => ⟨met', _, e2, s1, by
        rw [e3, Bool.false_or] at e
        rw [e1]
        exact e⟩
      cases met with
      | false =>
        refine ⟨_, rfl, false, rfl, iteF ?_⟩
        refine ⟨_, rfl, false, rfl, iteF ⟨_, rfl, _, rfl, fa, _, _, _, rfl, rfl, hf1, atI_nat (j := 1) rfl, b, _, _, _, rfl, rfl, hb1, atI_nat (bV_bt l1), ?_⟩⟩
        exact nx _ _ (by rw [Bool.false_or]) rfl rfl
      | true =>
        refine ⟨_, rfl, true, rfl, iteT ⟨_, rfl, _, rfl, fa, _, _, _, rfl, rfl, hf1, atI_nat (j := 2) rfl, b, _, _, _, rfl, rfl, hb1, atI_nat (bV_bt l2), bt r g, rfl, ?_⟩⟩
        cases eg : bt r g with
        | true =>
          refine iteT (k _ _ s1 ?_)
          show V.bl true = V.bl (lat f g false rs)
          rw [← e, eg]
          rfl
        | false =>
          refine iteF ⟨_, rfl, true, rfl, iteT ?_⟩
          exact nx _ _ (by rw [Bool.true_or]) rfl (by rw [eg]; rfl)
    · rintro σ H' ⟨met, v3, rfl, s1, e⟩
      rw [lx, List.drop_length] at e
      exact k _ _ s1 (congrArg V.bl e)
/-! ### _is_next -/
abbrev sNxt : Stmt := top 31
theorem scNxt : FnScope ["fact", "inner", "pairs", "one", "other"] ["fact", "inner"] (defScope sNxt) := ⟨rfl, rfl, rfl, by decide +kernel, rfl, by decide +kernel, by decide +kernel⟩
theorem zd_at {H : Hp} : ∀ {ts : List Addr} {qs : List (V × V)} {i : Nat} {x : V}, SoZl.Zd H ts qs → (ts.map V.ref)[i]? = some x → ∃ t q, x = .ref t ∧ qs[i]? = some q ∧ H t = some (.tup [q.1, q.2])
  | _, _, _, _, .nil, e => by simp at e
  | t :: _, q :: _, 0, _, .cons h _, e => by
    cases e
    exact ⟨t, q, rfl, rfl, h⟩
  | _, _, i + 1, _, .cons _ r, e => by
    obtain ⟨t, q, h1, h2, h3⟩ := zd_at (i := i) r (by simpa using e)
    exact ⟨t, q, h1, by simpa using h2, h3⟩
theorem ok_nxt {f : Addr} {fd : FuncData} (F : Fun K "_is_next" "_is_next" sNxt f fd) (T : Tz K w mg d J) : FnOk Pg w K mg base CX0 1 f fd ["fact", "inner"] (spTwo K P nxt) := by
  refine F.ok scNxt (fun vs H Q E h => ?_) (fun cdv A outer s H vs Q E hr h => ?_)
  · obtain ⟨_, _, ⟨_, _, _, _, _, _, rfl, _⟩, _⟩ := h
    rfl
  · obtain ⟨t, _, ⟨fa, a, w, f, g, rs, rfl, hf, ⟨xs, ha, hp⟩, hl, hn, rfl⟩, k⟩ := h
    refine ⟨_, (pss_cons (ps_set (i := 2) scNxt.nd rfl (Or.inl rfl) (SoZl.pe_lstZip rfl (by rfl) T.T.T.list (by rfl) T.T.zip (pa_cons (pv 1) (pa_cons (pe_slice sl_list (pv 1) (po_some pe_int) po_none) pa_nil))))
      (pss_one (ps_ret (pe_callB (cr_any rfl) (by rfl) T.T.any (by decide +kernel) (pa_cons (pe_lc (own := [("one", 3), ("other", 4)]) (g := (gTup K 2 (gCons (gName 3) (gCons (gName 4) gNil)))) (tt := tYes) rfl scNxt.nd (pi_list (pv 2)) (blkOk_by (N := ["fact", "inner", "pairs", "one", "other"]) (sc := defScope sNxt) (by decide +kernel)) (fun _ _ _ _ _ => show PG _ _ (gTup K 2 (gCons (gName 3) (gCons (gName 4) gNil))) from pg_tup rfl (pgs_cons (pg_name (i := 3) scNxt.nd rfl (Or.inl rfl)) (pgs_cons (pg_name (i := 4) scNxt.nd rfl (Or.inl rfl)) pgs_nil))) (fun _ _ _ _ _ => pts_nil) (fun _ _ _ _ _ => show PE _ _ (tNx K) from pe_weak (pe_and (pe_ix ix_tup (pv 3) (pe_ix ix_tup (pv 0) pe_int (fun _ _ => rfl)) (fun _ _ => rfl)) (pe_one (pe_ix ix_tup (pv 4) (pe_ix ix_tup (pv 0) pe_int (fun _ _ => rfl)) (fun _ _ => rfl)))) nx_of)) pa_nil))))), ?_⟩
    have lx := rw_len hp
    have cut1 : cutV xs (some 1) none = xs.drop 1 := by
      cases xs with
      | nil => rfl
      | cons x r => simp [cutV, HT.sIx]
    refine ⟨_, rfl, _, rfl, 1, rfl, a, xs, rfl, ha, fun p hp1 => ?_⟩
    have s1 : Sm P H (upd H p (.lst (cutV xs (some 1) none))) := Sm.new t hp1
    refine ⟨a, p, xs, xs.drop 1, rfl, s1.lst t ha, by rw [← cut1]; exact SqL.of upd_same, fun H2 D ts k2 hD hDl hz => ?_⟩
    have s2 : Sm P (upd H p (.lst (cutV xs (some 1) none))) H2 := ⟨fun b o _ e => k2 b o e, by
      obtain ⟨ps, e, r⟩ := s1.2
      exact ⟨ps, k2 _ _ e, r⟩⟩
    have s12 := s1.trans s2
    unfold gName
    dsimp only
    refine ret_of (cb1_of ?_)
    have lz : ts.length = (xs.zip (xs.drop 1)).length := Paired.length hz
    refine ⟨_, rfl, D, rfl, ⟨_, SqL.of hDl⟩, fun E2 hE2 => ?_⟩
    have nn : (ts.map V.ref).length = min rs.length (rs.drop 1).length := by
      rw [List.length_map, lz, List.length_zip, List.length_drop, List.length_drop, lx]
    refine lc_sel (P := P) (walk_list (K := K) (a := D) (xs := ts.map V.ref)) s12.2 hE2 (by rw [nn]; omega) (fun H' s => SqL.of (s.atL s12.2 hDl)) (fun _ => true) (fun i => .bl (bt (rs.getD i []) f && bt (rs.getD (i + 1) []) g)) ?_ ?_
    · rintro i x H3 H4 Qe N hi s3 ⟨rfl, hy⟩ hq _
      obtain ⟨T1, q, rfl, hq2, hT1⟩ := zd_at hz hy
      rw [List.getElem?_zip_eq_some, List.getElem?_drop, Nat.add_comm] at hq2
      obtain ⟨r, b, hr, eb, hb⟩ := rw_at hp hq2.1
      obtain ⟨r2, c, hr2, ec, hc⟩ := rw_at hp hq2.2
      have s13 := s12.trans s3
      have hT3 := s3.1 _ _ (tab_tup s12.2 hT1 (fun _ q => nomatch q)) hT1
      rw [eb, ec] at hT3
      refine ⟨T1, _, rfl, .inl (.inl hT3), rfl, _, _, rfl, _, _, rfl, rfl, rfl, fa, b, c, w, f, g, r, r2, rfl, rfl, rfl, s13.tup t hf, s13.tup t hb, s13.tup t hc, (hl r (List.mem_of_getElem? hr)).1, (hl r2 (List.mem_of_getElem? hr2)).2, ?_⟩
      have := hq rfl H4 (Sm.refl s3.2)
      rw [List.getD_eq_getElem?_getD, List.getD_eq_getElem?_getD, hr, hr2] at this
      exact this
    · intro H3 s3 e3
      rw [sel_all] at e3
      refine ⟨E2, _, rfl, SqL.of e3, k _ _ (s12.trans s3) ?_⟩
      rw [nn]
      unfold nxt
      rw [List.any_map]
      rfl
/-! ### of_joined -/
abbrev sJoi : Stmt := top 33
theorem scJoi : FnScope ["fact", "told"] ["fact", "told"] (defScope sJoi) := ⟨rfl, rfl, rfl, by decide +kernel, rfl, by decide +kernel, by decide +kernel⟩
def joined (told : List Bool) : Fa → Bool
  | .one .not f => !bt told f
  | .two .and f g => bt told f && bt told g
  | .two .or f g => bt told f || bt told g
  | _ => false
def isJ : Fa → Bool
  | .one .not _ => true
  | .two .and _ _ => true
  | .two .or _ _ => true
  | _ => false
def spJoi (K : PySem.W.Frag) (P : Addr) : Sp := Pu P fun vs H R => ∃ (fa a : Addr) (f : Fa) (told : List Bool), vs = [.ref fa, .ref a] ∧ SqT K H fa f.vs ∧ SqL K H a (bV told) ∧ isJ f = true ∧ f.ok told.length ∧ R = fun v _ => v = .bl (joined told f)
theorem ok_joi {f : Addr} {fd : FuncData} (F : Fun K "of_joined" "of_joined" sJoi f fd) (T : Tz K w mg d J) : FnOk Pg w K mg base CX0 1 f fd ["fact", "told"] (spJoi K P) := by
  refine F.ok scJoi (fun vs H Q E h => ?_) (fun cdv A outer s H vs Q E hr h => ?_)
  · obtain ⟨_, _, ⟨_, _, _, _, rfl, _⟩, _⟩ := h
    rfl
  · obtain ⟨t, _, ⟨fa, a, f, told, rfl, hf, ha, hj, ok, rfl⟩, k⟩ := h
    refine ⟨_, (pss_cons (ps_if (pt_cmpR op_eq (pe_ix ix_tup (pv 0) pe_int (fun _ _ => rfl)) pe_str (nomark _)) (pss_one (ps_ret (pe_not (pe_ix ix_list (pv 1) (pe_ix ix_tup (pv 0) pe_int (fun _ _ => rfl)) (fun _ _ => rfl))))) pss_nil)
      (pss_cons (ps_if (pt_cmpR op_eq (pe_ix ix_tup (pv 0) pe_int (fun _ _ => rfl)) pe_str (nomark _)) (pss_one (ps_ret (pe_and (pe_ix ix_list (pv 1) (pe_ix ix_tup (pv 0) pe_int (fun _ _ => rfl)) (fun _ _ => rfl)) (pe_one (pe_ix ix_list (pv 1) (pe_ix ix_tup (pv 0) pe_int (fun _ _ => rfl)) (fun _ _ => rfl)))))) pss_nil)
      (pss_one (ps_ret (pe_or (pe_ix ix_list (pv 1) (pe_ix ix_tup (pv 0) pe_int (fun _ _ => rfl)) (fun _ _ => rfl)) (pe_one (pe_ix ix_list (pv 1) (pe_ix ix_tup (pv 0) pe_int (fun _ _ => rfl)) (fun _ _ => rfl)))))))), ?_⟩
    have K0 := k
    cases f with
    | one w f =>
      cases w with
      | not =>
        refine ⟨_, rfl, fa, _, _, _, rfl, rfl, hf, atI_nat (j := 0) rfl, rfl, _, rfl, iteE ?_⟩
        exact ⟨_, rfl, _, rfl, fa, _, _, _, rfl, rfl, hf, atI_nat (j := 1) rfl, a, _, _, _, rfl, rfl, ha, atI_nat (bV_bt ok), bt told f, rfl, k _ _ (Sm.refl t) rfl⟩
      | _ => cases hj
    | two w f g =>
      cases w with
      | and =>
        refine ⟨_, rfl, fa, _, _, _, rfl, rfl, hf, atI_nat (j := 0) rfl, rfl, _, rfl, iteN (by show decide (("and" : Str) = "not") = false; decide +kernel) ⟨_, rfl, fa, _, _, _, rfl, rfl, hf, atI_nat (j := 0) rfl, rfl, _, rfl, iteE ?_⟩⟩
        refine ⟨_, rfl, _, rfl, fa, _, _, _, rfl, rfl, hf, atI_nat (j := 1) rfl, a, _, _, _, rfl, rfl, ha, atI_nat (bV_bt ok.1), bt told f, rfl, ?_⟩
        cases e : bt told f with
        | true => exact iteT ⟨_, rfl, _, rfl, fa, _, _, _, rfl, rfl, hf, atI_nat (j := 2) rfl, a, _, _, _, rfl, rfl, ha, atI_nat (bV_bt ok.2), k _ _ (Sm.refl t) (by show _ = V.bl (bt told f && bt told g); rw [e]; rfl)⟩
        | false => exact iteF (k _ _ (Sm.refl t) (by show _ = V.bl (bt told f && bt told g); rw [e]; rfl))
      | or =>
        refine ⟨_, rfl, fa, _, _, _, rfl, rfl, hf, atI_nat (j := 0) rfl, rfl, _, rfl, iteN (by show decide (("or" : Str) = "not") = false; decide +kernel) ⟨_, rfl, fa, _, _, _, rfl, rfl, hf, atI_nat (j := 0) rfl, rfl, _, rfl, iteN (by show decide (("or" : Str) = "and") = false; decide +kernel) ?_⟩⟩
        refine ⟨_, rfl, _, rfl, fa, _, _, _, rfl, rfl, hf, atI_nat (j := 1) rfl, a, _, _, _, rfl, rfl, ha, atI_nat (bV_bt ok.1), bt told f, rfl, ?_⟩
        cases e : bt told f with
        | true => exact iteT (k _ _ (Sm.refl t) (by show _ = V.bl (bt told f || bt told g); rw [e]; rfl))
        | false => exact iteF ⟨_, rfl, _, rfl, fa, _, _, _, rfl, rfl, hf, atI_nat (j := 2) rfl, a, _, _, _, rfl, rfl, ha, atI_nat (bV_bt ok.2), k _ _ (Sm.refl t) (by show _ = V.bl (bt told f || bt told g); rw [e]; rfl)⟩
      | _ => cases hj
    | _ => cases hj
end
end K6

set_option Elab.async false
set_option linter.all false
set_option maxRecDepth 100000
set_option maxHeartbeats 4000000
namespace K6
open PySem PySem.Spec PyProof.Rows L2 So
def tIns (K : PySem.W.Frag) : TE := fun σ H Q => ∃ (fa b : Addr) (us : List V) (f n : Nat) (r : List Bool), σ[0]? = some (some (.ref fa)) ∧ σ[5]? = some (some (.ref b)) ∧ σ[1]? = some (some (.int (n : Nat))) ∧ SqT K H fa us ∧ us[1]? = some (.int (f : Nat)) ∧ SqT K H b (bV r) ∧ f < r.length ∧ n < r.length ∧ Q (.bl (bt r f || bt r n)) H
theorem ins_of {K : PySem.W.Frag} : ∀ σ H Q, tIns K σ H Q → tOrV (tOp (rIxT K) (tVar 5) (tOp (rIxT K) (tVar 0) (tC (.int 1)))) (tOp (rIxT K) (tVar 5) (tVar 1)) σ H Q := by
  rintro σ H Q ⟨fa, b, us, f, n, r, e0, e5, e1, hf, eu, hb, l1, l2, q⟩
  refine ⟨_, e5, _, e0, fa, _, _, _, rfl, rfl, hf, atI_nat (j := 1) eu, b, _, _, _, rfl, rfl, hb, atI_nat (bV_bt l1), bt r f, rfl, ?_⟩
  cases e : bt r f with
  | true =>
    rw [e, Bool.true_or] at q
    exact iteT q
  | false =>
    rw [e, Bool.false_or] at q
    exact iteF ⟨_, e5, _, e1, b, _, _, _, rfl, rfl, hb, atI_nat (bV_bt l2), q⟩
def tFil (K : PySem.W.Frag) : TT := fun σ H Q => ∃ (fa b : Addr) (us : List V) (f : Nat) (r : List Bool), σ[0]? = some (some (.ref fa)) ∧ σ[5]? = some (some (.ref b)) ∧ SqT K H fa us ∧ us[1]? = some (.int (f : Nat)) ∧ SqT K H b (bV r) ∧ f < r.length ∧ Q (bt r f) H
theorem fil_of {K : PySem.W.Frag} : ∀ σ H Q, tFil K σ H Q → tB (tOp (rIxT K) (tVar 5) (tOp (rIxT K) (tVar 0) (tC (.int 1)))) σ H Q := by
  rintro σ H Q ⟨fa, b, us, f, r, e0, e5, hf, eu, hb, l1, q⟩
  exact ⟨_, e5, _, e0, fa, _, _, _, rfl, rfl, hf, atI_nat (j := 1) eu, b, _, _, _, rfl, rfl, hb, atI_nat (bV_bt l1), bt r f, rfl, q⟩
theorem range_rows (rs : List (List Bool)) : (List.range rs.length).map (fun i => rs.getD i []) = rs := by
  apply List.ext_getElem
  · rw [List.length_map, List.length_range]
  · intro i h1 h2
    simp [h2]
theorem any_rows (rs : List (List Bool)) (q : List Bool → Bool) : (List.range rs.length).any (fun i => q (rs.getD i [])) = rs.any q := by
  have e := range_rows rs
  calc (List.range rs.length).any (fun i => q (rs.getD i [])) = ((List.range rs.length).map (fun i => rs.getD i [])).any q := by rw [List.any_map]; rfl
    _ = rs.any q := by rw [e]
theorem many_rows (rs : List (List Bool)) (f : Nat) (p : Nat → V) : (sel (fun i => bt (rs.getD i []) f) p rs.length).length = many f rs := by
  unfold sel many
  rw [List.length_map]
  have e : rs.filter (fun r => bt r f) = ((List.range rs.length).filter (fun i => bt (rs.getD i []) f)).map (fun i => rs.getD i []) := by
    conv => lhs; rw [← range_rows rs]
    rw [List.filter_map]
    rfl
  rw [e, List.length_map]
theorem atI_m1 {xs : List V} {v : V} (h : xs[xs.length - 1]? = some v) : atI xs (-1) = some v := by
  obtain ⟨hl, e⟩ := List.getElem?_eq_some_iff.mp h
  have hne : xs ≠ [] := fun q => by
    rw [q] at hl
    exact absurd hl (Nat.lt_irrefl _)
  have d := List.dropLast_concat_getLast hne
  rw [List.getLast_eq_getElem hne, e] at d
  rw [← d]
  exact atI_last _ _
section
variable {Pg : Program} {w : World} {K : PySem.W.Frag} {mg : Str → Option Value} {base : Heap} {P d J : Addr}
abbrev sOin : Stmt := top 32
theorem scOin : FnScope ["fact", "number", "inner", "word", "many", "told"] ["fact", "number", "inner"] (defScope sOin) := ⟨rfl, rfl, rfl, by decide +kernel, rfl, by decide +kernel, by decide +kernel⟩
def isI : Fa → Bool
  | .chi _ _ => true
  | .mdl _ _ _ => true
  | .two .later _ _ => true
  | .two .next _ _ => true
  | .one .first _ => true
  | .one .last _ => true
  | .one .inside _ => true
  | _ => false
def spOin (K : PySem.W.Frag) (P : Addr) : Sp := Pu P fun vs H R => ∃ (fa a : Addr) (f : Fa) (n : Nat) (rs : List (List Bool)), vs = [.ref fa, .int (n : Nat), .ref a] ∧ SqT K H fa f.vs ∧ RwL K H a rs ∧ isI f = true ∧ f.ok n ∧ (∀ r ∈ rs, n < r.length) ∧ rs.length ≤ 1000 ∧ R = fun v _ => v = .bl (ofInner n rs f)
theorem ok_oin {f fL fN : Addr} {fd fdL fdN : FuncData} (F : Fun K "_of_inner" "_of_inner" sOin f fd) (T : Tz K w mg d J) (La : Df K mg "_is_later" sLat ["fact", "inner"] fL fdL) (Nx : Df K mg "_is_next" sNxt ["fact", "inner"] fN fdN) : FnOk Pg w K mg base CX0 2 f fd ["fact", "number", "inner"] (spOin K P) := by
  have GLa : FnOk Pg w K mg base CX0 1 fL fdL ["fact", "inner"] (spTwo K P fun f g rs => lat f g false rs) := ok_lat La.F T
  have GNx : FnOk Pg w K mg base CX0 1 fN fdN ["fact", "inner"] (spTwo K P nxt) := ok_nxt Nx.F T
  refine F.ok scOin (fun vs H Q E h => ?_) (fun cdv A outer s H vs Q E hr h => ?_)
  · obtain ⟨_, _, ⟨_, _, _, _, _, rfl, _⟩, _⟩ := h
    rfl
  · obtain ⟨t, _, ⟨fa, a, f, n, rs, rfl, hf, hR, hi, ok, hl, hn, rfl⟩, k⟩ := h
    have r1 : Room 1 _ := hr
    refine ⟨_, (pss_cons (ps_set (i := 3) scOin.nd rfl (Or.inl rfl) (pe_ix ix_tup (pv 0) pe_int (fun _ _ => rfl)))
      (pss_cons (ps_if (pt_cmpR op_eq (pv 3) pe_str (nomark _)) (pss_one (ps_ret (pe_call GLa r1 (by rfl) La.g La.F.kp La.b .nil pass0 (pa_cons (pv 0) (pa_cons (pv 2) pa_nil))))) pss_nil)
      (pss_cons (ps_if (pt_cmpR op_eq (pv 3) pe_str (nomark _)) (pss_one (ps_ret (pe_call GNx r1 (by rfl) Nx.g Nx.F.kp Nx.b .nil pass0 (pa_cons (pv 0) (pa_cons (pv 2) pa_nil))))) pss_nil)
      (pss_cons (ps_if (pt_cmpR op_eq (pv 3) pe_str (nomark _)) (pss_one (ps_ret (pe_and (pe_cmpR op_gt (pe_callB call_len_seq (by rfl) T.T.T.len (by decide +kernel) (pa_cons (pv 2) pa_nil)) pe_int (nomark _)) (pe_one (pe_ix ix_tup (pe_ix ix_list (pv 2) pe_int (fun _ _ => rfl)) (pe_ix ix_tup (pv 0) pe_int (fun _ _ => rfl)) (fun _ _ => rfl)))))) pss_nil)
      (pss_cons (ps_if (pt_cmpR op_eq (pv 3) pe_str (nomark _)) (pss_one (ps_ret (pe_and (pe_cmpR op_gt (pe_callB call_len_seq (by rfl) T.T.T.len (by decide +kernel) (pa_cons (pv 2) pa_nil)) pe_int (nomark _)) (pe_one (pe_ix ix_tup (pe_ix ix_list (pv 2) (pe_un un_neg pe_int) (fun _ _ => rfl)) (pe_ix ix_tup (pv 0) pe_int (fun _ _ => rfl)) (fun _ _ => rfl)))))) pss_nil)
      (pss_cons (ps_if (pt_cmpR op_eq (pv 3) pe_str (nomark _)) (pss_one (ps_ret (pe_callB (cr_any rfl) (by rfl) T.T.any (by decide +kernel) (pa_cons (pe_lc (own := [("told", 5)]) (g := gName 5) (tt := tYes) rfl scOin.nd (pi_list (pv 2)) (blkOk_by (N := ["fact", "number", "inner", "word", "many", "told"]) (sc := defScope sOin) (by decide +kernel)) (fun _ _ _ _ _ => pg_name (i := 5) scOin.nd rfl (Or.inl rfl)) (fun _ _ _ _ _ => pts_nil) (fun _ _ _ _ _ => show PE _ _ (tIns K) from pe_weak (pe_or (pe_ix ix_tup (pv 5) (pe_ix ix_tup (pv 0) pe_int (fun _ _ => rfl)) (fun _ _ => rfl)) (pe_one (pe_ix ix_tup (pv 5) (pv 1) (fun _ _ => rfl)))) ins_of)) pa_nil)))) pss_nil)
      (pss_cons (ps_set (i := 4) scOin.nd rfl (Or.inl rfl) (pe_callB call_len_seq (by rfl) T.T.T.len (by decide +kernel) (pa_cons (pe_lc (own := [("told", 5)]) (g := gName 5) (tt := tFil K) rfl scOin.nd (pi_list (pv 2)) (blkOk_by (N := ["fact", "number", "inner", "word", "many", "told"]) (sc := defScope sOin) (by decide +kernel)) (fun _ _ _ _ _ => pg_name (i := 5) scOin.nd rfl (Or.inl rfl)) (fun _ _ _ _ _ => pts_one (show PT _ _ (tFil K) from pt_weak (pt_val (pe_ix ix_tup (pv 5) (pe_ix ix_tup (pv 0) pe_int (fun _ _ => rfl)) (fun _ _ => rfl))) fil_of)) (fun _ _ _ _ _ => pv 5)) pa_nil)))
      (pss_cons (ps_if (pt_cmpR op_eq (pv 3) pe_str (nomark _)) (pss_one (ps_ret (pe_cmpR op_ge (pv 4) (pe_ix ix_tup (pv 0) pe_int (fun _ _ => rfl)) (nomark _)))) pss_nil)
      (pss_one (ps_ret (pe_cmpR op_eq (pe_op op_mod (pv 4) (pe_ix ix_tup (pv 0) pe_int (fun _ _ => rfl))) (pe_ix ix_tup (pv 0) pe_int (fun _ _ => rfl)) (nomark _)))))))))))), ?_⟩
    obtain ⟨xs, ha, hp⟩ := _root_.id hR
    have lx := rw_len hp
    refine ⟨_, rfl, fa, _, _, _, rfl, rfl, hf, atI_nat (j := 0) rfl, ?_⟩
    cases f with
    | chi fz m =>
      have LT : ∀ r ∈ rs, fz < r.length := fun r hr => Nat.lt_trans ok.1 (hl r hr)
      refine ⟨_, rfl, rfl, _, rfl, iteN (by show decide (("child":Str) = "later") = false; decide +kernel) ?_⟩
      refine ⟨_, rfl, rfl, _, rfl, iteN (by show decide (("child":Str) = "next") = false; decide +kernel) ?_⟩
      refine ⟨_, rfl, rfl, _, rfl, iteN (by show decide (("child":Str) = "first") = false; decide +kernel) ?_⟩
      refine ⟨_, rfl, rfl, _, rfl, iteN (by show decide (("child":Str) = "last") = false; decide +kernel) ?_⟩
      refine ⟨_, rfl, rfl, _, rfl, iteN (by show decide (("child":Str) = "inside") = false; decide +kernel) ?_⟩
      refine ⟨_, rfl, a, rfl, ⟨_, ha⟩, fun E2 hE2 => ?_⟩
      refine lc_sel (P := P) (walk_list (K := K) (a := a) (xs := xs)) t hE2 (by rw [lx]; omega) (fun H' s => s.lst t ha) (fun i => bt (rs.getD i []) fz) (fun i => xs.getD i .non) ?_ ?_
      · rintro i x H3 H4 Qe N hi s3 ⟨rfl, hy⟩ hq hN
        obtain ⟨r, b, hr, rfl, hb⟩ := rw_at hp hy
        have e1 : rs.getD i [] = r := by rw [List.getD_eq_getElem?_getD, hr]; rfl
        have e2 : xs.getD i .non = .ref b := by rw [List.getD_eq_getElem?_getD, hy]; rfl
        refine ⟨rfl, fa, b, _, fz, r, rfl, rfl, s3.tup t hf, rfl, s3.tup t hb, LT r (List.mem_of_getElem? hr), ?_⟩
        cases e : bt r fz with
        | true =>
          rw [if_pos rfl]
          have := hq (by rw [e1]; exact e) _ (Sm.refl s3.2)
          rw [e2] at this
          exact ⟨_, rfl, this⟩
        | false =>
          rw [if_neg (by decide)]
          exact hN (by rw [e1]; exact e) _ (Sm.refl s3.2)
      · intro H3 s3 e3
        refine ⟨E2, _, rfl, .inl (SqL.of e3), ?_⟩
        rw [lx, many_rows]
        refine ⟨_, rfl, rfl, _, rfl, iteE ?_⟩
        refine ⟨_, rfl, _, rfl, fa, _, _, _, rfl, rfl, s3.tup t hf, atI_nat (j := 2) rfl, _, _, rfl, rfl, k _ _ s3 (by show V.bl (decide ((m : Int) ≤ (many fz rs : Nat))) = V.bl (decide (m ≤ many fz rs)); congr 1; exact decide_eq_decide.mpr (by omega))⟩
    | mdl fz m q =>
      have LT : ∀ r ∈ rs, fz < r.length := fun r hr => Nat.lt_trans ok.1 (hl r hr)
      refine ⟨_, rfl, rfl, _, rfl, iteN (by show decide (("modulo":Str) = "later") = false; decide +kernel) ?_⟩
      refine ⟨_, rfl, rfl, _, rfl, iteN (by show decide (("modulo":Str) = "next") = false; decide +kernel) ?_⟩
      refine ⟨_, rfl, rfl, _, rfl, iteN (by show decide (("modulo":Str) = "first") = false; decide +kernel) ?_⟩
      refine ⟨_, rfl, rfl, _, rfl, iteN (by show decide (("modulo":Str) = "last") = false; decide +kernel) ?_⟩
      refine ⟨_, rfl, rfl, _, rfl, iteN (by show decide (("modulo":Str) = "inside") = false; decide +kernel) ?_⟩
      refine ⟨_, rfl, a, rfl, ⟨_, ha⟩, fun E2 hE2 => ?_⟩
      refine lc_sel (P := P) (walk_list (K := K) (a := a) (xs := xs)) t hE2 (by rw [lx]; omega) (fun H' s => s.lst t ha) (fun i => bt (rs.getD i []) fz) (fun i => xs.getD i .non) ?_ ?_
      · rintro i x H3 H4 Qe N hi s3 ⟨rfl, hy⟩ hq hN
        obtain ⟨r, b, hr, rfl, hb⟩ := rw_at hp hy
        have e1 : rs.getD i [] = r := by rw [List.getD_eq_getElem?_getD, hr]; rfl
        have e2 : xs.getD i .non = .ref b := by rw [List.getD_eq_getElem?_getD, hy]; rfl
        refine ⟨rfl, fa, b, _, fz, r, rfl, rfl, s3.tup t hf, rfl, s3.tup t hb, LT r (List.mem_of_getElem? hr), ?_⟩
        cases e : bt r fz with
        | true =>
          rw [if_pos rfl]
          have := hq (by rw [e1]; exact e) _ (Sm.refl s3.2)
          rw [e2] at this
          exact ⟨_, rfl, this⟩
        | false =>
          rw [if_neg (by decide)]
          exact hN (by rw [e1]; exact e) _ (Sm.refl s3.2)
      · intro H3 s3 e3
        refine ⟨E2, _, rfl, .inl (SqL.of e3), ?_⟩
        rw [lx, many_rows]
        refine ⟨_, rfl, rfl, _, rfl, iteN (by show decide (("modulo":Str) = "child") = false; decide +kernel) ?_⟩
        refine ⟨_, rfl, _, rfl, fa, _, _, _, rfl, rfl, s3.tup t hf, atI_nat (j := 2) rfl, _, _, rfl, rfl, by have := ok.2.1; omega, _, rfl, fa, _, _, _, rfl, rfl, s3.tup t hf, atI_nat (j := 3) rfl, rfl, k _ _ s3 ?_⟩
        show V.bl (decide (V.int ((many fz rs : Nat) % (m : Int)) = V.int q)) = V.bl (decide (many fz rs % m = q))
        congr 1
        refine decide_eq_decide.mpr ⟨fun e => ?_, fun e => ?_⟩
        · injection e with e
          omega
        · rw [← e]
          simp
    | two w fz g =>
      cases w with
      | later =>
        refine ⟨_, rfl, rfl, _, rfl, iteE ⟨_, rfl, _, rfl, t, _, ⟨fa, a, .later, fz, g, rs, rfl, hf, hR, fun r hr => ⟨Nat.lt_trans ok.1 (hl r hr), Nat.lt_trans ok.2 (hl r hr)⟩, hn, rfl⟩, k⟩⟩
      | next =>
        refine ⟨_, rfl, rfl, _, rfl, iteN (by show decide (("next":Str) = "later") = false; decide +kernel) ?_⟩
        refine ⟨_, rfl, rfl, _, rfl, iteE ⟨_, rfl, _, rfl, t, _, ⟨fa, a, .next, fz, g, rs, rfl, hf, hR, fun r hr => ⟨Nat.lt_trans ok.1 (hl r hr), Nat.lt_trans ok.2 (hl r hr)⟩, hn, rfl⟩, k⟩⟩
      | _ => cases hi
    | one w fz =>
      have LT : ∀ r ∈ rs, fz < r.length := fun r hr => Nat.lt_trans ok (hl r hr)
      cases w with
      | first =>
        refine ⟨_, rfl, rfl, _, rfl, iteN (by show decide (("first":Str) = "later") = false; decide +kernel) ?_⟩
        refine ⟨_, rfl, rfl, _, rfl, iteN (by show decide (("first":Str) = "next") = false; decide +kernel) ?_⟩
        refine ⟨_, rfl, rfl, _, rfl, iteE ?_⟩
        refine ⟨_, rfl, a, xs, rfl, .inl ha, _, _, rfl, rfl, _, rfl, ?_⟩
        by_cases h0 : 0 < rs.length
        · rw [if_pos (decide_eq_true (by rw [lx]; omega))]
          have hx0 : 0 < xs.length := by omega
          have hx := List.getElem?_eq_getElem hx0
          obtain ⟨r, b, hr, eb, hb⟩ := rw_at hp hx
          rw [eb] at hx
          refine ⟨_, rfl, a, _, _, _, rfl, rfl, ha, atI_nat (j := 0) hx, _, rfl, fa, _, _, _, rfl, rfl, hf, atI_nat (j := 1) rfl, b, _, _, _, rfl, rfl, hb, atI_nat (bV_bt (LT r (List.mem_of_getElem? hr))), k _ _ (Sm.refl t) ?_⟩
          show V.bl (bt r fz) = V.bl (decide (0 < rs.length) && bt (rs.getD (0) []) fz)
          rw [decide_eq_true h0, Bool.true_and, List.getD_eq_getElem?_getD, hr]
          rfl
        · rw [if_neg (fun q => h0 (by have := of_decide_eq_true q; rw [lx] at this; omega))]
          refine k _ _ (Sm.refl t) ?_
          show V.bl false = V.bl (decide (0 < rs.length) && bt (rs.getD (0) []) fz)
          rw [decide_eq_false h0, Bool.false_and]
      | last =>
        refine ⟨_, rfl, rfl, _, rfl, iteN (by show decide (("last":Str) = "later") = false; decide +kernel) ?_⟩
        refine ⟨_, rfl, rfl, _, rfl, iteN (by show decide (("last":Str) = "next") = false; decide +kernel) ?_⟩
        refine ⟨_, rfl, rfl, _, rfl, iteN (by show decide (("last":Str) = "first") = false; decide +kernel) ?_⟩
        refine ⟨_, rfl, rfl, _, rfl, iteE ?_⟩
        refine ⟨_, rfl, a, xs, rfl, .inl ha, _, _, rfl, rfl, _, rfl, ?_⟩
        by_cases h0 : 0 < rs.length
        · rw [if_pos (decide_eq_true (by rw [lx]; omega))]
          have hx0 : xs.length - 1 < xs.length := by omega
          have hx := List.getElem?_eq_getElem hx0
          obtain ⟨r, b, hr, eb, hb⟩ := rw_at hp hx
          rw [eb] at hx
          refine ⟨_, rfl, 1, rfl, a, _, _, _, rfl, rfl, ha, atI_m1 hx, _, rfl, fa, _, _, _, rfl, rfl, hf, atI_nat (j := 1) rfl, b, _, _, _, rfl, rfl, hb, atI_nat (bV_bt (LT r (List.mem_of_getElem? hr))), k _ _ (Sm.refl t) ?_⟩
          show V.bl (bt r fz) = V.bl (decide (0 < rs.length) && bt (rs.getD (rs.length - 1) []) fz)
          rw [decide_eq_true h0, Bool.true_and, List.getD_eq_getElem?_getD, ← lx, hr]
          rfl
        · rw [if_neg (fun q => h0 (by have := of_decide_eq_true q; rw [lx] at this; omega))]
          refine k _ _ (Sm.refl t) ?_
          show V.bl false = V.bl (decide (0 < rs.length) && bt (rs.getD (rs.length - 1) []) fz)
          rw [decide_eq_false h0, Bool.false_and]
      | inside =>
        refine ⟨_, rfl, rfl, _, rfl, iteN (by show decide (("inside":Str) = "later") = false; decide +kernel) ?_⟩
        refine ⟨_, rfl, rfl, _, rfl, iteN (by show decide (("inside":Str) = "next") = false; decide +kernel) ?_⟩
        refine ⟨_, rfl, rfl, _, rfl, iteN (by show decide (("inside":Str) = "first") = false; decide +kernel) ?_⟩
        refine ⟨_, rfl, rfl, _, rfl, iteN (by show decide (("inside":Str) = "last") = false; decide +kernel) ?_⟩
        refine ⟨_, rfl, rfl, _, rfl, iteE ?_⟩
        refine ⟨_, rfl, a, rfl, ⟨_, ha⟩, fun E2 hE2 => ?_⟩
        refine lc_sel (P := P) (walk_list (K := K) (a := a) (xs := xs)) t hE2 (by rw [lx]; omega) (fun H' s => s.lst t ha) (fun _ => true) (fun i => .bl (bt (rs.getD i []) fz || bt (rs.getD i []) n)) ?_ ?_
        · rintro i x H3 H4 Qe N hi s3 ⟨rfl, hy⟩ hq _
          obtain ⟨r, b, hr, rfl, hb⟩ := rw_at hp hy
          have e1 : rs.getD i [] = r := by rw [List.getD_eq_getElem?_getD, hr]; rfl
          have hm := List.mem_of_getElem? hr
          refine ⟨rfl, fa, b, _, fz, n, r, rfl, rfl, rfl, s3.tup t hf, rfl, s3.tup t hb, LT r hm, hl r hm, ?_⟩
          have := hq rfl H4 (Sm.refl s3.2)
          rw [e1] at this
          exact this
        · intro H3 s3 e3
          rw [sel_all] at e3
          refine ⟨E2, _, rfl, SqL.of e3, k _ _ s3 ?_⟩
          rw [lx, List.any_map]
          exact congrArg V.bl (any_rows rs fun r => bt r fz || bt r n)
      | _ => cases hi
    | _ => cases hi
end
end K6

set_option Elab.async false
set_option linter.all false
set_option maxRecDepth 100000
set_option maxHeartbeats 4000000
namespace K6
open PySem PySem.Spec PyProof.Rows L2 So
def fa1 (lab : Option Str) (txs : List Str) (rs : List (List Bool)) (told : List Bool) (f : Fa) : Bool :=
  match f with
  | .txt none n => decide (n ≤ txs.length)
  | .txt (some z) n => decide (n ≤ txs.count z)
  | .lab l => decide (lab = some l)
  | f => if isJ f = true then joined told f else ofInner told.length rs f
def ofR (lab : Option Str) (txs : List Str) (rs : List (List Bool)) : List Fa → List Bool → List Bool
  | [], told => told
  | f :: q, told => ofR lab txs rs q (told ++ [fa1 lab txs rs told f])
theorem ofR_len (lab : Option Str) (txs : List Str) (rs : List (List Bool)) : ∀ (q : List Fa) (told : List Bool), (ofR lab txs rs q told).length = told.length + q.length
  | [], _ => rfl
  | f :: q, told => by
    rw [ofR, ofR_len lab txs rs q, List.length_append, List.length_cons, List.length_cons]
    simp only [List.length_nil]
    omega
section
variable {Pg : Program} {w : World} {K : PySem.W.Frag} {mg : Str → Option Value} {base : Heap} {P d J : Addr}
abbrev sOfr : Stmt := top 34
theorem scOfr : FnScope ["facts", "label", "texts", "inner", "told", "number", "fact", "word", "many"] ["facts", "label", "texts", "inner"] (defScope sOfr) := ⟨rfl, rfl, rfl, by decide +kernel, rfl, by decide +kernel, by decide +kernel⟩
def spOfr (K : PySem.W.Frag) (P : Addr) : Sp := Pu P fun vs H R => ∃ (fa tx a : Addr) (lab : Option Str) (q : List Fa) (txs : List Str) (rs : List (List Bool)), vs = [.ref fa, optV lab, .ref tx, .ref a] ∧ RowsS (SqT K) H (.ref fa) (fV q) ∧ okQ q ∧ SqL K H tx (sV txs) ∧ RwL K H a rs ∧ (∀ r ∈ rs, r.length = q.length) ∧ rs.length ≤ 1000 ∧ R = fun v H' => ItS (SqT K) H' v (bV (ofR lab txs rs q []))
theorem ok_ofr {f fI fJ : Addr} {fd fdI fdJ : FuncData} (F : Fun K "_of_row" "_of_row" sOfr f fd) (T : Tz K w mg d J) (In : Df K mg "_of_inner" sOin ["fact", "number", "inner"] fI fdI) (GI : FnOk Pg w K mg base CX0 2 fI fdI ["fact", "number", "inner"] (spOin K P)) (Jo : Df K mg "of_joined" sJoi ["fact", "told"] fJ fdJ) : FnOk Pg w K mg base CX0 3 f fd ["facts", "label", "texts", "inner"] (spOfr K P) := by
  have GJ : FnOk Pg w K mg base CX0 1 fJ fdJ ["fact", "told"] (spJoi K P) := ok_joi Jo.F T
  refine F.ok scOfr (fun vs H Q E h => ?_) (fun cdv A outer s H vs Q E hr h => ?_)
  · obtain ⟨_, _, ⟨_, _, _, _, _, _, _, rfl, _⟩, _⟩ := h
    rfl
  · obtain ⟨t, _, ⟨fa, tx, a, lab, q, txs, rs, rfl, ⟨_, xs, e0, ha, hp⟩, ⟨o1, o2, o3⟩, ht, hR, hl, hn, rfl⟩, k⟩ := h
    cases e0
    have r1 : Room 1 _ := hr.mono (by decide)
    refine ⟨_, (pss_cons (ps_set (i := 4) scOfr.nd rfl (Or.inl rfl) (pe_lst pa_nil))
      (pss_cons (ps_for PassesOwn.never rfl (SoE.pi_enumT (by rfl) T.T.T.enumerate (pa_cons (pv 0) pa_nil)) (pg_tup rfl (pgs_cons (pg_name (i := 5) scOfr.nd rfl (.inl rfl)) (pgs_cons (pg_name (i := 6) scOfr.nd rfl (.inl rfl)) pgs_nil))) (pss_cons (ps_set (i := 7) scOfr.nd rfl (Or.inl rfl) (pe_ix ix_tup (pv 6) pe_int (fun _ _ => rfl)))
      (pss_one (ps_if (pt_cmpR op_eq (pv 7) pe_str (nomark _)) (pss_cons (ps_set (i := 8) scOfr.nd rfl (Or.inl rfl) (pe_ifExp (pt_cmp (pc_isN (pe_ix ix_tup (pv 6) pe_int (fun _ _ => rfl)))) (pe_callB call_len_seq (by rfl) T.T.T.len (by decide +kernel) (pa_cons (pv 2) pa_nil)) (pe_bm PySem.F.plainAttrs_list PySem.F.slot_list_count PySem.F.type_list_count SoCt.mt_lcountV (pv 2) (pa_cons (pe_ix ix_tup (pv 6) pe_int (fun _ _ => rfl)) pa_nil))))
      (pss_one (ps_expr (pe_bm PySem.F.plainAttrs_list PySem.F.slot_list_append PySem.F.type_list_append mt_append (pv 4) (pa_cons (pe_cmpR op_ge (pv 8) (pe_ix ix_tup (pv 6) pe_int (fun _ _ => rfl)) (nomark _)) pa_nil))))) (pss_one (ps_if (pt_cmpR op_eq (pv 7) pe_str (nomark _)) (pss_one (ps_expr (pe_bm PySem.F.plainAttrs_list PySem.F.slot_list_append PySem.F.type_list_append mt_append (pv 4) (pa_cons (pe_cmpR op_eq (pv 1) (pe_ix ix_tup (pv 6) pe_int (fun _ _ => rfl)) (nomark _)) pa_nil)))) (pss_one (ps_if (pt_cmpR op_in_seq (pv 7) (pe_glob (v := .ref J) (by rfl) T.joining rfl) rfl) (pss_one (ps_expr (pe_bm PySem.F.plainAttrs_list PySem.F.slot_list_append PySem.F.type_list_append mt_append (pv 4) (pa_cons (pe_call GJ r1 (by rfl) Jo.g Jo.F.kp Jo.b .nil pass0 (pa_cons (pv 6) (pa_cons (pv 4) pa_nil))) pa_nil)))) (pss_one (ps_expr (pe_bm PySem.F.plainAttrs_list PySem.F.slot_list_append PySem.F.type_list_append mt_append (pv 4) (pa_cons (pe_call GI hr (by rfl) In.g In.F.kp In.b .nil pass0 (pa_cons (pv 6) (pa_cons (pv 5) (pa_cons (pv 3) pa_nil)))) pa_nil))))))))))))
      (pss_one (ps_ret (pe_tupleOf (by rfl) T.T.T.tuple (pv 4)))))), ?_⟩
    have lq : (fV q).length = q.length := List.length_map _
    have lx : xs.length = q.length := (Paired.length hp).trans lq
    refine ⟨(by decide), fun D hD => ?_⟩
    have s0 : Sm P H (upd H D (.lst [])) := Sm.new t hD
    have DP := nPt t hD
    refine ⟨_, rfl, fa, xs, rfl, s0.tup t ha, for_it SoE.walk_enumT (fun i σ H' => ∃ (told : List Bool) (v5 v6 v7 v8 : Option V), σ = [some (.ref fa), some (optV lab), some (.ref tx), some (.ref a), some (.ref D), v5, v6, v7, v8] ∧ Sm P H H' ∧ H' D = some (.lst (bV told)) ∧ told.length = i ∧ ofR lab txs rs (q.drop i) told = ofR lab txs rs q []) ⟨[], none, none, none, none, rfl, s0, upd_same, rfl, rfl⟩ (fun i σ H' _ ⟨_, _, _, _, _, _, s, _⟩ => s.tup t ha) ?_ ?_⟩
    · rintro i y σ Ha Hb hi ⟨told, v5, v6, v7, v8, rfl, s3, hD3, li, e⟩ ⟨T1, x1, x, rfl, hT, rfl, e1, hxi⟩
      cases e1
      obtain ⟨ys, hy, b, rfl, hb⟩ := paired_get hp hxi
      obtain ⟨f, hf, rfl⟩ := fV_at hy
      have hi : i < q.length := (List.getElem?_eq_some_iff.mp hf).1
      have s4 : Sm P H (upd Ha T1 (.tup [.int (i : Nat), .ref b])) := s3.trans (Sm.new s3.2 hT)
      have hD4 : (upd Ha T1 (.tup [.int (i : Nat), .ref b])) D = some (.lst (bV told)) := (Sm.new s3.2 hT).atL s3.2 hD3
      have t4 := s4.2
      have hb4 := s4.tup t hb
      have ht4 := s4.lst t ht
      have hR4 := hR.mono t s4
      have okf := o3 i f hf
      have ed : q.drop i = f :: q.drop (i + 1) := by
        rw [List.drop_eq_getElem_cons hi]
        congr 1
        exact (List.getElem?_eq_some_iff.mp hf).2
      rw [ed, ofR] at e
      refine ⟨T1, _, rfl, .inl (.inl upd_same), rfl, _, _, rfl, _, _, rfl, rfl, ?_⟩
      generalize upd Ha T1 (.tup [.int (i : Nat), .ref b]) = H4 at *
      have fin : ∀ (b1 : Bool) (H5 : Hp), Sm P H4 H5 → b1 = fa1 lab txs rs told f → Sm P H (upd H5 D (.lst (bV told ++ [.bl b1]))) ∧ (upd H5 D (.lst (bV told ++ [.bl b1]))) D = some (.lst (bV (told ++ [b1]))) ∧ (told ++ [b1]).length = i + 1 ∧ ofR lab txs rs (q.drop (i + 1)) (told ++ [b1]) = ofR lab txs rs q [] := by
        intro b1 H5 s5 eb
        refine ⟨(s4.trans s5).mut hD DP, ?_, by rw [List.length_append, li]; rfl, by rw [eb]; exact e⟩
        rw [upd_same]
        unfold bV
        rw [List.map_append]
        rfl
      have sz : (bV told).length < sizeLine := by
        unfold bV
        rw [List.length_map]
        exact Nat.lt_of_lt_of_le (by omega : told.length < 101) (by decide)
      refine ⟨_, rfl, b, _, _, _, rfl, rfl, hb4, atI_nat (j := 0) rfl, ?_⟩
      cases f with
      | txt s n =>
        refine ⟨_, rfl, rfl, _, rfl, iteE ?_⟩
        cases s with
        | none =>
          refine ⟨_, rfl, b, _, _, _, rfl, rfl, hb4, atI_nat (j := 1) rfl, true, rfl, iteT ⟨_, rfl, tx, _, rfl, .inl ht4, ?_⟩⟩
          refine ⟨_, rfl, .inl ⟨rfl, _, SqL.of hD4⟩, _, rfl, _, rfl, b, _, _, _, rfl, rfl, hb4, atI_nat (j := 2) rfl, _, _, rfl, rfl, D, _, _, rfl, rfl, hD4, sz, _, _, _, _, _, rfl, fin _ _ (Sm.refl t4) ?_⟩
          show decide ((n : Int) ≤ ((sV txs).length : Nat)) = decide (n ≤ txs.length)
          unfold sV
          rw [List.length_map]
          exact decide_eq_decide.mpr (by omega)
        | some z =>
          refine ⟨_, rfl, b, _, _, _, rfl, rfl, hb4, atI_nat (j := 1) rfl, false, rfl, iteF ⟨_, rfl, .inl ⟨rfl, _, ht4⟩, _, rfl, b, _, _, _, rfl, rfl, hb4, atI_nat (j := 1) rfl, tx, _, _, rfl, rfl, ht4, rfl, sV_flat _, ?_⟩⟩
          refine ⟨_, rfl, .inl ⟨rfl, _, SqL.of hD4⟩, _, rfl, _, rfl, b, _, _, _, rfl, rfl, hb4, atI_nat (j := 2) rfl, _, _, rfl, rfl, D, _, _, rfl, rfl, hD4, sz, _, _, _, _, _, rfl, fin _ _ (Sm.refl t4) ?_⟩
          show decide ((n : Int) ≤ (((sV txs).countP fun x => eqV x (.str z)) : Nat)) = decide (n ≤ txs.count z)
          unfold sV
          rw [SoCt.count_str]
          exact decide_eq_decide.mpr (by omega)
      | lab l =>
        refine ⟨_, rfl, rfl, _, rfl, iteN (by show decide (("label" : Str) = "text") = false; decide +kernel) ⟨_, rfl, rfl, _, rfl, iteE ?_⟩⟩
        refine ⟨_, rfl, .inl ⟨rfl, _, SqL.of hD4⟩, _, rfl, _, rfl, b, _, _, _, rfl, rfl, hb4, atI_nat (j := 1) rfl, by cases lab <;> rfl, D, _, _, rfl, rfl, hD4, sz, _, _, _, _, _, rfl, fin _ _ (Sm.refl t4) ?_⟩
        show decide (optV lab = V.str l) = decide (lab = some l)
        cases lab with
        | none => rfl
        | some z => exact decide_eq_decide.mpr ⟨fun e => congrArg some (V.str.inj e), fun e => congrArg V.str (Option.some.inj e)⟩
      | chi f1 m =>
        refine ⟨_, rfl, rfl, _, rfl, iteN (by show decide (("child" : Str) = "text") = false; decide +kernel) ?_⟩
        refine ⟨_, rfl, rfl, _, rfl, iteN (by show decide (("child" : Str) = "label") = false; decide +kernel) ?_⟩
        refine ⟨_, rfl, J, _, rfl, .inr (T.joins _), rfl, sV_flat _, false, congrArg V.bl (by show inV (V.str "child") (sV ["not", "and", "or"]) = false; decide +kernel), iteF ?_⟩
        refine ⟨_, rfl, .inl ⟨rfl, _, SqL.of hD4⟩, _, rfl, _, rfl, _, rfl, t4, _, ⟨b, a, (.chi f1 m), i, rs, rfl, hb4, hR4, rfl, okf, fun r hr => by rw [hl r hr]; exact hi, hn, rfl⟩, fun v H5 s5 ev => ?_⟩
        rw [ev]
        refine ⟨D, _, _, rfl, rfl, s5.atL t4 hD4, sz, _, _, _, _, _, rfl, fin _ _ s5 ?_⟩
        rw [← li]
        rfl
      | mdl f1 m r =>
        refine ⟨_, rfl, rfl, _, rfl, iteN (by show decide (("modulo" : Str) = "text") = false; decide +kernel) ?_⟩
        refine ⟨_, rfl, rfl, _, rfl, iteN (by show decide (("modulo" : Str) = "label") = false; decide +kernel) ?_⟩
        refine ⟨_, rfl, J, _, rfl, .inr (T.joins _), rfl, sV_flat _, false, congrArg V.bl (by show inV (V.str "modulo") (sV ["not", "and", "or"]) = false; decide +kernel), iteF ?_⟩
        refine ⟨_, rfl, .inl ⟨rfl, _, SqL.of hD4⟩, _, rfl, _, rfl, _, rfl, t4, _, ⟨b, a, (.mdl f1 m r), i, rs, rfl, hb4, hR4, rfl, okf, fun r hr => by rw [hl r hr]; exact hi, hn, rfl⟩, fun v H5 s5 ev => ?_⟩
        rw [ev]
        refine ⟨D, _, _, rfl, rfl, s5.atL t4 hD4, sz, _, _, _, _, _, rfl, fin _ _ s5 ?_⟩
        rw [← li]
        rfl
      | two w f1 g1 =>
        cases w with
        | later =>
          refine ⟨_, rfl, rfl, _, rfl, iteN (by show decide (("later" : Str) = "text") = false; decide +kernel) ?_⟩
          refine ⟨_, rfl, rfl, _, rfl, iteN (by show decide (("later" : Str) = "label") = false; decide +kernel) ?_⟩
          refine ⟨_, rfl, J, _, rfl, .inr (T.joins _), rfl, sV_flat _, false, congrArg V.bl (by show inV (V.str "later") (sV ["not", "and", "or"]) = false; decide +kernel), iteF ?_⟩
          refine ⟨_, rfl, .inl ⟨rfl, _, SqL.of hD4⟩, _, rfl, _, rfl, _, rfl, t4, _, ⟨b, a, (.two .later f1 g1), i, rs, rfl, hb4, hR4, rfl, okf, fun r hr => by rw [hl r hr]; exact hi, hn, rfl⟩, fun v H5 s5 ev => ?_⟩
          rw [ev]
          refine ⟨D, _, _, rfl, rfl, s5.atL t4 hD4, sz, _, _, _, _, _, rfl, fin _ _ s5 ?_⟩
          rw [← li]
          rfl
        | next =>
          refine ⟨_, rfl, rfl, _, rfl, iteN (by show decide (("next" : Str) = "text") = false; decide +kernel) ?_⟩
          refine ⟨_, rfl, rfl, _, rfl, iteN (by show decide (("next" : Str) = "label") = false; decide +kernel) ?_⟩
          refine ⟨_, rfl, J, _, rfl, .inr (T.joins _), rfl, sV_flat _, false, congrArg V.bl (by show inV (V.str "next") (sV ["not", "and", "or"]) = false; decide +kernel), iteF ?_⟩
          refine ⟨_, rfl, .inl ⟨rfl, _, SqL.of hD4⟩, _, rfl, _, rfl, _, rfl, t4, _, ⟨b, a, (.two .next f1 g1), i, rs, rfl, hb4, hR4, rfl, okf, fun r hr => by rw [hl r hr]; exact hi, hn, rfl⟩, fun v H5 s5 ev => ?_⟩
          rw [ev]
          refine ⟨D, _, _, rfl, rfl, s5.atL t4 hD4, sz, _, _, _, _, _, rfl, fin _ _ s5 ?_⟩
          rw [← li]
          rfl
        | and =>
          refine ⟨_, rfl, rfl, _, rfl, iteN (by show decide (("and" : Str) = "text") = false; decide +kernel) ?_⟩
          refine ⟨_, rfl, rfl, _, rfl, iteN (by show decide (("and" : Str) = "label") = false; decide +kernel) ?_⟩
          refine ⟨_, rfl, J, _, rfl, .inr (T.joins _), rfl, sV_flat _, true, congrArg V.bl (by show inV (V.str "and") (sV ["not", "and", "or"]) = true; decide +kernel), iteT ?_⟩
          refine ⟨_, rfl, .inl ⟨rfl, _, SqL.of hD4⟩, _, rfl, _, rfl, t4, _, ⟨b, D, (.two .and f1 g1), told, rfl, hb4, SqL.of hD4, rfl, by rw [li]; exact okf, rfl⟩, fun v H5 s5 ev => ?_⟩
          rw [ev]
          exact ⟨D, _, _, rfl, rfl, s5.atL t4 hD4, sz, _, _, _, _, _, rfl, fin _ _ s5 rfl⟩
        | or =>
          refine ⟨_, rfl, rfl, _, rfl, iteN (by show decide (("or" : Str) = "text") = false; decide +kernel) ?_⟩
          refine ⟨_, rfl, rfl, _, rfl, iteN (by show decide (("or" : Str) = "label") = false; decide +kernel) ?_⟩
          refine ⟨_, rfl, J, _, rfl, .inr (T.joins _), rfl, sV_flat _, true, congrArg V.bl (by show inV (V.str "or") (sV ["not", "and", "or"]) = true; decide +kernel), iteT ?_⟩
          refine ⟨_, rfl, .inl ⟨rfl, _, SqL.of hD4⟩, _, rfl, _, rfl, t4, _, ⟨b, D, (.two .or f1 g1), told, rfl, hb4, SqL.of hD4, rfl, by rw [li]; exact okf, rfl⟩, fun v H5 s5 ev => ?_⟩
          rw [ev]
          exact ⟨D, _, _, rfl, rfl, s5.atL t4 hD4, sz, _, _, _, _, _, rfl, fin _ _ s5 rfl⟩
      | one w f1 =>
        cases w with
        | first =>
          refine ⟨_, rfl, rfl, _, rfl, iteN (by show decide (("first" : Str) = "text") = false; decide +kernel) ?_⟩
          refine ⟨_, rfl, rfl, _, rfl, iteN (by show decide (("first" : Str) = "label") = false; decide +kernel) ?_⟩
          refine ⟨_, rfl, J, _, rfl, .inr (T.joins _), rfl, sV_flat _, false, congrArg V.bl (by show inV (V.str "first") (sV ["not", "and", "or"]) = false; decide +kernel), iteF ?_⟩
          refine ⟨_, rfl, .inl ⟨rfl, _, SqL.of hD4⟩, _, rfl, _, rfl, _, rfl, t4, _, ⟨b, a, (.one .first f1), i, rs, rfl, hb4, hR4, rfl, okf, fun r hr => by rw [hl r hr]; exact hi, hn, rfl⟩, fun v H5 s5 ev => ?_⟩
          rw [ev]
          refine ⟨D, _, _, rfl, rfl, s5.atL t4 hD4, sz, _, _, _, _, _, rfl, fin _ _ s5 ?_⟩
          rw [← li]
          rfl
        | last =>
          refine ⟨_, rfl, rfl, _, rfl, iteN (by show decide (("last" : Str) = "text") = false; decide +kernel) ?_⟩
          refine ⟨_, rfl, rfl, _, rfl, iteN (by show decide (("last" : Str) = "label") = false; decide +kernel) ?_⟩
          refine ⟨_, rfl, J, _, rfl, .inr (T.joins _), rfl, sV_flat _, false, congrArg V.bl (by show inV (V.str "last") (sV ["not", "and", "or"]) = false; decide +kernel), iteF ?_⟩
          refine ⟨_, rfl, .inl ⟨rfl, _, SqL.of hD4⟩, _, rfl, _, rfl, _, rfl, t4, _, ⟨b, a, (.one .last f1), i, rs, rfl, hb4, hR4, rfl, okf, fun r hr => by rw [hl r hr]; exact hi, hn, rfl⟩, fun v H5 s5 ev => ?_⟩
          rw [ev]
          refine ⟨D, _, _, rfl, rfl, s5.atL t4 hD4, sz, _, _, _, _, _, rfl, fin _ _ s5 ?_⟩
          rw [← li]
          rfl
        | inside =>
          refine ⟨_, rfl, rfl, _, rfl, iteN (by show decide (("inside" : Str) = "text") = false; decide +kernel) ?_⟩
          refine ⟨_, rfl, rfl, _, rfl, iteN (by show decide (("inside" : Str) = "label") = false; decide +kernel) ?_⟩
          refine ⟨_, rfl, J, _, rfl, .inr (T.joins _), rfl, sV_flat _, false, congrArg V.bl (by show inV (V.str "inside") (sV ["not", "and", "or"]) = false; decide +kernel), iteF ?_⟩
          refine ⟨_, rfl, .inl ⟨rfl, _, SqL.of hD4⟩, _, rfl, _, rfl, _, rfl, t4, _, ⟨b, a, (.one .inside f1), i, rs, rfl, hb4, hR4, rfl, okf, fun r hr => by rw [hl r hr]; exact hi, hn, rfl⟩, fun v H5 s5 ev => ?_⟩
          rw [ev]
          refine ⟨D, _, _, rfl, rfl, s5.atL t4 hD4, sz, _, _, _, _, _, rfl, fin _ _ s5 ?_⟩
          rw [← li]
          rfl
        | not =>
          refine ⟨_, rfl, rfl, _, rfl, iteN (by show decide (("not" : Str) = "text") = false; decide +kernel) ?_⟩
          refine ⟨_, rfl, rfl, _, rfl, iteN (by show decide (("not" : Str) = "label") = false; decide +kernel) ?_⟩
          refine ⟨_, rfl, J, _, rfl, .inr (T.joins _), rfl, sV_flat _, true, congrArg V.bl (by show inV (V.str "not") (sV ["not", "and", "or"]) = true; decide +kernel), iteT ?_⟩
          refine ⟨_, rfl, .inl ⟨rfl, _, SqL.of hD4⟩, _, rfl, _, rfl, t4, _, ⟨b, D, (.one .not f1), told, rfl, hb4, SqL.of hD4, rfl, by rw [li]; exact okf, rfl⟩, fun v H5 s5 ev => ?_⟩
          rw [ev]
          exact ⟨D, _, _, rfl, rfl, s5.atL t4 hD4, sz, _, _, _, _, _, rfl, fin _ _ s5 rfl⟩
    · rintro σ H' ⟨told, v5, v6, v7, v8, rfl, s3, hD3, li, e⟩
      rw [lx, List.drop_length] at e
      have e : told = ofR lab txs rs q [] := e
      dsimp only
      refine ret_of (then_of ⟨_, rfl, .inl ⟨D, _, rfl, SqL.of hD3, fun z hz => k _ _ (s3.trans (Sm.new s3.2 hz)) ⟨z, rfl, ?_⟩⟩⟩)
      rw [← e]
      exact .inl (.inl upd_same)
end
end K6

set_option Elab.async false
set_option linter.all false
set_option maxRecDepth 100000
set_option maxHeartbeats 4000000
namespace K6
open PySem PySem.Spec PyProof.Rows L2 So
/-! ### the stack of rows as mathematics -/
structure Fm where
  lab : Option Str
  txs : List Str
  rs : List (List Bool)
def Fm.tell (q : List Fa) (m : Fm) : List Bool := ofR m.lab m.txs m.rs q []
def stp (q : List Fa) : List Fm → Sg → List Fm
  | m :: st, .tx z => { m with txs := m.txs ++ [z] } :: st
  | st, .op l => ⟨some l, [], []⟩ :: st
  | m :: n :: st, .cl => { n with rs := n.rs ++ [m.tell q] } :: st
  | st, _ => st
def txsOf : List Nd → List Str
  | [] => []
  | .tx z :: r => z :: txsOf r
  | .el _ _ :: r => txsOf r
mutual
def kidN (q : List Fa) : Nd → List (List Bool)
  | .tx _ => []
  | .el l ds => [ofR (some l) (txsOf ds) (kidS q ds) q []]
def kidS (q : List Fa) : List Nd → List (List Bool)
  | [] => []
  | d :: r => kidN q d ++ kidS q r
end
mutual
theorem run_nd (q : List Fa) : ∀ (d : Nd) (m : Fm) (st : List Fm), (sgN d).foldl (stp q) (m :: st) = { m with txs := m.txs ++ txsOf [d], rs := m.rs ++ kidN q d } :: st
  | .tx z, m, st => by
    rw [sgN, kidN, List.append_nil]
    rfl
  | .el l ds, m, st => by
    rw [sgN, kidN, List.foldl_cons, List.foldl_append]
    show List.foldl (stp q) ((sgs ds).foldl (stp q) (⟨some l, [], []⟩ :: m :: st)) [.cl] = _
    rw [run_nds q ds]
    simp only [List.foldl_cons, List.foldl_nil, List.nil_append, txsOf, List.append_nil]
    rfl
theorem run_nds (q : List Fa) : ∀ (ds : List Nd) (m : Fm) (st : List Fm), (sgs ds).foldl (stp q) (m :: st) = { m with txs := m.txs ++ txsOf ds, rs := m.rs ++ kidS q ds } :: st
  | [], m, st => by
    rw [sgs, kidS, txsOf, List.append_nil, List.append_nil]
    rfl
  | d :: r, m, st => by
    rw [sgs, kidS, List.foldl_append, run_nd q d, run_nds q r]
    simp only [List.append_assoc]
    congr 2
    cases d <;> rfl
end
def okd : Nat → List Sg → Prop
  | _, [] => True
  | n, .tx _ :: r => okd n r
  | n, .op _ :: r => okd (n + 1) r
  | 0, .cl :: _ => False
  | n + 1, .cl :: r => okd n r
mutual
theorem okd_nd : ∀ (d : Nd) (n : Nat) (r : List Sg), okd n r → okd n (sgN d ++ r)
  | .tx z, n, r, h => by
    rw [sgN]
    exact h
  | .el l ds, n, r, h => by
    rw [sgN, List.cons_append, List.append_assoc]
    show okd (n + 1) (sgs ds ++ ([.cl] ++ r))
    exact okd_nds ds (n + 1) _ h
theorem okd_nds : ∀ (ds : List Nd) (n : Nat) (r : List Sg), okd n r → okd n (sgs ds ++ r)
  | [], n, r, h => by
    rw [sgs]
    exact h
  | d :: ds, n, r, h => by
    rw [sgs, List.append_assoc]
    exact okd_nd d n _ (okd_nds ds n r h)
end
theorem okd_sgs (ds : List Nd) : okd 0 (sgs ds) := by
  have := okd_nds ds 0 [] trivial
  rwa [List.append_nil] at this
/-! ### the stack in the heap -/
def ads : List (Addr × Addr) → List Addr
  | [] => []
  | x :: r => x.1 :: x.2 :: ads r
def FrO (K : PySem.W.Frag) (n : Nat) (H : Hp) (x : Addr × Addr) (m : Fm) : Prop := H x.1 = some (.lst (sV m.txs)) ∧ ∃ xs, H x.2 = some (.lst xs) ∧ Paired (ItS (SqT K) H) xs (aV m.rs) ∧ ∀ r ∈ m.rs, r.length = n
def lbs (ms : List Fm) : List V := (ms.map fun m => optV m.lab).reverse
def rf1 (F : List (Addr × Addr)) : List V := (F.map fun x => V.ref x.1).reverse
def rf2 (F : List (Addr × Addr)) : List V := (F.map fun x => V.ref x.2).reverse
theorem lbs_cons (m : Fm) (ms : List Fm) : lbs (m :: ms) = lbs ms ++ [optV m.lab] := by unfold lbs; rw [List.map_cons, List.reverse_cons]
theorem rf1_cons (x : Addr × Addr) (F : List (Addr × Addr)) : rf1 (x :: F) = rf1 F ++ [.ref x.1] := by unfold rf1; rw [List.map_cons, List.reverse_cons]
theorem rf2_cons (x : Addr × Addr) (F : List (Addr × Addr)) : rf2 (x :: F) = rf2 F ++ [.ref x.2] := by unfold rf2; rw [List.map_cons, List.reverse_cons]
theorem rf1_len (F : List (Addr × Addr)) : (rf1 F).length = F.length := by unfold rf1; rw [List.length_reverse, List.length_map]
theorem rf2_len (F : List (Addr × Addr)) : (rf2 F).length = F.length := by unfold rf2; rw [List.length_reverse, List.length_map]
theorem lbs_len (ms : List Fm) : (lbs ms).length = ms.length := by unfold lbs; rw [List.length_reverse, List.length_map]
theorem sm_free {P a : Addr} {H H' : Hp} (s : Sm P H H') (h : H' a = none) (n : a ≠ P) : H a = none := by
  cases q : H a with
  | none => rfl
  | some o =>
    rw [s.1 _ _ n q] at h
    cases h
structure Stk (K : PySem.W.Frag) (P : Addr) (n : Nat) (H0 H : Hp) (LL TL IL : Addr) (F : List (Addr × Addr)) (ms : List Fm) : Prop where
  sm : Sm P H0 H
  ll : H LL = some (.lst (lbs ms))
  tl : H TL = some (.lst (rf1 F))
  il : H IL = some (.lst (rf2 F))
  fr : Paired (FrO K n H) F ms
  nd : (LL :: TL :: IL :: ads F).Nodup
  nn : ∀ a ∈ (LL :: TL :: IL :: ads F), H0 a = none ∧ a ≠ P
theorem FrO.keep {K : PySem.W.Frag} {n : Nat} {H H' : Hp} (tp : Tp H H') : ∀ {F : List (Addr × Addr)} {ms : List Fm}, (∀ a ∈ ads F, H' a = H a) → Paired (FrO K n H) F ms → Paired (FrO K n H') F ms
  | _, _, _, .nil => .nil
  | x :: F, m :: ms, h, .cons ⟨h1, xs, h2, h3, h4⟩ r => by
    refine .cons ⟨(h _ (List.mem_cons_self ..)).trans h1, xs, (h _ (List.mem_cons_of_mem _ (List.mem_cons_self ..))).trans h2, paired_mono (fun _ _ ⟨b, e, h⟩ => ⟨b, e, tp.sq h⟩) h3, h4⟩ (FrO.keep tp (fun a ha => h a (List.mem_cons_of_mem _ (List.mem_cons_of_mem _ ha))) r)
theorem fr_some {K : PySem.W.Frag} {n : Nat} {H : Hp} : ∀ {F : List (Addr × Addr)} {ms : List Fm}, Paired (FrO K n H) F ms → ∀ a ∈ ads F, ∃ xs, H a = some (.lst xs)
  | _, _, .nil, _, h => by cases h
  | x :: F, m :: ms, .cons ⟨h1, xs, h2, _⟩ r, a, h => by
    rcases List.mem_cons.mp h with h | h
    · exact ⟨_, h ▸ h1⟩
    · rcases List.mem_cons.mp h with h | h
      · exact ⟨_, h ▸ h2⟩
      · exact fr_some r a h
section
variable {K : PySem.W.Frag} {P : Addr} {n : Nat} {H0 H : Hp} {LL TL IL : Addr} {F : List (Addr × Addr)} {ms : List Fm}
theorem Stk.all (S : Stk K P n H0 H LL TL IL F ms) : ∀ a ∈ (LL :: TL :: IL :: ads F), ∃ xs, H a = some (.lst xs) := by
  intro a h
  rcases List.mem_cons.mp h with h | h
  · exact ⟨_, h ▸ S.ll⟩
  rcases List.mem_cons.mp h with h | h
  · exact ⟨_, h ▸ S.tl⟩
  rcases List.mem_cons.mp h with h | h
  · exact ⟨_, h ▸ S.il⟩
  exact fr_some S.fr a h
theorem Stk.step (S : Stk K P n H0 H LL TL IL F ms) {H' : Hp} (s : Sm P H H') : Stk K P n H0 H' LL TL IL F ms := by
  have t := S.sm.2
  have kp : ∀ a ∈ (LL :: TL :: IL :: ads F), H' a = H a := fun a ha => by
    obtain ⟨xs, e⟩ := S.all a ha
    rw [e]
    exact s.atL t e
  exact {
    sm := S.sm.trans s
    ll := s.atL t S.ll
    tl := s.atL t S.tl
    il := s.atL t S.il
    fr := FrO.keep (Tp.sm t s) (fun a ha => kp a (List.mem_cons_of_mem _ (List.mem_cons_of_mem _ (List.mem_cons_of_mem _ ha)))) S.fr
    nd := S.nd
    nn := S.nn }
/-- what differs -/
theorem Stk.ne (S : Stk K P n H0 H LL TL IL F ms) : LL ≠ TL ∧ LL ≠ IL ∧ TL ≠ IL ∧ (∀ a ∈ ads F, a ≠ LL ∧ a ≠ TL ∧ a ≠ IL) ∧ (ads F).Nodup := by
  have h := S.nd
  simp only [List.nodup_cons, List.mem_cons, not_or] at h
  obtain ⟨⟨h1, h2, h3⟩, ⟨h4, h5⟩, h6, h7⟩ := h
  exact ⟨h1, h2, h4, fun a ha => ⟨fun e => h3 (e ▸ ha), fun e => h5 (e ▸ ha), fun e => h6 (e ▸ ha)⟩, h7⟩
/-- a text -/
theorem Stk.txt {x : Addr × Addr} {m : Fm} (S : Stk K P n H0 H LL TL IL (x :: F) (m :: ms)) (z : Str) : Stk K P n H0 (upd H x.1 (.lst (sV m.txs ++ [.str z]))) LL TL IL (x :: F) ({ m with txs := m.txs ++ [z] } :: ms) := by
  obtain ⟨n1, n2, n3, n4, n5⟩ := S.ne
  have hx := S.nn x.1 (by simp [ads])
  obtain ⟨m1, m2, m3⟩ := n4 x.1 (by simp [ads])
  have fr := S.fr
  cases fr with
  | cons f r =>
    obtain ⟨h1, xs, h2, h3, h4⟩ := f
    have tp : Tp H (upd H x.1 (.lst (sV m.txs ++ [.str z]))) := Tp.lst h1
    simp only [ads, List.nodup_cons, List.mem_cons, not_or] at n5
    obtain ⟨⟨p1, p2⟩, p3, p4⟩ := n5
    exact {
      sm := S.sm.mut hx.1 hx.2
      ll := by rw [upd_ne m1.symm]; exact S.ll
      tl := by rw [upd_ne m2.symm]; exact S.tl
      il := by rw [upd_ne m3.symm]; exact S.il
      fr := .cons ⟨by rw [upd_same]; unfold sV; rw [List.map_append]; rfl, xs, by rw [upd_ne (Ne.symm p1)]; exact h2, paired_mono (fun _ _ ⟨b, e, h⟩ => ⟨b, e, tp.sq h⟩) h3, h4⟩ (FrO.keep tp (fun a ha => upd_ne (fun e => p2 (e ▸ ha))) r)
      nd := S.nd
      nn := S.nn }
/-- a row told -/
theorem Stk.tel {x : Addr × Addr} {m : Fm} (S : Stk K P n H0 H LL TL IL (x :: F) (m :: ms)) {b : Addr} {r : List Bool} (hb : SqT K H b (bV r)) (hr : r.length = n) : ∃ xs, H x.2 = some (.lst xs) ∧ xs.length = m.rs.length ∧ Stk K P n H0 (upd H x.2 (.lst (xs ++ [.ref b]))) LL TL IL (x :: F) ({ m with rs := m.rs ++ [r] } :: ms) := by
  obtain ⟨n1, n2, n3, n4, n5⟩ := S.ne
  have hx := S.nn x.2 (by simp [ads])
  obtain ⟨m1, m2, m3⟩ := n4 x.2 (by simp [ads])
  have fr := S.fr
  cases fr with
  | cons f r' =>
    obtain ⟨h1, xs, h2, h3, h4⟩ := f
    have tp : Tp H (upd H x.2 (.lst (xs ++ [.ref b]))) := Tp.lst h2
    simp only [ads, List.nodup_cons, List.mem_cons, not_or] at n5
    obtain ⟨⟨p1, p2⟩, p3, p4⟩ := n5
    refine ⟨xs, h2, rw_len h3, {
      sm := S.sm.mut hx.1 hx.2
      ll := by rw [upd_ne m1.symm]; exact S.ll
      tl := by rw [upd_ne m2.symm]; exact S.tl
      il := by rw [upd_ne m3.symm]; exact S.il
      fr := .cons ⟨by rw [upd_ne p1]; exact h1, xs ++ [.ref b], upd_same, ?_, ?_⟩ (FrO.keep tp (fun a ha => upd_ne (fun e => p3 (e ▸ ha))) r')
      nd := S.nd
      nn := S.nn }⟩
    · unfold aV
      rw [List.map_append]
      exact paired_append (paired_mono (fun _ _ ⟨b, e, h⟩ => ⟨b, e, tp.sq h⟩) h3) (.cons ⟨b, rfl, tp.sq hb⟩ .nil)
    · intro r1 h
      rcases List.mem_append.mp h with h | h
      · exact h4 _ h
      · rw [List.mem_singleton.mp h]
        exact hr
/-- an element opens -/
theorem Stk.opn (S : Stk K P n H0 H LL TL IL F ms) (l : Str) {p p2 : Addr} (h1 : (upd H LL (.lst (lbs ms ++ [.str l]))) p = none) (h2 : (upd (upd (upd H LL (.lst (lbs ms ++ [.str l]))) p (.lst [])) TL (.lst (rf1 F ++ [.ref p]))) p2 = none) :
    Stk K P n H0 (upd (upd (upd (upd (upd H LL (.lst (lbs ms ++ [.str l]))) p (.lst [])) TL (.lst (rf1 F ++ [.ref p]))) p2 (.lst [])) IL (.lst (rf2 F ++ [.ref p2]))) LL TL IL ((p, p2) :: F) (⟨some l, [], []⟩ :: ms) := by
  obtain ⟨n1, n2, n3, n4, n5⟩ := S.ne
  have t := S.sm.2
  have pL : p ≠ LL := fun e => by rw [e, upd_same] at h1; cases h1
  rw [upd_ne pL] at h1
  have pA : ∀ a ∈ (LL :: TL :: IL :: ads F), p ≠ a := fun a ha e => by
    obtain ⟨xs, h⟩ := S.all a ha
    rw [e, h] at h1
    cases h1
  have pT := pA TL (by simp)
  have pI := pA IL (by simp)
  have qT : p2 ≠ TL := fun e => by rw [e, upd_same] at h2; cases h2
  rw [upd_ne qT] at h2
  have qp : p2 ≠ p := fun e => by rw [e, upd_same] at h2; cases h2
  rw [upd_ne qp] at h2
  have qL : p2 ≠ LL := fun e => by rw [e, upd_same] at h2; cases h2
  rw [upd_ne qL] at h2
  have qA : ∀ a ∈ (LL :: TL :: IL :: ads F), p2 ≠ a := fun a ha e => by
    obtain ⟨xs, h⟩ := S.all a ha
    rw [e, h] at h2
    cases h2
  have qI := qA IL (by simp)
  have kL := S.nn LL (by simp)
  have kT := S.nn TL (by simp)
  have kI := S.nn IL (by simp)
  have kp : H0 p = none ∧ p ≠ P := ⟨sm_free S.sm h1 (nPt t h1), nPt t h1⟩
  have kq : H0 p2 = none ∧ p2 ≠ P := ⟨sm_free S.sm h2 (nPt t h2), nPt t h2⟩
  have tp : Tp H (upd (upd (upd (upd (upd H LL (.lst (lbs ms ++ [.str l]))) p (.lst [])) TL (.lst (rf1 F ++ [.ref p]))) p2 (.lst [])) IL (.lst (rf2 F ++ [.ref p2]))) := by
    refine (Tp.lst S.ll).trans ((Tp.new (by rw [upd_ne pL]; exact h1)).trans ((Tp.lst (ys := rf1 F) (by rw [upd_ne pT.symm, upd_ne n1.symm]; exact S.tl)).trans ((Tp.new (by rw [upd_ne qT, upd_ne qp, upd_ne qL]; exact h2)).trans (Tp.lst (ys := rf2 F) ?_))))
    rw [upd_ne qI.symm, upd_ne n3.symm, upd_ne pI.symm, upd_ne n2.symm]
    exact S.il
  refine {
    sm := ((((S.sm.mut kL.1 kL.2).mut kp.1 kp.2).mut kT.1 kT.2).mut kq.1 kq.2).mut kI.1 kI.2
    ll := by rw [upd_ne n2, upd_ne qL.symm, upd_ne n1, upd_ne pL.symm, upd_same, lbs_cons]; rfl
    tl := by rw [upd_ne n3, upd_ne qT.symm, upd_same, rf1_cons]
    il := by rw [upd_same, rf2_cons]
    fr := .cons ⟨?_, [], ?_, .nil, fun _ h => nomatch h⟩ (FrO.keep tp (fun a ha => ?_) S.fr)
    nd := ?_
    nn := ?_ }
  · rw [upd_ne pI, upd_ne qp.symm, upd_ne pT, upd_same]
    rfl
  · rw [upd_ne qI, upd_same]
  · obtain ⟨m1, m2, m3⟩ := n4 a ha
    have ma : a ∈ (LL :: TL :: IL :: ads F) := by simp [ha]
    rw [upd_ne m3, upd_ne (qA a ma).symm, upd_ne m2, upd_ne (pA a ma).symm, upd_ne m1]
  · have h := S.nd
    simp only [ads, List.nodup_cons, List.mem_cons, not_or] at h ⊢
    obtain ⟨⟨h1, h2, h3⟩, ⟨h4, h5⟩, h6, h7⟩ := h
    exact ⟨⟨h1, h2, pL.symm, qL.symm, h3⟩, ⟨h4, pT.symm, qT.symm, h5⟩, ⟨pI.symm, qI.symm, h6⟩, ⟨qp.symm, fun e => pA p (by simp [e]) rfl⟩, fun e => qA p2 (by simp [e]) rfl, h7⟩
  · intro a ha
    simp only [ads, List.mem_cons] at ha
    rcases ha with h | h | h | h | h | h
    · exact h ▸ kL
    · exact h ▸ kT
    · exact h ▸ kI
    · exact h ▸ kp
    · exact h ▸ kq
    · exact S.nn a (by simp [h])
/-- an element closes: its frame leaves -/
theorem Stk.cls {x : Addr × Addr} {m : Fm} (S : Stk K P n H0 H LL TL IL (x :: F) (m :: ms)) :
    Stk K P n H0 (upd (upd (upd H LL (.lst (lbs ms))) TL (.lst (rf1 F))) IL (.lst (rf2 F))) LL TL IL F ms ∧ FrO K n (upd (upd (upd H LL (.lst (lbs ms))) TL (.lst (rf1 F))) IL (.lst (rf2 F))) x m := by
  obtain ⟨n1, n2, n3, n4, n5⟩ := S.ne
  have kL := S.nn LL (by simp)
  have kT := S.nn TL (by simp)
  have kI := S.nn IL (by simp)
  have tp : Tp H (upd (upd (upd H LL (.lst (lbs ms))) TL (.lst (rf1 F))) IL (.lst (rf2 F))) := by
    refine (Tp.lst S.ll).trans ((Tp.lst (ys := rf1 (x :: F)) (by rw [upd_ne n1.symm]; exact S.tl)).trans (Tp.lst (ys := rf2 (x :: F)) ?_))
    rw [upd_ne n3.symm, upd_ne n2.symm]
    exact S.il
  have kp : ∀ a ∈ ads (x :: F), (upd (upd (upd H LL (.lst (lbs ms))) TL (.lst (rf1 F))) IL (.lst (rf2 F))) a = H a := fun a ha => by
    obtain ⟨m1, m2, m3⟩ := n4 a ha
    rw [upd_ne m3, upd_ne m2, upd_ne m1]
  have fr := FrO.keep tp kp S.fr
  cases fr with
  | cons f r =>
    refine ⟨{
      sm := ((S.sm.mut kL.1 kL.2).mut kT.1 kT.2).mut kI.1 kI.2
      ll := by rw [upd_ne n2, upd_ne n1, upd_same]
      tl := by rw [upd_ne n3, upd_same]
      il := upd_same
      fr := r
      nd := ?_
      nn := fun a ha => S.nn a ?_ }, f⟩
    · have h := S.nd
      simp only [ads, List.nodup_cons, List.mem_cons, not_or] at h ⊢
      obtain ⟨⟨h1, h2, _, _, h3⟩, ⟨h4, _, _, h5⟩, ⟨_, _, h6⟩, _, _, h7⟩ := h
      exact ⟨⟨h1, h2, h3⟩, ⟨h4, h5⟩, h6, h7⟩
    · simp only [ads, List.mem_cons] at ha ⊢
      rcases ha with h | h | h | h
      · exact .inl h
      · exact .inr (.inl h)
      · exact .inr (.inr (.inl h))
      · exact .inr (.inr (.inr (.inr (.inr h))))
end
end K6

set_option Elab.async false
set_option linter.all false
set_option maxRecDepth 100000
set_option maxHeartbeats 4000000
namespace K6
open PySem PySem.Spec PyProof.Rows L2 So
theorem Stk.start {K : PySem.W.Frag} {P : Addr} {n : Nat} {H : Hp} {LL TL IL p p2 : Addr} (t : GxR.TabG H P) (lab : Option Str) (h1 : H LL = none) (h2 : (upd H LL (.lst [optV lab])) p = none) (h3 : (upd (upd H LL (.lst [optV lab])) p (.lst [])) TL = none)
    (h4 : (upd (upd (upd H LL (.lst [optV lab])) p (.lst [])) TL (.lst [.ref p])) p2 = none) (h5 : (upd (upd (upd (upd H LL (.lst [optV lab])) p (.lst [])) TL (.lst [.ref p])) p2 (.lst [])) IL = none) :
    Stk K P n H (upd (upd (upd (upd (upd H LL (.lst [optV lab])) p (.lst [])) TL (.lst [.ref p])) p2 (.lst [])) IL (.lst [.ref p2])) LL TL IL [(p, p2)] [⟨lab, [], []⟩] := by
  have ne : ∀ {H : Hp} {a b : Addr} {o : HO}, upd H a o b = none → b ≠ a ∧ H b = none := fun {H a b o} e => by
    have q : b ≠ a := fun z => by rw [z, upd_same] at e; cases e
    rw [upd_ne q] at e
    exact ⟨q, e⟩
  obtain ⟨pL, h2⟩ := ne h2
  obtain ⟨tp, h3⟩ := ne h3
  obtain ⟨tL, h3⟩ := ne h3
  obtain ⟨qt, h4⟩ := ne h4
  obtain ⟨qp, h4⟩ := ne h4
  obtain ⟨qL, h4⟩ := ne h4
  obtain ⟨iq, h5⟩ := ne h5
  obtain ⟨it, h5⟩ := ne h5
  obtain ⟨ip, h5⟩ := ne h5
  obtain ⟨iL, h5⟩ := ne h5
  have nP : ∀ {a : Addr}, H a = none → H a = none ∧ a ≠ P := fun e => ⟨e, nPt t e⟩
  refine {
    sm := (((((Sm.refl t).mut h1 (nP h1).2).mut h2 (nP h2).2).mut h3 (nP h3).2).mut h4 (nP h4).2).mut h5 (nP h5).2
    ll := by rw [upd_ne iL.symm, upd_ne qL.symm, upd_ne tL.symm, upd_ne pL.symm, upd_same]; rfl
    tl := by rw [upd_ne it.symm, upd_ne qt.symm, upd_same]; rfl
    il := by rw [upd_same]; rfl
    fr := .cons ⟨by rw [upd_ne ip.symm, upd_ne qp.symm, upd_ne tp.symm, upd_same]; rfl, [], by rw [upd_ne iq.symm, upd_same], .nil, fun _ h => nomatch h⟩ .nil
    nd := ?_
    nn := ?_ }
  · simp only [ads, List.nodup_cons, List.mem_cons, not_or, List.not_mem_nil, not_false_iff, List.nodup_nil, and_true]
    exact ⟨⟨tL.symm, iL.symm, pL.symm, qL.symm⟩, ⟨it.symm, tp, qt.symm⟩, ⟨ip, iq⟩, qp.symm⟩
  · intro a ha
    simp only [ads, List.mem_cons, List.not_mem_nil, or_false] at ha
    rcases ha with rfl | rfl | rfl | rfl | rfl
    · exact nP h1
    · exact nP h3
    · exact nP h5
    · exact nP h2
    · exact nP h4
theorem Stk.opnT {K : PySem.W.Frag} {P : Addr} {n : Nat} {H0 H : Hp} {LL TL IL : Addr} {F : List (Addr × Addr)} {ms : List Fm} (S : Stk K P n H0 H LL TL IL F ms) (l : Str) {p p2 : Addr} (h1 : (upd H LL (.lst (lbs ms ++ [.str l]))) p = none) (h2 : (upd (upd (upd H LL (.lst (lbs ms ++ [.str l]))) p (.lst [])) TL (.lst (rf1 F ++ [.ref p]))) p2 = none) :
    Tp H (upd (upd (upd (upd (upd H LL (.lst (lbs ms ++ [.str l]))) p (.lst [])) TL (.lst (rf1 F ++ [.ref p]))) p2 (.lst [])) IL (.lst (rf2 F ++ [.ref p2]))) := by
  obtain ⟨n1, n2, n3, n4, n5⟩ := S.ne
  refine (Tp.lst S.ll).trans ((Tp.new h1).trans ((Tp.lst (ys := rf1 F) ?_).trans ((Tp.new h2).trans (Tp.lst (ys := rf2 F) ?_))))
  · have pT : p ≠ TL := fun e => by
      rw [e, upd_ne n1.symm, S.tl] at h1
      cases h1
    rw [upd_ne pT.symm, upd_ne n1.symm]
    exact S.tl
  · have pI : p ≠ IL := fun e => by
      rw [e, upd_ne n2.symm, S.il] at h1
      cases h1
    have e : (upd (upd (upd H LL (.lst (lbs ms ++ [.str l]))) p (.lst [])) TL (.lst (rf1 F ++ [.ref p]))) IL = some (.lst (rf2 F)) := by
      rw [upd_ne n3.symm, upd_ne pI.symm, upd_ne n2.symm]
      exact S.il
    have qI : p2 ≠ IL := fun z => by
      rw [z, e] at h2
      cases h2
    rw [upd_ne qI.symm]
    exact e
theorem Stk.clsT {K : PySem.W.Frag} {P : Addr} {n : Nat} {H0 H : Hp} {LL TL IL : Addr} {F : List (Addr × Addr)} {ms : List Fm} {x : Addr × Addr} {m : Fm} (S : Stk K P n H0 H LL TL IL (x :: F) (m :: ms)) : Tp H (upd (upd (upd H LL (.lst (lbs ms))) TL (.lst (rf1 F))) IL (.lst (rf2 F))) := by
  obtain ⟨n1, n2, n3, n4, n5⟩ := S.ne
  refine (Tp.lst S.ll).trans ((Tp.lst (ys := rf1 (x :: F)) (by rw [upd_ne n1.symm]; exact S.tl)).trans (Tp.lst (ys := rf2 (x :: F)) ?_))
  rw [upd_ne n3.symm, upd_ne n2.symm]
  exact S.il
section
variable {Pg : Program} {w : World} {K : PySem.W.Frag} {mg : Str → Option Value} {base : Heap} {P d J : Addr}
abbrev sRfs : Stmt := top 35
theorem scRfs : FnScope ["question", "label", "document", "facts", "labels", "texts", "inner", "sign", "told"] ["question", "label", "document"] (defScope sRfs) := ⟨rfl, rfl, rfl, by decide +kernel, rfl, by decide +kernel, by decide +kernel⟩
def rowF (q : List Fa) (lab : Option Str) (ds : List Nd) : List Bool := ofR lab (txsOf ds) (kidS q ds) q []
def spRfs (K : PySem.W.Frag) (P : Addr) : Sp := Pu P fun vs H R => ∃ (v : V) (a : Addr) (lab : Option Str) (q : List Fa) (xs : List V) (ds : List Nd), vs = [v, optV lab, .ref a] ∧ RowsS (Sq K) H v (fV q) ∧ okQ q ∧ Sq K H a xs ∧ DpAll K H xs (ndsD ds) ∧ (sgs ds).all Sg.ok = true ∧ (sgs ds).length ≤ 1000 ∧ R = fun v H' => ItS (SqT K) H' v (bV (rowF q lab ds))
theorem ok_rfs {f fC fS fO : Addr} {fd fdC fdS fdO : FuncData} (F : Fun K "row_facts" "row_facts" sRfs f fd) (T : Tz K w mg d J) (Ck : Df K mg "check_question" sCkq ["value"] fC fdC) (GC : FnOk Pg w K mg base CX0 5 fC fdC ["value"] (spCkq K P))
    (Si : Df K mg "signs_of" sSig ["document"] fS fdS) (GS : FnOk Pg w K mg base CX0 4 fS fdS ["document"] (spSig K P)) (Of : Df K mg "_of_row" sOfr ["facts", "label", "texts", "inner"] fO fdO) (GO : FnOk Pg w K mg base CX0 3 fO fdO ["facts", "label", "texts", "inner"] (spOfr K P)) :
    FnOk Pg w K mg base CX0 6 f fd ["question", "label", "document"] (spRfs K P) := by
  refine F.ok scRfs (fun vs H Q E h => ?_) (fun cdv A outer s H vs Q E hr h => ?_)
  · obtain ⟨_, _, ⟨_, _, _, _, _, _, rfl, _⟩, _⟩ := h
    rfl
  · obtain ⟨t, _, ⟨v, a, lab, q, xs, ds, rfl, hq, okq, hx, hds, hok, hlen, rfl⟩, k⟩ := h
    have r5 : Room 5 _ := hr
    have r4 : Room 4 _ := hr.mono (by decide)
    have r3 : Room 3 _ := hr.mono (by decide)
    refine ⟨_, (pss_cons (ps_set (i := 3) scRfs.nd rfl (Or.inl rfl) (pe_call GC r5 (by rfl) Ck.g Ck.F.kp Ck.b .nil pass0 (pa_cons (pv 0) pa_nil)))
      (pss_cons (ps_set (i := 4) scRfs.nd rfl (Or.inl rfl) (pe_lst (pa_cons (pv 1) pa_nil)))
      (pss_cons (ps_set (i := 5) scRfs.nd rfl (Or.inl rfl) (pe_lst (pa_cons (pe_lst pa_nil) pa_nil)))
      (pss_cons (ps_set (i := 6) scRfs.nd rfl (Or.inl rfl) (pe_lst (pa_cons (pe_lst pa_nil) pa_nil)))
      (pss_cons (ps_for PassesOwn.never rfl (pi_tup (pe_call GS r4 (by rfl) Si.g Si.F.kp Si.b .nil pass0 (pa_cons (pv 2) pa_nil))) (pg_name (i := 7) scRfs.nd rfl (Or.inl rfl)) (pss_one (ps_if (pt_cmpR op_eq (pe_ix ix_tup (pv 7) pe_int (fun _ _ => rfl)) pe_str (nomark _)) (pss_one (ps_expr (pe_bm PySem.F.plainAttrs_list PySem.F.slot_list_append PySem.F.type_list_append mt_append (pe_ix ix_list (pv 5) (pe_un un_neg pe_int) (fun _ _ => rfl)) (pa_cons (pe_ix ix_tup (pv 7) pe_int (fun _ _ => rfl)) pa_nil)))) (pss_one (ps_if (pt_cmpR op_eq (pe_ix ix_tup (pv 7) pe_int (fun _ _ => rfl)) pe_str (nomark _)) (pss_cons (ps_expr (pe_bm PySem.F.plainAttrs_list PySem.F.slot_list_append PySem.F.type_list_append mt_append (pv 4) (pa_cons (pe_ix ix_tup (pv 7) pe_int (fun _ _ => rfl)) pa_nil)))
      (pss_cons (ps_expr (pe_bm PySem.F.plainAttrs_list PySem.F.slot_list_append PySem.F.type_list_append mt_append (pv 5) (pa_cons (pe_lst pa_nil) pa_nil)))
      (pss_one (ps_expr (pe_bm PySem.F.plainAttrs_list PySem.F.slot_list_append PySem.F.type_list_append mt_append (pv 6) (pa_cons (pe_lst pa_nil) pa_nil)))))) (pss_cons (ps_set (i := 8) scRfs.nd rfl (Or.inl rfl) (pe_call GO r3 (by rfl) Of.g Of.F.kp Of.b .nil pass0 (pa_cons (pv 3) (pa_cons (pe_bm0 PySem.F.plainAttrs_list PySem.F.slot_list_pop PySem.F.type_list_pop mt_pop (pv 4)) (pa_cons (pe_bm0 PySem.F.plainAttrs_list PySem.F.slot_list_pop PySem.F.type_list_pop mt_pop (pv 5)) (pa_cons (pe_bm0 PySem.F.plainAttrs_list PySem.F.slot_list_pop PySem.F.type_list_pop mt_pop (pv 6)) pa_nil))))))
      (pss_one (ps_expr (pe_bm PySem.F.plainAttrs_list PySem.F.slot_list_append PySem.F.type_list_append mt_append (pe_ix ix_list (pv 6) (pe_un un_neg pe_int) (fun _ _ => rfl)) (pa_cons (pv 8) pa_nil))))))))))
      (pss_one (ps_ret (pe_call GO r3 (by rfl) Of.g Of.F.kp Of.b .nil pass0 (pa_cons (pv 3) (pa_cons (pv 1) (pa_cons (pe_ix ix_list (pv 5) pe_int (fun _ _ => rfl)) (pa_cons (pe_ix ix_list (pv 6) pe_int (fun _ _ => rfl)) pa_nil)))))))))))), ?_⟩
    have small : ∀ {n : Nat}, n ≤ 1002 → n < sizeLine := fun h => Nat.lt_of_le_of_lt h (by decide)
    refine ⟨_, rfl, t, _, ⟨v, q, rfl, hq, okq, rfl⟩, fun v1 H1 s1 hF => ?_⟩
    obtain ⟨fa, xs1, rfl, hfa⟩ := hF
    have t1 := s1.2
    refine ⟨_, rfl, (by show 1 ≤ sizeLine; decide), fun LL h1 => ?_⟩
    refine ⟨(by decide), fun p h2 => ⟨(by show 1 ≤ sizeLine; decide), fun TL h3 => ?_⟩⟩
    refine ⟨(by decide), fun p2 h4 => ⟨(by show 1 ≤ sizeLine; decide), fun IL h5 => ?_⟩⟩
    have S0 : Stk K P q.length H1 _ LL TL IL [(p, p2)] [⟨lab, [], []⟩] := Stk.start t1 lab h1 h2 h3 h4 h5
    generalize eS : upd _ IL (HO.lst [V.ref p2]) = H2 at S0
    have s12 : Sm P H H2 := s1.trans S0.sm
    clear eS h1 h2 h3 h4 h5
    have hp1 := Paired.length S0.fr
    refine ⟨_, rfl, S0.sm.2, _, ⟨a, xs, ds, rfl, hx.mono t s12, nds_tp (Tp.sm t s12) ds xs hds, hok, hlen, rfl⟩, fun v2 Hs s3 ⟨qq, ys, eqq, hrow⟩ => ?_⟩
    subst eqq
    obtain ⟨hqs, hys, _, _⟩ := hrow
    have S1 := S0.step s3
    have ly := Paired.length hys
    have fnd : ∀ (H' : Hp) (x : Addr × Addr) (F : List (Addr × Addr)) (m : Fm) (ms : List Fm), Stk K P q.length H1 H' LL TL IL (x :: F) (m :: ms) → RowsS (SqT K) H' (.ref fa) (fV q) := fun H' x F m ms S => RowsS.mono mo_tup t1 S.sm ⟨fa, xs1, rfl, hfa⟩
    refine ⟨qq, rfl, ⟨_, hqs⟩, for_tup (xs := ys) (fun i σ H' => ∃ (x : Addr × Addr) (F : List (Addr × Addr)) (m : Fm) (ms : List Fm) (v7 v8 : Option V), σ = [some v, some (optV lab), some (.ref a), some (.ref fa), some (.ref LL), some (.ref TL), some (.ref IL), v7, v8] ∧ Stk K P q.length H1 H' LL TL IL (x :: F) (m :: ms) ∧ Tp Hs H' ∧ ((sgs ds).drop i).foldl (stp q) (m :: ms) = [⟨lab, txsOf ds, kidS q ds⟩] ∧ okd ms.length ((sgs ds).drop i) ∧ ms.length ≤ i ∧ ∀ m' ∈ m :: ms, m'.txs.length ≤ i ∧ m'.rs.length ≤ i)
      ⟨(p, p2), [], ⟨lab, [], []⟩, [], none, none, rfl, S1, Tp.refl _, by rw [List.drop_zero, run_nds]; rfl, by rw [List.drop_zero]; exact okd_sgs ds, Nat.le_refl _, fun m' h => by rw [List.mem_singleton.mp h]; exact ⟨Nat.le_refl _, Nat.le_refl _⟩⟩ (fun i σ H' _ ⟨_, _, _, _, _, _, _, _, tp, _⟩ => tp.sq hqs) ?_ ?_⟩
    · rintro i y σ H' hy ⟨x, F, m, ms, v7, v8, rfl, S, tp, ef, ed, hm, hb⟩
      obtain ⟨g, hg, c, rfl, hc⟩ := paired_get hys hy
      have hi : i < (sgs ds).length := (List.getElem?_eq_some_iff.mp hg).1
      rw [drop_at hg] at ef ed
      have hc := tp.sq hc
      obtain ⟨n1, n2, n3, n4, n5⟩ := S.ne
      have l1 : F.length = ms.length := by
        have := Paired.length S.fr
        simpa using this
      have bm := hb m (List.mem_cons_self ..)
      have nxb : ∀ {m1 : Fm} {ms1 : List Fm}, m1.txs.length ≤ i + 1 ∧ m1.rs.length ≤ i + 1 → (∀ m' ∈ ms1, m' ∈ m :: ms) → ∀ m' ∈ m1 :: ms1, m'.txs.length ≤ i + 1 ∧ m'.rs.length ≤ i + 1 := fun h h2 m' hm' => by
        rcases List.mem_cons.mp hm' with e | e
        · rw [e]
          exact h
        · have := hb m' (h2 m' e)
          omega
      cases g with
      | tx z =>
        have fr := S.fr
        cases fr with
        | cons f r =>
          obtain ⟨h1, xsr, h2, h3, h4⟩ := f
          refine ⟨_, rfl, c, _, _, _, rfl, rfl, hc, atI_nat (j := 0) rfl, rfl, _, rfl, iteE ?_⟩
          refine ⟨_, rfl, _, rfl, TL, _, _, _, rfl, rfl, SqL.of S.tl, by rw [rf1_cons]; exact atI_last _ _, ?_⟩
          refine ⟨.inl ⟨rfl, _, SqL.of h1⟩, _, rfl, c, _, _, _, rfl, rfl, hc, atI_nat (j := 1) rfl, x.1, _, _, rfl, rfl, h1, small (by unfold sV; rw [List.length_map]; omega), ?_⟩
          exact ⟨x, F, _, ms, _, _, rfl, S.txt z, tp.trans (Tp.lst h1), ef, ed, Nat.le_succ_of_le hm, nxb ⟨by rw [List.length_append]; simp; omega, by show m.rs.length ≤ _; omega⟩ (fun m' h => List.mem_cons_of_mem _ h)⟩
      | op l =>
        refine ⟨_, rfl, c, _, _, _, rfl, rfl, hc, atI_nat (j := 0) rfl, rfl, _, rfl, iteN (by show decide (("open" : Str) = "text") = false; decide +kernel) ?_⟩
        refine ⟨_, rfl, c, _, _, _, rfl, rfl, hc, atI_nat (j := 0) rfl, rfl, _, rfl, iteE ?_⟩
        refine ⟨_, rfl, .inl ⟨rfl, _, SqL.of S.ll⟩, _, rfl, c, _, _, _, rfl, rfl, hc, atI_nat (j := 1) rfl, LL, _, _, rfl, rfl, S.ll, small (by rw [lbs_len, List.length_cons]; omega), ?_⟩
        have q1 : (upd H' LL (.lst (lbs (m :: ms) ++ [.str l]))) TL = some (.lst (rf1 (x :: F))) := by rw [upd_ne n1.symm]; exact S.tl
        refine ⟨_, rfl, .inl ⟨rfl, _, SqL.of q1⟩, (by decide), fun p hp => ?_⟩
        have pT : p ≠ TL := fun e => by rw [e, q1] at hp; cases hp
        have q2 : (upd (upd H' LL (.lst (lbs (m :: ms) ++ [.str l]))) p (.lst [])) TL = some (.lst (rf1 (x :: F))) := by rw [upd_ne pT.symm]; exact q1
        refine ⟨TL, _, _, rfl, rfl, q2, small (by rw [rf1_len, List.length_cons]; omega), ?_⟩
        have q3 : (upd H' LL (.lst (lbs (m :: ms) ++ [.str l]))) IL = some (.lst (rf2 (x :: F))) := by rw [upd_ne n2.symm]; exact S.il
        have pI : p ≠ IL := fun e => by rw [e, q3] at hp; cases hp
        have q4 : (upd (upd (upd H' LL (.lst (lbs (m :: ms) ++ [.str l]))) p (.lst [])) TL (.lst (rf1 (x :: F) ++ [.ref p]))) IL = some (.lst (rf2 (x :: F))) := by rw [upd_ne n3.symm, upd_ne pI.symm]; exact q3
        refine ⟨_, rfl, .inl ⟨rfl, _, SqL.of q4⟩, (by decide), fun p2 hp2 => ?_⟩
        have qI : p2 ≠ IL := fun e => by rw [e, q4] at hp2; cases hp2
        refine ⟨IL, _, _, rfl, rfl, (by rw [upd_ne qI.symm]; exact q4), small (by rw [rf2_len, List.length_cons]; omega), ?_⟩
        exact ⟨(p, p2), x :: F, ⟨some l, [], []⟩, m :: ms, _, _, rfl, S.opn l hp hp2, tp.trans (S.opnT l hp hp2), ef, ed, Nat.succ_le_succ hm, nxb ⟨Nat.zero_le _, Nat.zero_le _⟩ (fun m' h => h)⟩
      | cl =>
        refine ⟨_, rfl, c, _, _, _, rfl, rfl, hc, atI_nat (j := 0) rfl, rfl, _, rfl, iteN (by show decide (("close" : Str) = "text") = false; decide +kernel) ?_⟩
        refine ⟨_, rfl, c, _, _, _, rfl, rfl, hc, atI_nat (j := 0) rfl, rfl, _, rfl, iteN (by show decide (("close" : Str) = "open") = false; decide +kernel) ?_⟩
        cases ms with
        | nil => exact ed.elim
        | cons m2 ms =>
          cases F with
          | nil => simp at l1
          | cons x2 F =>
            have e1 : H' LL = some (.lst (lbs (m2 :: ms) ++ [optV m.lab])) := by rw [← lbs_cons]; exact S.ll
            have e2 : H' TL = some (.lst (rf1 (x2 :: F) ++ [.ref x.1])) := by rw [← rf1_cons]; exact S.tl
            have e3 : H' IL = some (.lst (rf2 (x2 :: F) ++ [.ref x.2])) := by rw [← rf2_cons]; exact S.il
            obtain ⟨S', f⟩ := S.cls
            have tpc := S.clsT
            have e4 : (upd H' LL (.lst (lbs (m2 :: ms)))) TL = some (.lst (rf1 (x2 :: F) ++ [.ref x.1])) := by rw [upd_ne n1.symm]; exact e2
            have e5 : (upd (upd H' LL (.lst (lbs (m2 :: ms)))) TL (.lst (rf1 (x2 :: F)))) IL = some (.lst (rf2 (x2 :: F) ++ [.ref x.2])) := by rw [upd_ne n3.symm, upd_ne n2.symm]; exact e3
            refine ⟨_, rfl, _, rfl, .inl ⟨rfl, _, SqL.of e1⟩, LL, _, _, rfl, rfl, e1, pop_last _ _, ?_⟩
            rw [List.dropLast_concat]
            refine ⟨_, rfl, .inl ⟨rfl, _, SqL.of e4⟩, TL, _, _, rfl, rfl, e4, pop_last _ _, ?_⟩
            rw [List.dropLast_concat]
            refine ⟨_, rfl, .inl ⟨rfl, _, SqL.of e5⟩, IL, _, _, rfl, rfl, e5, pop_last _ _, ?_⟩
            rw [List.dropLast_concat]
            generalize upd (upd (upd H' LL (.lst (lbs (m2 :: ms)))) TL (.lst (rf1 (x2 :: F)))) IL (.lst (rf2 (x2 :: F))) = Hc at *
            obtain ⟨f1, xsr, f2, f3, f4⟩ := f
            have fn := fnd _ _ _ _ _ S'
            refine ⟨S'.sm.2, _, ⟨fa, x.1, x.2, m.lab, q, m.txs, m.rs, rfl, fn, okq, SqL.of f1, ⟨xsr, SqL.of f2, f3⟩, f4, by omega, rfl⟩, fun v5 H5 s5 ⟨tq, etq, htq⟩ => ?_⟩
            subst etq
            have S5 := S'.step s5
            obtain ⟨xs2, g1, g2, S6⟩ := S5.tel htq (by rw [ofR_len]; simp)
            have b2 := hb m2 (by simp)
            refine ⟨_, rfl, _, rfl, IL, _, _, _, rfl, rfl, SqL.of S5.il, by rw [rf2_cons]; exact atI_last _ _, ?_⟩
            refine ⟨.inl ⟨rfl, _, SqL.of g1⟩, _, rfl, x2.2, _, _, rfl, rfl, g1, small (by omega), ?_⟩
            exact ⟨x2, F, _, ms, _, _, rfl, S6, ((tp.trans tpc).trans (Tp.sm S'.sm.2 s5)).trans (Tp.lst g1), ef, ed, by rw [List.length_cons] at hm; omega, nxb ⟨by show m2.txs.length ≤ _; omega, by show (m2.rs ++ [_]).length ≤ _; rw [List.length_append]; simp; omega⟩ (fun m' h => by simp [h])⟩
    · rintro σ H' ⟨x, F, m, ms, v7, v8, rfl, S, tp, ef, ed, hm, hb⟩
      rw [ly, List.drop_length] at ef
      have ef : m :: ms = [⟨lab, txsOf ds, kidS q ds⟩] := ef
      injection ef with em ems
      subst em ems
      have l1 := Paired.length S.fr
      cases F with
      | cons x2 F => simp at l1
      | nil =>
        have fr := S.fr
        cases fr with
        | cons f r =>
          obtain ⟨f1, xsr, f2, f3, f4⟩ := f
          have bm := hb _ (List.mem_cons_self ..)
          dsimp only
          refine ret_of ?_
          refine ⟨_, rfl, _, rfl, _, rfl, TL, _, _, _, rfl, rfl, SqL.of S.tl, atI_nat (j := 0) rfl, ?_⟩
          refine ⟨_, rfl, IL, _, _, _, rfl, rfl, SqL.of S.il, atI_nat (j := 0) rfl, ?_⟩
          refine ⟨S.sm.2, _, ⟨fa, x.1, x.2, lab, q, txsOf ds, kidS q ds, rfl, fnd _ _ _ _ _ S, okq, SqL.of f1, ⟨xsr, SqL.of f2, f3⟩, f4, by have := bm.2; dsimp only at this; omega, rfl⟩, fun v5 H5 s5 hv => k _ _ ((s1.trans S.sm).trans s5) hv⟩
end
end K6

set_option Elab.async false
set_option linter.all false
set_option maxRecDepth 100000
set_option maxHeartbeats 4000000
namespace K6
open PySem PySem.Spec PyProof.Rows L2 So
theorem rowF_len (q : List Fa) (lab : Option Str) (ds : List Nd) : (rowF q lab ds).length = q.length := by
  unfold rowF
  rw [ofR_len]
  simp
section
variable {Pg : Program} {w : World} {K : PySem.W.Frag} {mg : Str → Option Value} {base : Heap} {P d J : Addr}
abbrev sMea : Stmt := top 36
theorem scMea : FnScope ["question", "document"] ["question", "document"] (defScope sMea) := ⟨rfl, rfl, rfl, by decide +kernel, rfl, by decide +kernel, by decide +kernel⟩
def spMea (K : PySem.W.Frag) (P : Addr) : Sp := Pu P fun vs H R => ∃ (v : V) (a : Addr) (q : List Fa) (xs : List V) (ds : List Nd), vs = [v, .ref a] ∧ RowsS (Sq K) H v (fV q) ∧ okQ q ∧ Sq K H a xs ∧ DpAll K H xs (ndsD ds) ∧ (sgs ds).all Sg.ok = true ∧ (sgs ds).length ≤ 1000 ∧ R = fun v _ => v = .bl (bt (rowF q none ds) (q.length - 1))
theorem ok_mea {f fR : Addr} {fd fdR : FuncData} (F : Fun K "meaning" "meaning" sMea f fd) (T : Tz K w mg d J) (Rf : Df K mg "row_facts" sRfs ["question", "label", "document"] fR fdR) (GR : FnOk Pg w K mg base CX0 6 fR fdR ["question", "label", "document"] (spRfs K P)) :
    FnOk Pg w K mg base CX0 7 f fd ["question", "document"] (spMea K P) := by
  refine F.ok scMea (fun vs H Q E h => ?_) (fun cdv A outer s H vs Q E hr h => ?_)
  · obtain ⟨_, _, ⟨_, _, _, _, _, rfl, _⟩, _⟩ := h
    rfl
  · obtain ⟨t, _, ⟨v, a, q, xs, ds, rfl, hq, okq, hx, hds, hok, hlen, rfl⟩, k⟩ := h
    refine ⟨_, (pss_one (ps_ret (pe_ix ix_tup (pe_call GR hr (by rfl) Rf.g Rf.F.kp Rf.b .nil pass0 (pa_cons (pv 0) (pa_cons pe_non (pa_cons (pv 1) pa_nil)))) (pe_un un_neg pe_int) (fun _ _ => rfl)))), ?_⟩
    refine ⟨_, rfl, _, rfl, t, _, ⟨v, a, none, q, xs, ds, rfl, hq, okq, hx, hds, hok, hlen, rfl⟩, fun v1 H1 s1 hv => ?_⟩
    obtain ⟨b, rfl, hb⟩ := hv
    have l1 := rowF_len q none ds
    have o1 := okq.1
    have lb : (bV (rowF q none ds)).length = q.length := by unfold bV; rw [List.length_map, l1]
    refine ⟨1, rfl, b, _, _, _, rfl, rfl, hb, atI_m1 (v := .bl (bt (rowF q none ds) (q.length - 1))) (by rw [lb]; exact bV_bt (by omega)), k _ _ s1 rfl⟩
/-! ### meanings -/
abbrev sMns : Stmt := top 37
theorem scMns : FnScope ["question", "asked", "document", "numbers", "told", "number"] ["question", "asked", "document"] (defScope sMns) := ⟨rfl, rfl, rfl, by decide +kernel, rfl, by decide +kernel, by decide +kernel⟩
def spMns (K : PySem.W.Frag) (P : Addr) : Sp := Pu P fun vs H R => ∃ (v u : V) (a : Addr) (q : List Fa) (ns : List Nat) (xs : List V) (ds : List Nd), vs = [v, u, .ref a] ∧ RowsS (Sq K) H v (fV q) ∧ okQ q ∧ ItS (Sq K) H u (iV ns) ∧ ns ≠ [] ∧ (∀ n ∈ ns, n < q.length) ∧ ns.length ≤ 1000 ∧ Sq K H a xs ∧ DpAll K H xs (ndsD ds) ∧ (sgs ds).all Sg.ok = true ∧ (sgs ds).length ≤ 1000 ∧ R = fun v H' => ItS (SqT K) H' v (bV (ns.map (bt (rowF q none ds))))
theorem ok_mns {f fR fC fA : Addr} {fd fdR fdC fdA : FuncData} (F : Fun K "meanings" "meanings" sMns f fd) (T : Tz K w mg d J) (Rf : Df K mg "row_facts" sRfs ["question", "label", "document"] fR fdR) (GR : FnOk Pg w K mg base CX0 6 fR fdR ["question", "label", "document"] (spRfs K P))
    (Ck : Df K mg "check_question" sCkq ["value"] fC fdC) (GC : FnOk Pg w K mg base CX0 5 fC fdC ["value"] (spCkq K P)) (Ca : Df K mg "check_asked" sCka ["facts", "asked"] fA fdA) (GA : FnOk Pg w K mg base CX0 3 fA fdA ["facts", "asked"] (spCka K P)) :
    FnOk Pg w K mg base CX0 7 f fd ["question", "asked", "document"] (spMns K P) := by
  refine F.ok scMns (fun vs H Q E h => ?_) (fun cdv A outer s H vs Q E hr h => ?_)
  · obtain ⟨_, _, ⟨_, _, _, _, _, _, _, rfl, _⟩, _⟩ := h
    rfl
  · obtain ⟨t, _, ⟨v, u, a, q, ns, xs, ds, rfl, hq, okq, hu, nn, nl, nz, hx, hds, hok, hlen, rfl⟩, k⟩ := h
    have r5 : Room 5 _ := hr.mono (by decide)
    have r6 : Room 3 _ := hr.mono (by decide)
    refine ⟨_, (pss_cons (ps_set (i := 3) scMns.nd rfl (Or.inl rfl) (pe_call GA r6 (by rfl) Ca.g Ca.F.kp Ca.b .nil pass0 (pa_cons (pe_call GC r5 (by rfl) Ck.g Ck.F.kp Ck.b .nil pass0 (pa_cons (pv 0) pa_nil)) (pa_cons (pv 1) pa_nil))))
      (pss_cons (ps_set (i := 4) scMns.nd rfl (Or.inr rfl) (pe_call GR hr (by rfl) Rf.g Rf.F.kp Rf.b .nil pass0 (pa_cons (pv 0) (pa_cons pe_non (pa_cons (pv 2) pa_nil)))))
      (pss_one (ps_ret (pe_tupleOf (by rfl) T.T.T.tuple (pe_lc (own := [("number", 5)]) (g := gName 5) (tt := tYes) rfl scMns.nd (pi_tup (pv 3)) (blkOk_by (N := ["question", "asked", "document", "numbers", "told", "number"]) (sc := defScope sMns) (by decide +kernel)) (fun _ _ _ _ _ => pg_name (i := 5) scMns.nd rfl (Or.inl rfl)) (fun _ _ _ _ _ => pts_nil) (fun _ _ _ _ _ => show PE _ _ (tOp (rIxT K) (tVar 4) (tVar 5)) from (pe_ix ix_tup (pv 4) (pv 5) (fun _ _ => rfl))))))))), ?_⟩
    refine ⟨_, rfl, t, _, ⟨v, q, rfl, hq, okq, rfl⟩, fun v1 H1 s1 hF => ?_⟩
    obtain ⟨fa, xs1, rfl, hfa, hpf⟩ := hF
    have lf : xs1.length = q.length := (Paired.length hpf).trans (List.length_map _)
    refine ⟨_, rfl, s1.2, _, ⟨fa, xs1, u, ns, rfl, hfa, hu.mono mo_sq t s1, nn, by rw [lf]; exact nl, rfl⟩, fun v2 H2 s2 hn => ?_⟩
    have s12 := s1.trans s2
    refine ⟨_, rfl, _, rfl, s12.2, _, ⟨v, a, none, q, xs, ds, rfl, hq.mono mo_sq t s12, okq, hx.mono t s12, nds_tp (Tp.sm t s12) ds xs hds, hok, hlen, rfl⟩, fun v3 H3 s3 hv => ?_⟩
    have s13 := s12.trans s3
    have hn := hn.mono mo_tup s12.2 s3
    obtain ⟨b, rfl, hb⟩ := hv
    obtain ⟨c, rfl, hc⟩ := hn
    unfold gName
    dsimp only
    have ln : (iV ns).length = ns.length := List.length_map _
    refine ret_of (then_of ⟨_, rfl, c, rfl, ⟨_, hc⟩, fun D hD => ?_⟩)
    refine lc_sel (P := P) (g := gName 5) (tt := tYes) (te := tOp (rIxT K) (tVar 4) (tVar 5)) (walk_tup (K := K) (a := c) (xs := iV ns)) s13.2 hD (by rw [ln]; omega) (fun H' s => s.tup s13.2 hc) (fun _ => true) (fun i => .bl (bt (rowF q none ds) (ns.getD i 0))) ?_ ?_
    · rintro i x H4 H5 Qe N hi s4 ⟨rfl, hy⟩ hk _
      obtain ⟨n, hn, rfl⟩ := iV_at hy
      have hl := nl n (List.mem_of_getElem? hn)
      have e1 : ns.getD i 0 = n := by rw [List.getD_eq_getElem?_getD, hn]; rfl
      have := hk rfl H5 (Sm.refl s4.2)
      rw [e1] at this
      exact ⟨rfl, _, rfl, _, rfl, b, _, _, _, rfl, rfl, s4.tup s13.2 hb, atI_nat (bV_bt (by rw [rowF_len]; exact hl)), this⟩
    · intro H4 s4 e4
      rw [sel_all] at e4
      refine .inl ⟨D, _, rfl, SqL.of e4, fun z hz => k _ _ ((s13.trans s4).trans (Sm.new s4.2 hz)) ⟨z, rfl, ?_⟩⟩
      have ee : (List.range (iV ns).length).map (fun i => bt (rowF q none ds) (ns.getD i 0)) = ns.map (bt (rowF q none ds)) := by
        rw [ln]
        apply List.ext_getElem
        · simp
        · intro i h1 h2
          simp at h1
          simp [h1]
      rw [ee]
      exact .inl (.inl upd_same)
end
end K6

set_option Elab.async false
set_option linter.all false
set_option maxRecDepth 100000
set_option maxHeartbeats 4000000
namespace K6
open PySem PySem.Spec PyProof.Rows L2 So
mutual
def hiN : Nd → Nat
  | .tx _ => 0
  | .el _ ds => hiS ds + 1
def hiS : List Nd → Nat
  | [] => 0
  | d :: r => max (hiN d) (hiS r)
end
def nb : Nat → Nat
  | 0 => 1
  | n + 1 => 3 * nb n + 2
/-- a drawn document of at most so many nodes side by side -/
def dOk (n i : Nat) (ds : List Nd) : Prop := (sgs ds).all Sg.ok = true ∧ (sgs ds).length ≤ i * nb n ∧ hiS ds ≤ n
theorem dOk_snoc {n i : Nat} {ds : List Nd} {d : Nd} (h : dOk n i ds) (h1 : (sgN d).all Sg.ok = true) (h2 : (sgN d).length ≤ nb n) (h3 : hiN d ≤ n) : dOk n (i + 1) (ds ++ [d]) := by
  have e : sgs (ds ++ [d]) = sgs ds ++ sgN d := by
    rw [sgs_append]
    simp [sgs]
  obtain ⟨a1, a2, a3⟩ := h
  refine ⟨by rw [e, List.all_append, a1, h1]; rfl, ?_, ?_⟩
  · rw [e, List.length_append, Nat.succ_mul]
    omega
  · have key : ∀ l : List Nd, hiS l ≤ n → hiS (l ++ [d]) ≤ n := by
      intro l
      induction l with
      | nil =>
        intro _
        simp only [List.nil_append, hiS]
        omega
      | cons x r ih =>
        intro q
        simp only [List.cons_append, hiS] at q ⊢
        have := ih (by omega)
        omega
    exact key ds a3
theorem tx_words {z : Str} (h : z ∈ (["t", "u", "u", ""] : List Str)) : z.length ≤ 65535 := by
  have : (["t", "u", "u", ""] : List Str).all (fun z => decide (z.length ≤ 65535)) = true := by decide +kernel
  exact of_decide_eq_true (List.all_eq_true.mp this z h)
theorem lb_words {z : Str} (h : z ∈ (["a", "b", "b", "n"] : List Str)) : Sg.ok (.op z) = true := by
  have : (["a", "b", "b", "n"] : List Str).all (fun z => Sg.ok (.op z)) = true := by decide +kernel
  exact List.all_eq_true.mp this z h
section
variable {Pg : Program} {w : World} {K : PySem.W.Frag} {mg : Str → Option Value} {base : Heap} {P d J : Addr}
abbrev sLdc : Stmt := top 42
theorem scLdc : FnScope ["box", "deep", "wide", "nodes", "turn"] ["box", "deep", "wide"] (defScope sLdc) := ⟨rfl, rfl, rfl, by decide +kernel, rfl, by decide +kernel, by decide +kernel⟩
def spLdc (K : PySem.W.Frag) (P : Addr) (h : Nat) : Sp := fun vs H Q _ => GxR.TabG H P ∧ ∃ (b : Addr) (n : Nat), vs = [.ref b, .int (n : Nat), .int 3] ∧ Box H b ∧ b ≠ P ∧ n < h ∧ ∀ v H' ds, SB P b H H' → Dp K H' v (.tuple (ndsD ds)) → dOk n 3 ds → Q v H'
theorem ok_ldc {f fT fP : Addr} {fd fdT fdP : FuncData} (F : Fun K "_law_document" "_law_document" sLdc f fd) (T : Tz K w mg d J) (R : Df K mg "_law_document" sLdc ["box", "deep", "wide"] f fd) (Tk : Df K mg "_law_take" sTak ["box", "many"] fT fdT) (Pk : Df K mg "_law_pick" sPck ["box", "some"] fP fdP) :
    ∀ h, FnOk Pg w K mg base CX0 (h + 3) f fd ["box", "deep", "wide"] (spLdc K P h)
  | 0 => by
    refine F.ok scLdc (fun vs H Q E h => ?_) (fun cdv A' outer s H vs Q E hr h => ?_)
    · obtain ⟨_, _, _, rfl, _⟩ := h
      rfl
    · obtain ⟨_, _, _, _, _, _, z, _⟩ := h
      exact absurd z (Nat.not_lt_zero _)
  | h + 1 => by
    have GT : FnOk Pg w K mg base CX0 1 fT fdT ["box", "many"] spTak := ok_tak Tk.F T.T.T
    have GP : FnOk Pg w K mg base CX0 2 fP fdP ["box", "some"] spPck := ok_pck Pk.F T.T.T Tk
    have G : FnOk Pg w K mg base CX0 (h + 3) f fd ["box", "deep", "wide"] (spLdc K P h) := ok_ldc F T R Tk Pk h
    refine F.ok scLdc (fun vs H Q E h => ?_) (fun cdv A' outer s H vs Q E hr h => ?_)
    · obtain ⟨_, _, _, rfl, _⟩ := h
      rfl
    obtain ⟨t, b, n, rfl, bx, bP, hn, kont⟩ := h
    have r1 : Room 1 _ := hr.mono (by omega)
    have r2 : Room 2 _ := hr.mono (by omega)
    refine ⟨_, (pss_cons (ps_set (i := 3) scLdc.nd rfl (Or.inl rfl) (pe_lst pa_nil))
      (pss_cons (ps_for PassesOwn.never rfl (pi_range1 (by rfl) T.T.T.range (pa_cons (pe_call GT r1 (by rfl) Tk.g Tk.F.kp Tk.b .nil pass0 (pa_cons (pv 0) (pa_cons (pe_op op_add (pv 2) pe_int) pa_nil))) pa_nil)) (pg_name (i := 4) scLdc.nd rfl (Or.inl rfl)) (pss_one (ps_if (PW.pt (pw_and (pt_cmpR op_gt (pv 1) pe_int (nomark _)) (pw_and1 (pt_cmpR op_gt (pe_call GT r1 (by rfl) Tk.g Tk.F.kp Tk.b .nil pass0 (pa_cons (pv 0) (pa_cons pe_int pa_nil))) pe_int (nomark _))))) (pss_one (ps_expr (pe_bm PySem.F.plainAttrs_list PySem.F.slot_list_append PySem.F.type_list_append mt_append (pv 3) (pa_cons (pe_tup (pa_cons pe_str (pa_cons (pe_call GP r2 (by rfl) Pk.g Pk.F.kp Pk.b .nil pass0 (pa_cons (pv 0) (pa_cons (pe_lst (pa_cons pe_str (pa_cons pe_str (pa_cons pe_str (pa_cons pe_str pa_nil))))) pa_nil))) (pa_cons (pe_call G hr (by rfl) R.g R.F.kp R.b .nil pass0 (pa_cons (pv 0) (pa_cons (pe_op op_sub (pv 1) pe_int) (pa_cons (pv 2) pa_nil)))) pa_nil)))) pa_nil)))) (pss_one (ps_expr (pe_bm PySem.F.plainAttrs_list PySem.F.slot_list_append PySem.F.type_list_append mt_append (pv 3) (pa_cons (pe_tup (pa_cons pe_str (pa_cons (pe_call GP r2 (by rfl) Pk.g Pk.F.kp Pk.b .nil pass0 (pa_cons (pv 0) (pa_cons (pe_lst (pa_cons pe_str (pa_cons pe_str (pa_cons pe_str (pa_cons pe_str pa_nil))))) pa_nil))) pa_nil))) pa_nil)))))))
      (pss_one (ps_ret (pe_tupleOf (by rfl) T.T.T.tuple (pv 3)))))), ?_⟩
    have small : ∀ {m : Nat}, m ≤ 5000 → m < sizeLine := fun h => Nat.lt_of_le_of_lt h (by decide)
    refine ⟨Nat.zero_le _, fun F0 hF0 => ?_⟩
    have FP : F0 ≠ P := nPt t hF0
    have Fb : F0 ≠ b := box_ne bx hF0
    have a0 : SB P b H (upd H F0 (.lst [])) := (SB.refl t bx).mut hF0 FP Fb
    refine ⟨_, rfl, _, rfl, _, _, rfl, rfl, b, 4, rfl, a0.box, by decide, by decide, fun r q0 q4 g z g0 z0 z1 => ?_⟩
    have a1 := a0.trans (SB.draw a0.tab bP g0 z0 z1)
    obtain ⟨m, rfl⟩ : ∃ m : Nat, r = (m : Int) := ⟨r.toNat, by omega⟩
    refine ⟨m, rfl, by omega, by omega, for_range (lo := 0) (n := m) (fun i σ H' => ∃ (zs : List V) (ds : List Nd) (v3 : Option V), σ = [some (.ref b), some (.int (n : Nat)), some (.int 3), some (.ref F0), v3] ∧ SB P b H H' ∧ H' F0 = some (.lst zs) ∧ zs.length = i ∧ DpAll K H' zs (ndsD ds) ∧ dOk n i ds)
      ⟨[], [], none, rfl, a1, by rw [upd_ne Fb, upd_same], rfl, by rw [ndsD]; exact .nil, by unfold dOk; simp [sgs, hiS]⟩ ?_ ?_⟩
    · rintro i σ H' hi ⟨zs, ds, v3, rfl, s1, hF, hl, hd, hk⟩
      have put : ∀ (H5 : Hp) (q : Addr) (d : Nd) (σ5 : L2.St), SB P b H' H5 → Dp K H5 (.ref q) (ndD d) → (sgN d).all Sg.ok = true → (sgN d).length ≤ nb n → hiN d ≤ n → σ5 = [some (.ref b), some (.int (n : Nat)), some (.int 3), some (.ref F0), some (.int (0 + (i : Int)))] →
          H5 F0 = some (.lst zs) ∧ zs.length < sizeLine ∧ ∃ (zs' : List V) (ds' : List Nd) (v3 : Option V), σ5 = [some (.ref b), some (.int (n : Nat)), some (.int 3), some (.ref F0), v3] ∧ SB P b H (upd H5 F0 (.lst (zs ++ [.ref q]))) ∧ upd H5 F0 (.lst (zs ++ [.ref q])) F0 = some (.lst zs') ∧ zs'.length = i + 1 ∧
            DpAll K (upd H5 F0 (.lst (zs ++ [.ref q]))) zs' (ndsD ds') ∧ dOk n (i + 1) ds' := by
        intro H5 q d σ5 s5 hdq e1 e2 e3 eσ
        have hF5 : H5 F0 = some (.lst zs) := s5.keep _ _ FP Fb hF
        have tp : Tp H5 (upd H5 F0 (.lst (zs ++ [.ref q]))) := Tp.lst hF5
        refine ⟨hF5, small (by omega), zs ++ [.ref q], ds ++ [d], _, eσ, (s1.trans s5).mut hF0 FP Fb, upd_same, by rw [List.length_append, hl]; rfl, ?_, dOk_snoc hk e1 e2 e3⟩
        rw [ndsD_append]
        refine all_append (nds_tp ((s5.tp s1.tab s1.box).trans tp) _ _ hd) ?_
        rw [ndsD, ndsD]
        exact .cons (nd_tp tp _ _ hdq) .nil
      have sg1 : ∀ z : Str, sgN (.tx z) = [.tx z] := fun z => by simp only [sgN]
      have nb1 : 1 ≤ nb n := by
        cases n with
        | zero => exact Nat.le_refl _
        | succ n => show 1 ≤ 3 * nb n + 2; omega
      refine ⟨_, rfl, _, _, rfl, rfl, _, rfl, ite2 (fun e0 => ?_) (fun e0 => ?_)⟩
      · refine ⟨_, rfl, b, 4, rfl, s1.box, by decide, by decide, fun r q0 q3 g z g0 z0 z1 => ?_⟩
        have s2 : SB P b H' (upd H' b (.lst [.int g, .int z])) := SB.draw s1.tab bP g0 z0 z1
        have hF2 := s2.keep _ _ FP Fb hF
        refine ⟨_, _, rfl, rfl, _, rfl, ite2 (fun e1 => ?_) (fun e1 => ?_)⟩
        · skip
          obtain ⟨n', rfl⟩ : ∃ n', n = n' + 1 := by
            cases n with
            | zero => exact absurd (of_decide_eq_true e0) (by omega)
            | succ n' => exact ⟨n', rfl⟩
          refine ⟨_, rfl, .inl ⟨rfl, _, SqL.of hF2⟩, _, rfl, (by show 4 ≤ sizeLine; decide), fun l hl3 => ?_⟩
          have n3 := Sm.new (o := .lst [.str "a", .str "b", .str "b", .str "n"]) s2.tab hl3
          have b3 := s2.trans (SB.sm s2.box s2.tab n3)
          refine ⟨b, l, [.str "a", .str "b", .str "b", .str "n"], rfl, b3.box, upd_same, box_ne s2.box hl3, (by show 0 < 4; decide), (by show 4 < 1000; decide), fun j x hx g z g0 z0 z1 => ?_⟩
          have b4 := b3.trans (SB.draw b3.tab bP g0 z0 z1)
          obtain ⟨u, hu, rfl⟩ := sV_at (L := ["a", "b", "b", "n"]) hx
          have uok := lb_words (List.mem_of_getElem? hu)
          refine ⟨_, rfl, _, rfl, _, _, rfl, rfl, _, rfl, b4.tab, b, n', ?_, b4.box, bP, by omega, fun dv H5 es c5 hdv hes => ?_⟩
          · have e : ((n' + 1 : Nat) : Int) - 1 = (n' : Int) := by omega
            show [V.ref b, V.int (((n' + 1 : Nat) : Int) - 1), V.int 3] ++ [] = _
            rw [e]
            rfl
          obtain ⟨zd, ws, rfl, hz5, hws⟩ := dp_tup hdv
          refine ⟨(by show 3 ≤ sizeLine; decide), fun q hq => ?_⟩
          have n6 := Sm.new (o := .tup [.str "element", .str u, .ref zd]) c5.tab hq
          have c6 := (b4.trans c5).trans (SB.sm c5.box c5.tab n6)
          obtain ⟨k1, k2, k3⟩ := hes
          have sg2 : sgN (.el u es) = .op u :: (sgs es ++ [.cl]) := by simp only [sgN]
          obtain ⟨p1, p2, p3⟩ := put _ q (.el u es) _ c6 (nd_el_mk (.inl (.inl upd_same)) (n6.tup c5.tab hz5) (nds_tp (Tp.sm c5.tab n6) _ _ hws))
            (by rw [sg2, List.all_cons, List.all_append, uok, k1]; rfl) (by rw [sg2, List.length_cons, List.length_append]; show (sgs es).length + 1 + 1 ≤ 3 * nb n' + 2; omega) (by simp only [hiN]; omega) rfl
          exact ⟨F0, zs, _, rfl, rfl, p1, p2, p3⟩
        · refine ⟨_, rfl, .inl ⟨rfl, _, SqL.of hF2⟩, _, rfl, (by show 4 ≤ sizeLine; decide), fun l hl3 => ?_⟩
          have n3 := Sm.new (o := .lst [.str "t", .str "u", .str "u", .str ""]) s2.tab hl3
          have b3 := SB.trans s2 (SB.sm s2.box s2.tab n3)
          refine ⟨b, l, [.str "t", .str "u", .str "u", .str ""], rfl, b3.box, upd_same, box_ne s2.box hl3, (by show 0 < 4; decide), (by show 4 < 1000; decide), fun j x hx g z g0 z0 z1 => ?_⟩
          have b4 := b3.trans (SB.draw b3.tab bP g0 z0 z1)
          obtain ⟨u, hu, rfl⟩ := sV_at (L := ["t", "u", "u", ""]) hx
          refine ⟨(by show 2 ≤ sizeLine; decide), fun q hq => ?_⟩
          have c6 := b4.trans (SB.sm b4.box b4.tab (Sm.new (o := .tup [.str "text", .str u]) b4.tab hq))
          obtain ⟨p1, p2, p3⟩ := put _ q (.tx u) _ c6 (nd_tx_mk (.inl (.inl upd_same))) (by rw [sg1, List.all_cons, List.all_nil]; show (decide (u.length ≤ 65535) && true) = true; rw [decide_eq_true (tx_words (List.mem_of_getElem? hu))]; rfl) (by rw [sg1]; exact nb1) (by simp only [hiN]; exact Nat.zero_le _) rfl
          exact ⟨F0, zs, _, rfl, rfl, p1, p2, p3⟩
      · have s0' : SB P b H' H' := SB.refl s1.tab s1.box
        refine ⟨_, rfl, .inl ⟨rfl, _, SqL.of hF⟩, _, rfl, (by show 4 ≤ sizeLine; decide), fun l hl3 => ?_⟩
        have n3 := Sm.new (o := .lst [.str "t", .str "u", .str "u", .str ""]) s0'.tab hl3
        have b3 := SB.trans s0' (SB.sm s0'.box s0'.tab n3)
        refine ⟨b, l, [.str "t", .str "u", .str "u", .str ""], rfl, b3.box, upd_same, box_ne s0'.box hl3, (by show 0 < 4; decide), (by show 4 < 1000; decide), fun j x hx g z g0 z0 z1 => ?_⟩
        have b4 := b3.trans (SB.draw b3.tab bP g0 z0 z1)
        obtain ⟨u, hu, rfl⟩ := sV_at (L := ["t", "u", "u", ""]) hx
        refine ⟨(by show 2 ≤ sizeLine; decide), fun q hq => ?_⟩
        have c6 := b4.trans (SB.sm b4.box b4.tab (Sm.new (o := .tup [.str "text", .str u]) b4.tab hq))
        obtain ⟨p1, p2, p3⟩ := put _ q (.tx u) _ c6 (nd_tx_mk (.inl (.inl upd_same))) (by rw [sg1, List.all_cons, List.all_nil]; show (decide (u.length ≤ 65535) && true) = true; rw [decide_eq_true (tx_words (List.mem_of_getElem? hu))]; rfl) (by rw [sg1]; exact nb1) (by simp only [hiN]; exact Nat.zero_le _) rfl
        exact ⟨F0, zs, _, rfl, rfl, p1, p2, p3⟩
    · rintro σ H' ⟨zs, ds, v3, rfl, s1, hF, hl, hd, hk⟩
      refine ⟨_, rfl, .inl ⟨F0, zs, rfl, SqL.of hF, fun q hq => ?_⟩⟩
      have n1 := Sm.new (o := .tup zs) s1.tab hq
      refine kont _ _ ds (s1.trans (SB.sm s1.box s1.tab n1)) (.tup (.inl (.inl upd_same)) (nds_tp (Tp.new hq) _ _ hd)) ?_
      obtain ⟨k1, k2, k3⟩ := hk
      exact ⟨k1, Nat.le_trans k2 (Nat.mul_le_mul_right _ (by omega)), k3⟩
end
end K6

set_option Elab.async false
set_option linter.all false
set_option maxRecDepth 100000
set_option maxHeartbeats 4000000
namespace K6
open PySem PySem.Spec PyProof.Rows L2 So
def Ws : List Str := ["text", "label", "label", "child", "child", "modulo", "later", "next", "first", "last", "inside", "inside", "not", "and", "or"]
theorem two_w {u : Str} (h : u ∈ (["later", "next", "and", "or"] : List Str)) : ∃ w : Tw, u = w.w := by
  simp only [List.mem_cons, List.not_mem_nil, or_false] at h
  rcases h with rfl | rfl | rfl | rfl
  · exact ⟨.later, rfl⟩
  · exact ⟨.next, rfl⟩
  · exact ⟨.and, rfl⟩
  · exact ⟨.or, rfl⟩
theorem one_w {u : Str} (hu : u ∈ Ws) (h1 : u ≠ "text") (h2 : u ≠ "label") (h3 : u ≠ "child") (h4 : u ≠ "modulo") (h5 : ¬ u ∈ (["later", "next", "and", "or"] : List Str)) : ∃ w : On, u = w.w := by
  simp only [Ws, List.mem_cons, List.not_mem_nil, or_false] at hu h5
  rcases hu with h | h | h | h | h | h | h | h | h | h | h | h | h | h | h
  · exact absurd h h1
  · exact absurd h h2
  · exact absurd h h2
  · exact absurd h h3
  · exact absurd h h3
  · exact absurd h h4
  · exact absurd (Or.inl h) h5
  · exact absurd (Or.inr (Or.inl h)) h5
  · exact ⟨.first, h⟩
  · exact ⟨.last, h⟩
  · exact ⟨.inside, h⟩
  · exact ⟨.inside, h⟩
  · exact ⟨.not, h⟩
  · exact absurd (Or.inr (Or.inr (Or.inl h))) h5
  · exact absurd (Or.inr (Or.inr (Or.inr h))) h5
def Fa.ws : Fa → Prop
  | .txt so _ => so ∈ ([none, some "t", some "u", some ""] : List (Option Str))
  | .lab l => l ∈ (["a", "b", "n"] : List Str)
  | _ => True
theorem opt_words {j : Nat} {v : V} (h : ([.non, .str "t", .str "u", .str ""] : List V)[j]? = some v) : ∃ s, v = optV s ∧ okStr s ∧ s ∈ ([none, some "t", some "u", some ""] : List (Option Str)) := by
  match j, h with
  | 0, h => cases h; exact ⟨none, rfl, trivial, by simp⟩
  | 1, h => cases h; exact ⟨some "t", rfl, by show (Str.ofString "t").length ≤ 65535; decide +kernel, by simp⟩
  | 2, h => cases h; exact ⟨some "u", rfl, by show (Str.ofString "u").length ≤ 65535; decide +kernel, by simp⟩
  | 3, h => cases h; exact ⟨some "", rfl, by show (Str.ofString "").length ≤ 65535; decide +kernel, by simp⟩
  | j + 4, h => cases h
theorem lab_words {z : Str} (h : z ∈ (["a", "b", "n"] : List Str)) : isLab z = true ∧ z.length ≤ 12 := by
  have : (["a", "b", "n"] : List Str).all (fun z => isLab z && decide (z.length ≤ 12)) = true := by decide +kernel
  have := List.all_eq_true.mp this z h
  rw [Bool.and_eq_true, decide_eq_true_eq] at this
  exact this
theorem vs_txt (so : Option Str) (m : Nat) : (Fa.txt so (1 + m)).vs = [.str "text", optV so, .int (1 + (m : Int))] := by
  show [_, _, V.int ((1 + m : Nat) : Int)] = _
  rw [Int.natCast_add]
  rfl
theorem vs_chi (f m : Nat) : (Fa.chi f (1 + m)).vs = [.str "child", .int (f : Nat), .int (1 + (m : Int))] := by
  show [_, _, V.int ((1 + m : Nat) : Int)] = _
  rw [Int.natCast_add]
  rfl
theorem vs_mdl (f m r : Nat) : (Fa.mdl f (2 + m) r).vs = [.str "modulo", .int (f : Nat), .int (2 + (m : Int)), .int (r : Nat)] := by
  show [_, _, V.int ((2 + m : Nat) : Int), _] = _
  rw [Int.natCast_add]
  rfl
theorem iteE' {a b : V} {p q : Prop} (h : a = b) (k : p) : if decide (a = b) = true then p else q := by
  rw [if_pos (decide_eq_true h)]
  exact k
section
variable {Pg : Program} {w : World} {K : PySem.W.Frag} {mg : Str → Option Value} {base : Heap} {P d J : Addr}
abbrev sLfc : Stmt := top 43
theorem scLfc : FnScope ["box", "at", "word", "one", "other", "many"] ["box", "at"] (defScope sLfc) := ⟨rfl, rfl, rfl, by decide +kernel, rfl, by decide +kernel, by decide +kernel⟩
def spLfc (K : PySem.W.Frag) (P : Addr) : Sp := fun vs H Q _ => GxR.TabG H P ∧ ∃ (b : Addr) (n : Nat), vs = [.ref b, .int (n : Nat)] ∧ Box H b ∧ b ≠ P ∧ n ≤ 1000 ∧ ∀ v H' f, SB P b H H' → ItS (SqT K) H' v (Fa.vs f) → f.ok n → f.ws → Q v H'
theorem ok_lfc {f fT fP : Addr} {fd fdT fdP : FuncData} (F : Fun K "_law_fact" "_law_fact" sLfc f fd) (T : Tz K w mg d J) (Tk : Df K mg "_law_take" sTak ["box", "many"] fT fdT) (Pk : Df K mg "_law_pick" sPck ["box", "some"] fP fdP) :
    FnOk Pg w K mg base CX0 3 f fd ["box", "at"] (spLfc K P) := by
  have GT : FnOk Pg w K mg base CX0 1 fT fdT ["box", "many"] spTak := ok_tak Tk.F T.T.T
  have GP : FnOk Pg w K mg base CX0 2 fP fdP ["box", "some"] spPck := ok_pck Pk.F T.T.T Tk
  refine F.ok scLfc (fun vs H Q E h => ?_) (fun cdv A' outer s H vs Q E hr h => ?_)
  · obtain ⟨_, _, _, rfl, _⟩ := h
    rfl
  · obtain ⟨t, b, n, rfl, bx, bP, hn, kont⟩ := h
    have r1 : Room 1 _ := hr.mono (by omega)
    refine ⟨_, (pss_cons (ps_set (i := 2) scLfc.nd rfl (Or.inl rfl) (pe_call GP hr (by rfl) Pk.g Pk.F.kp Pk.b .nil pass0 (pa_cons (pv 0) (pa_cons (pe_lst (pa_cons pe_str (pa_cons pe_str (pa_cons pe_str (pa_cons pe_str (pa_cons pe_str (pa_cons pe_str (pa_cons pe_str (pa_cons pe_str (pa_cons pe_str (pa_cons pe_str (pa_cons pe_str (pa_cons pe_str (pa_cons pe_str (pa_cons pe_str (pa_cons pe_str pa_nil)))))))))))))))) pa_nil))))
      (pss_cons (ps_if (PW.pt (pw_or (pt_cmpR op_eq (pv 2) pe_str (nomark _)) (pw_or1 (PW.pt (pw_and (pt_cmpR op_eq (pv 1) pe_int (nomark _)) (pw_and1 (pt_cmpR op_ne (pv 2) pe_str (nomark _)))))))) (pss_one (ps_ret (pe_tup (pa_cons pe_str (pa_cons (pe_call GP hr (by rfl) Pk.g Pk.F.kp Pk.b .nil pass0 (pa_cons (pv 0) (pa_cons (pe_lst (pa_cons pe_non (pa_cons pe_str (pa_cons pe_str (pa_cons pe_str pa_nil))))) pa_nil))) (pa_cons (pe_op op_add pe_int (pe_call GT r1 (by rfl) Tk.g Tk.F.kp Tk.b .nil pass0 (pa_cons (pv 0) (pa_cons pe_int pa_nil)))) pa_nil)))))) pss_nil)
      (pss_cons (ps_if (pt_cmpR op_eq (pv 2) pe_str (nomark _)) (pss_one (ps_ret (pe_tup (pa_cons pe_str (pa_cons (pe_call GP hr (by rfl) Pk.g Pk.F.kp Pk.b .nil pass0 (pa_cons (pv 0) (pa_cons (pe_lst (pa_cons pe_str (pa_cons pe_str (pa_cons pe_str pa_nil)))) pa_nil))) pa_nil))))) pss_nil)
      (pss_cons (ps_par (i := 3) (j := 4) rfl scLfc.nd rfl rfl (by decide) rfl rfl (pa_cons (pe_call GT r1 (by rfl) Tk.g Tk.F.kp Tk.b .nil pass0 (pa_cons (pv 0) (pa_cons (pv 1) pa_nil))) (pa_cons (pe_call GT r1 (by rfl) Tk.g Tk.F.kp Tk.b .nil pass0 (pa_cons (pv 0) (pa_cons (pv 1) pa_nil))) pa_nil)) (by rfl))
      (pss_cons (ps_if (pt_cmpR op_eq (pv 2) pe_str (nomark _)) (pss_one (ps_ret (pe_tup (pa_cons pe_str (pa_cons (pv 3) (pa_cons (pe_op op_add pe_int (pe_call GT r1 (by rfl) Tk.g Tk.F.kp Tk.b .nil pass0 (pa_cons (pv 0) (pa_cons pe_int pa_nil)))) pa_nil)))))) pss_nil)
      (pss_cons (ps_if (pt_cmpR op_eq (pv 2) pe_str (nomark _)) (pss_cons (ps_set (i := 5) scLfc.nd rfl (Or.inl rfl) (pe_op op_add pe_int (pe_call GT r1 (by rfl) Tk.g Tk.F.kp Tk.b .nil pass0 (pa_cons (pv 0) (pa_cons pe_int pa_nil)))))
      (pss_one (ps_ret (pe_tup (pa_cons pe_str (pa_cons (pv 3) (pa_cons (pv 5) (pa_cons (pe_call GT r1 (by rfl) Tk.g Tk.F.kp Tk.b .nil pass0 (pa_cons (pv 0) (pa_cons (pv 5) pa_nil))) pa_nil)))))))) pss_nil)
      (pss_one (ps_ret (pe_ifExp (pt_cmpR op_in_seq (pv 2) (pe_tup (pa_cons pe_str (pa_cons pe_str (pa_cons pe_str (pa_cons pe_str pa_nil))))) rfl) (pe_tup (pa_cons (pv 2) (pa_cons (pv 3) (pa_cons (pv 4) pa_nil)))) (pe_tup (pa_cons (pv 2) (pa_cons (pv 3) pa_nil)))))))))))), ?_⟩
    refine ⟨_, rfl, (by show 15 ≤ sizeLine; decide), fun l hl => ?_⟩
    have s1 := Sm.new (o := .lst [.str "text", .str "label", .str "label", .str "child", .str "child", .str "modulo", .str "later", .str "next", .str "first", .str "last", .str "inside", .str "inside", .str "not", .str "and", .str "or"]) t hl
    have b1 := SB.sm bx t s1
    refine ⟨b, l, sV Ws, rfl, b1.box, upd_same, box_ne bx hl, (by show 0 < 15; decide), (by show 15 < 1000; decide), fun j v hv g z g0 z0 z1 => ?_⟩
    have b2 := b1.trans (SB.draw b1.tab bP g0 z0 z1)
    obtain ⟨u, hu, rfl⟩ := sV_at hv
    have hu := List.mem_of_getElem? hu
    clear s1 b1 hv hl
    generalize upd (upd H l _) b (HO.lst [V.int g, V.int z]) = H2 at *
    refine ⟨_, rfl, rfl, _, rfl, ite2 (fun e0 => ?_) (fun e0 => ?_)⟩
    · refine iteT ?_
      refine ⟨_, rfl, (by show 4 ≤ sizeLine; decide), fun l2 hl2 => ?_⟩
      have s3 := Sm.new (o := .lst [.non, .str "t", .str "u", .str ""]) b2.tab hl2
      have b3 := b2.trans (SB.sm b2.box b2.tab s3)
      refine ⟨b, l2, [.non, .str "t", .str "u", .str ""], rfl, b3.box, upd_same, box_ne b2.box hl2, (by show 0 < 4; decide), (by show 4 < 1000; decide), fun j2 v2 hv2 g2 z2 g20 z20 z21 => ?_⟩
      have b4 := b3.trans (SB.draw b3.tab bP g20 z20 z21)
      obtain ⟨so, rfl, os, ow⟩ := opt_words hv2
      refine ⟨_, rfl, b, 3, rfl, b4.box, by decide, by decide, fun r r0 r1' g3 z3 g30 z30 z31 => ?_⟩
      have b5 := b4.trans (SB.draw b4.tab bP g30 z30 z31)
      obtain ⟨m, rfl⟩ : ∃ m : Nat, r = (m : Int) := ⟨r.toNat, by omega⟩
      refine ⟨_, _, rfl, rfl, (by show 3 ≤ sizeLine; decide), fun q hq => ?_⟩
      have b6 := b5.trans (SB.sm b5.box b5.tab (Sm.new (o := .tup [.str "text", optV so, .int (1 + (m : Int))]) b5.tab hq))
      refine kont _ _ (.txt so (1 + m)) b6 ⟨q, rfl, ?_⟩ ⟨os, by omega, by omega⟩ ow
      rw [vs_txt]
      exact .inl (.inl upd_same)
    refine ⟨_, rfl, rfl, _, rfl, ite2 (fun e1 => ?_) (fun e1 => ?_)⟩
    · refine ⟨_, rfl, rfl, _, rfl, ite2 (fun e2 => ?_) (fun e2 => ?_)⟩
      · refine ⟨_, rfl, (by show 4 ≤ sizeLine; decide), fun l2 hl2 => ?_⟩
        have s3 := Sm.new (o := .lst [.non, .str "t", .str "u", .str ""]) b2.tab hl2
        have b3 := b2.trans (SB.sm b2.box b2.tab s3)
        refine ⟨b, l2, [.non, .str "t", .str "u", .str ""], rfl, b3.box, upd_same, box_ne b2.box hl2, (by show 0 < 4; decide), (by show 4 < 1000; decide), fun j2 v2 hv2 g2 z2 g20 z20 z21 => ?_⟩
        have b4 := b3.trans (SB.draw b3.tab bP g20 z20 z21)
        obtain ⟨so, rfl, os, ow⟩ := opt_words hv2
        refine ⟨_, rfl, b, 3, rfl, b4.box, by decide, by decide, fun r r0 r1' g3 z3 g30 z30 z31 => ?_⟩
        have b5 := b4.trans (SB.draw b4.tab bP g30 z30 z31)
        obtain ⟨m, rfl⟩ : ∃ m : Nat, r = (m : Int) := ⟨r.toNat, by omega⟩
        refine ⟨_, _, rfl, rfl, (by show 3 ≤ sizeLine; decide), fun q hq => ?_⟩
        have b6 := b5.trans (SB.sm b5.box b5.tab (Sm.new (o := .tup [.str "text", optV so, .int (1 + (m : Int))]) b5.tab hq))
        refine kont _ _ (.txt so (1 + m)) b6 ⟨q, rfl, ?_⟩ ⟨os, by omega, by omega⟩ ow
        rw [vs_txt]
        exact .inl (.inl upd_same)
      · have eu : u = "label" := Decidable.byContradiction fun h => e2 (by rw [decide_eq_false (fun q => h (V.str.inj q))]; rfl)
        refine ⟨_, rfl, rfl, _, rfl, iteE' (congrArg V.str eu) ?_⟩
        refine ⟨_, rfl, (by show 3 ≤ sizeLine; decide), fun l2 hl2 => ?_⟩
        have s3 := Sm.new (o := .lst [.str "a", .str "b", .str "n"]) b2.tab hl2
        have b3 := b2.trans (SB.sm b2.box b2.tab s3)
        refine ⟨b, l2, [.str "a", .str "b", .str "n"], rfl, b3.box, upd_same, box_ne b2.box hl2, (by show 0 < 3; decide), (by show 3 < 1000; decide), fun j2 v2 hv2 g2 z2 g20 z20 z21 => ?_⟩
        have b4 := b3.trans (SB.draw b3.tab bP g20 z20 z21)
        obtain ⟨lz, hlz, rfl⟩ := sV_at (L := ["a", "b", "n"]) hv2
        refine ⟨(by show 2 ≤ sizeLine; decide), fun q hq => ?_⟩
        have b6 := b4.trans (SB.sm b4.box b4.tab (Sm.new (o := .tup [.str "label", .str lz]) b4.tab hq))
        exact kont _ _ (.lab lz) b6 ⟨q, rfl, .inl (.inl upd_same)⟩ (lab_words (List.mem_of_getElem? hlz)) (List.mem_of_getElem? hlz)
    · have n0 : 0 < n := Nat.pos_of_ne_zero fun z => e1 (by rw [z]; rfl)
      refine ⟨_, rfl, rfl, _, rfl, ite2 (fun e3 => ?_) (fun e3 => ?_)⟩
      · refine ⟨_, rfl, (by show 3 ≤ sizeLine; decide), fun l2 hl2 => ?_⟩
        have s3 := Sm.new (o := .lst [.str "a", .str "b", .str "n"]) b2.tab hl2
        have b3 := b2.trans (SB.sm b2.box b2.tab s3)
        refine ⟨b, l2, [.str "a", .str "b", .str "n"], rfl, b3.box, upd_same, box_ne b2.box hl2, (by show 0 < 3; decide), (by show 3 < 1000; decide), fun j2 v2 hv2 g2 z2 g20 z20 z21 => ?_⟩
        have b4 := b3.trans (SB.draw b3.tab bP g20 z20 z21)
        obtain ⟨lz, hlz, rfl⟩ := sV_at (L := ["a", "b", "n"]) hv2
        refine ⟨(by show 2 ≤ sizeLine; decide), fun q hq => ?_⟩
        have b6 := b4.trans (SB.sm b4.box b4.tab (Sm.new (o := .tup [.str "label", .str lz]) b4.tab hq))
        exact kont _ _ (.lab lz) b6 ⟨q, rfl, .inl (.inl upd_same)⟩ (lab_words (List.mem_of_getElem? hlz)) (List.mem_of_getElem? hlz)
      refine ⟨_, rfl, _, rfl, b, n, rfl, b2.box, by omega, by omega, fun r r0 r1' g2 z2 g20 z20 z21 => ?_⟩
      have b3 := b2.trans (SB.draw b2.tab bP g20 z20 z21)
      obtain ⟨f1, rfl⟩ : ∃ m : Nat, r = (m : Int) := ⟨r.toNat, by omega⟩
      refine ⟨_, rfl, _, rfl, b, n, rfl, b3.box, by omega, by omega, fun r r0 r2' g3 z3 g30 z30 z31 => ?_⟩
      have b4 := b3.trans (SB.draw b3.tab bP g30 z30 z31)
      obtain ⟨f2, rfl⟩ : ∃ m : Nat, r = (m : Int) := ⟨r.toNat, by omega⟩
      clear b3 b2
      generalize upd (upd H2 b _) b _ = H4 at *
      refine ⟨_, _, rfl, ?_⟩
      refine ⟨_, rfl, rfl, _, rfl, ite2 (fun e4 => ?_) (fun e4 => ?_)⟩
      · refine ⟨_, rfl, _, rfl, b, 3, rfl, b4.box, by decide, by decide, fun r r0 r3' g5 z5 g50 z50 z51 => ?_⟩
        have b5 := b4.trans (SB.draw b4.tab bP g50 z50 z51)
        obtain ⟨m, rfl⟩ : ∃ m : Nat, r = (m : Int) := ⟨r.toNat, by omega⟩
        refine ⟨_, _, rfl, rfl, (by show 3 ≤ sizeLine; decide), fun q hq => ?_⟩
        have b6 := b5.trans (SB.sm b5.box b5.tab (Sm.new (o := .tup [.str "child", .int (f1 : Nat), .int (1 + (m : Int))]) b5.tab hq))
        refine kont _ _ (.chi f1 (1 + m)) b6 ⟨q, rfl, ?_⟩ ⟨by omega, by omega, by omega⟩ trivial
        rw [vs_chi]
        exact .inl (.inl upd_same)
      refine ⟨_, rfl, rfl, _, rfl, ite2 (fun e5 => ?_) (fun e5 => ?_)⟩
      · refine ⟨_, rfl, b, 3, rfl, b4.box, by decide, by decide, fun r r0 r3' g5 z5 g50 z50 z51 => ?_⟩
        have b5 := b4.trans (SB.draw b4.tab bP g50 z50 z51)
        obtain ⟨m, rfl⟩ : ∃ m : Nat, r = (m : Int) := ⟨r.toNat, by omega⟩
        refine ⟨_, _, rfl, rfl, ?_⟩
        refine ⟨_, rfl, _, rfl, _, rfl, _, rfl, b, 2 + (m : Int), rfl, b5.box, by omega, by omega, fun r r0 r3' g6 z6 g60 z60 z61 => ?_⟩
        have b6 := b5.trans (SB.draw b5.tab bP g60 z60 z61)
        obtain ⟨m2, rfl⟩ : ∃ m : Nat, r = (m : Int) := ⟨r.toNat, by omega⟩
        refine ⟨(by show 4 ≤ sizeLine; decide), fun q hq => ?_⟩
        have b7 := b6.trans (SB.sm b6.box b6.tab (Sm.new (o := .tup [.str "modulo", .int (f1 : Nat), .int (2 + (m : Int)), .int (m2 : Nat)]) b6.tab hq))
        refine kont _ _ (.mdl f1 (2 + m) m2) b7 ⟨q, rfl, ?_⟩ ⟨by omega, by omega, by omega, by omega⟩ trivial
        rw [vs_mdl]
        exact .inl (.inl upd_same)
      refine ⟨_, rfl, (by show 4 ≤ sizeLine; decide), fun q hq => ?_⟩
      have s5 := Sm.new (o := .tup (sV ["later", "next", "and", "or"])) b4.tab hq
      have b5 := b4.trans (SB.sm b4.box b4.tab s5)
      refine ⟨q, sV ["later", "next", "and", "or"], rfl, .inr (.inl (.inl upd_same)), rfl, sV_flat _, _, rfl, ite2 (fun e6 => ?_) (fun e6 => ?_)⟩
      · have hw : u ∈ (["later", "next", "and", "or"] : List Str) := by
          have e6 : inV (V.str u) (sV ["later", "next", "and", "or"]) = true := e6
          rw [inV_str] at e6
          exact of_decide_eq_true e6
        obtain ⟨w, rfl⟩ := two_w hw
        refine ⟨_, rfl, _, rfl, _, rfl, (by show 3 ≤ sizeLine; decide), fun q2 hq2 => ?_⟩
        have b6 := b5.trans (SB.sm b5.box b5.tab (Sm.new (o := .tup [.str w.w, .int (f1 : Nat), .int (f2 : Nat)]) b5.tab hq2))
        exact kont _ _ (.two w f1 f2) b6 ⟨q2, rfl, .inl (.inl upd_same)⟩ ⟨by omega, by omega⟩ trivial
      · have hw : ¬ u ∈ (["later", "next", "and", "or"] : List Str) := fun h => e6 (by
          show inV (V.str u) (sV ["later", "next", "and", "or"]) = true
          rw [inV_str]
          exact decide_eq_true h)
        have ne : ∀ {z : Str}, ¬ decide (V.str u = V.str z) = true → u ≠ z := fun h e => h (decide_eq_true (congrArg V.str e))
        obtain ⟨w, rfl⟩ := one_w hu (ne e0) (ne e3) (ne e4) (ne e5) hw
        refine ⟨_, rfl, _, rfl, (by show 2 ≤ sizeLine; decide), fun q2 hq2 => ?_⟩
        have b6 := b5.trans (SB.sm b5.box b5.tab (Sm.new (o := .tup [.str w.w, .int (f1 : Nat)]) b5.tab hq2))
        exact kont _ _ (.one w f1) b6 ⟨q2, rfl, .inl (.inl upd_same)⟩ (by show f1 < n; omega) trivial
end
end K6

set_option Elab.async false
set_option linter.all false
set_option maxRecDepth 100000
set_option maxHeartbeats 4000000
namespace K6
open PySem PySem.Spec PyProof.Rows L2 So
/-! ### rows of facts as mathematics -/
theorem ofR_app (lab : Option Str) (txs : List Str) (rs : List (List Bool)) : ∀ (a b : List Fa) (told : List Bool), ofR lab txs rs (a ++ b) told = ofR lab txs rs b (ofR lab txs rs a told)
  | [], _, _ => rfl
  | f :: a, b, told => by
    rw [List.cons_append, ofR, ofR, ofR_app]
theorem ofR_pre (lab : Option Str) (txs : List Str) (rs : List (List Bool)) : ∀ (a : List Fa) (told : List Bool), ∃ t, ofR lab txs rs a told = told ++ t
  | [], told => ⟨[], by rw [List.append_nil]; rfl⟩
  | f :: a, told => by
    obtain ⟨t, e⟩ := ofR_pre lab txs rs a (told ++ [fa1 lab txs rs told f])
    exact ⟨fa1 lab txs rs told f :: t, by rw [ofR, e, List.append_assoc]; rfl⟩
theorem ofR_at (lab : Option Str) (txs : List Str) (rs : List (List Bool)) {q : List Fa} {i : Nat} {f : Fa} (h : q[i]? = some f) : ∃ told : List Bool, told.length = i ∧ bt (ofR lab txs rs q []) i = fa1 lab txs rs told f := by
  have hi : i < q.length := (List.getElem?_eq_some_iff.mp h).1
  have e : q = q.take i ++ (f :: q.drop (i + 1)) := by
    have := List.take_append_drop i q
    rw [drop_at h] at this
    exact this.symm
  have l : (ofR lab txs rs (q.take i) []).length = i := by
    rw [ofR_len, List.length_take, List.length_nil]
    omega
  refine ⟨ofR lab txs rs (q.take i) [], l, ?_⟩
  conv => lhs; rw [e]
  rw [ofR_app, ofR]
  obtain ⟨t, et⟩ := ofR_pre lab txs rs (q.drop (i + 1)) (ofR lab txs rs (q.take i) [] ++ [fa1 lab txs rs (ofR lab txs rs (q.take i) []) f])
  rw [et]
  unfold bt
  rw [List.getD_eq_getElem?_getD, List.append_assoc, List.getElem?_append_right (by rw [l]; exact Nat.le_refl _), l, Nat.sub_self]
  rfl
mutual
def wiN (q : List Fa) : Nd → List (List Bool)
  | .tx _ => []
  | .el l ds => rowF q (some l) ds :: wiS q ds
def wiS (q : List Fa) : List Nd → List (List Bool)
  | [] => []
  | d :: r => wiN q d ++ wiS q r
end
section
variable {q : List Fa} {i f : Nat} (h : q[i]? = some (.one .inside f))
include h
theorem in_row (lab : Option Str) (ds : List Nd) : bt (rowF q lab ds) i = (kidS q ds).any fun r => bt r f || bt r i := by
  obtain ⟨told, l, e⟩ := ofR_at lab (txsOf ds) (kidS q ds) h
  unfold rowF
  rw [e]
  show ofInner told.length _ (.one .inside f) = _
  rw [l]
  rfl
mutual
theorem in_nd : ∀ d : Nd, ((kidN q d).any fun r => bt r f || bt r i) = (wiN q d).any fun r => bt r f
  | .tx z => by rw [kidN, wiN]; rfl
  | .el l ds => by
    rw [kidN, wiN, List.any_cons, List.any_nil, Bool.or_false, List.any_cons]
    show (bt (rowF q (some l) ds) f || bt (rowF q (some l) ds) i) = _
    rw [in_row h, in_nds ds]
theorem in_nds : ∀ ds : List Nd, ((kidS q ds).any fun r => bt r f || bt r i) = (wiS q ds).any fun r => bt r f
  | [] => by rw [kidS, wiS]; rfl
  | d :: r => by rw [kidS, wiS, List.any_append, List.any_append, in_nd d, in_nds r]
end
end
theorem kidS_app (q : List Fa) : ∀ a b : List Nd, kidS q (a ++ b) = kidS q a ++ kidS q b
  | [], b => by rw [kidS]; rfl
  | d :: a, b => by rw [List.cons_append, kidS, kidS, kidS_app, List.append_assoc]
theorem wiS_app (q : List Fa) : ∀ a b : List Nd, wiS q (a ++ b) = wiS q a ++ wiS q b
  | [], b => by rw [wiS]; rfl
  | d :: a, b => by rw [List.cons_append, wiS, wiS, wiS_app, List.append_assoc]
theorem txsOf_app : ∀ a b : List Nd, txsOf (a ++ b) = txsOf a ++ txsOf b
  | [], b => rfl
  | .tx z :: a, b => by rw [List.cons_append, txsOf, txsOf, txsOf_app]; rfl
  | .el l ds :: a, b => by rw [List.cons_append, txsOf, txsOf, txsOf_app]
mutual
theorem wiN_len (q : List Fa) : ∀ d : Nd, (wiN q d).length ≤ (sgN d).length
  | .tx z => Nat.zero_le _
  | .el l ds => by
    rw [wiN, sgN, List.length_cons, List.length_cons, List.length_append]
    have := wiS_len q ds
    simp only [List.length_singleton]
    omega
theorem wiS_len (q : List Fa) : ∀ ds : List Nd, (wiS q ds).length ≤ (sgs ds).length
  | [] => Nat.zero_le _
  | d :: r => by
    rw [wiS, sgs, List.length_append, List.length_append]
    have := wiN_len q d
    have := wiS_len q r
    omega
end
theorem kidS_len (q : List Fa) : ∀ ds : List Nd, (kidS q ds).length ≤ (sgs ds).length
  | [] => Nat.zero_le _
  | .tx z :: r => by
    rw [kidS, kidN, sgs, List.length_append, List.length_append]
    have := kidS_len q r
    simp only [List.length_nil]
    omega
  | .el l ds :: r => by
    rw [kidS, kidN, sgs, sgN]
    have := kidS_len q r
    simp only [List.length_cons, List.length_append, List.length_nil]
    omega
theorem txs_len : ∀ ds : List Nd, (txsOf ds).length ≤ (sgs ds).length
  | [] => Nat.zero_le _
  | .tx z :: r => by
    rw [txsOf, sgs, sgN, List.length_append, List.length_cons]
    have := txs_len r
    simp only [List.length_cons, List.length_nil]
    omega
  | .el l ds :: r => by
    rw [txsOf, sgs, List.length_append]
    have := txs_len r
    omega
mutual
theorem wiN_row (q : List Fa) : ∀ d : Nd, ∀ r ∈ wiN q d, r.length = q.length
  | .tx z => fun r h => by rw [wiN] at h; cases h
  | .el l ds => fun r h => by
    rw [wiN] at h
    rcases List.mem_cons.mp h with e | e
    · rw [e, rowF_len]
    · exact wiS_row q ds r e
theorem wiS_row (q : List Fa) : ∀ ds : List Nd, ∀ r ∈ wiS q ds, r.length = q.length
  | [] => fun r h => by rw [wiS] at h; cases h
  | d :: ds => fun r h => by
    rw [wiS] at h
    rcases List.mem_append.mp h with e | e
    · exact wiN_row q d r e
    · exact wiS_row q ds r e
end
theorem kidS_row (q : List Fa) : ∀ ds : List Nd, ∀ r ∈ kidS q ds, r.length = q.length
  | [] => fun r h => by rw [kidS] at h; cases h
  | .tx z :: ds => fun r h => by
    rw [kidS, kidN, List.nil_append] at h
    exact kidS_row q ds r h
  | .el l es :: ds => fun r h => by
    rw [kidS, kidN] at h
    rcases List.mem_append.mp h with e | e
    · rw [List.mem_singleton.mp e]
      exact rowF_len q (some l) es
    · exact kidS_row q ds r e
theorem nd_len {ds : List Nd} {i : Nat} {d : Nd} (h : ds[i]? = some d) : (sgN d).length ≤ (sgs ds).length := by
  have e : ds = ds.take i ++ (d :: ds.drop (i + 1)) := by
    have := List.take_append_drop i ds
    rw [drop_at h] at this
    exact this.symm
  rw [e, sgs_append, sgs, List.length_append, List.length_append]
  omega
theorem hi_at {ds : List Nd} {i : Nat} {d : Nd} (h : ds[i]? = some d) : hiN d ≤ hiS ds := by
  induction ds generalizing i with
  | nil => simp at h
  | cons x r ih =>
    simp only [hiS]
    match i, h with
    | 0, h =>
      cases h
      omega
    | i + 1, h =>
      have := ih (i := i) (by simpa using h)
      omega
/-! ### what the law's words mean -/
def LA (f g : Nat) : List (List Bool) → Bool
  | [] => false
  | r :: rs => (bt r f && rs.any fun s => bt s g) || LA f g rs
theorem lat_LA (f g : Nat) : ∀ (rs : List (List Bool)) (met : Bool), lat f g met rs = ((met && rs.any fun s => bt s g) || LA f g rs)
  | [], met => by rw [lat, LA, List.any_nil, Bool.and_false]; rfl
  | r :: rs, met => by
    rw [lat, LA, lat_LA f g rs, List.any_cons]
    cases met <;> cases bt r f <;> cases bt r g <;> cases rs.any (fun s => bt s g) <;> cases LA f g rs <;> rfl
theorem LA_any (f g : Nat) : ∀ rs : List (List Bool), ((List.range rs.length).any fun i => bt (rs.getD i []) f && (rs.drop (i + 1)).any fun s => bt s g) = LA f g rs
  | [] => rfl
  | r :: rs => by
    rw [LA, ← LA_any f g rs, List.length_cons, List.range_succ_eq_map, List.any_cons, List.any_map]
    rfl
theorem lat_any (f g : Nat) (rs : List (List Bool)) : lat f g false rs = (List.range rs.length).any fun i => bt (rs.getD i []) f && (rs.drop (i + 1)).any fun s => bt s g := by
  rw [lat_LA, LA_any, Bool.false_and, Bool.false_or]
theorem nxt_any (f g : Nat) (rs : List (List Bool)) : nxt f g rs = (List.range rs.length).any fun i => bt (rs.getD i []) f && (decide (i + 1 < rs.length) && bt (rs.getD (i + 1) []) g) := by
  unfold nxt
  rw [Bool.eq_iff_iff, List.any_eq_true, List.any_eq_true]
  constructor
  · rintro ⟨i, hi, h⟩
    rw [List.mem_range, List.length_drop] at hi
    refine ⟨i, List.mem_range.mpr (by omega), ?_⟩
    rw [Bool.and_eq_true] at h ⊢
    refine ⟨h.1, ?_⟩
    rw [Bool.and_eq_true]
    exact ⟨decide_eq_true (by omega), h.2⟩
  · rintro ⟨i, hi, h⟩
    rw [Bool.and_eq_true, Bool.and_eq_true, decide_eq_true_eq] at h
    refine ⟨i, List.mem_range.mpr (by rw [List.length_drop]; omega), ?_⟩
    rw [Bool.and_eq_true]
    exact ⟨h.1, h.2.2⟩
/-- the places of which something is so -/
def plc (f : Nat) (rs : List (List Bool)) : List Nat := (List.range rs.length).filter fun i => bt (rs.getD i []) f
def iVn (ns : List Nat) : List V := ns.map fun n => V.int (n : Nat)
theorem sel_plc (f : Nat) (rs : List (List Bool)) : sel (fun i => bt (rs.getD i []) f) (fun i => V.int (i : Nat)) rs.length = iV (plc f rs) := rfl
theorem plc_len (f : Nat) (rs : List (List Bool)) : (plc f rs).length = many f rs := by
  have := many_rows rs f (fun i => V.int (i : Nat))
  rw [sel_plc] at this
  rw [← this]
  unfold iV
  rw [List.length_map]
theorem many_le (f : Nat) (rs : List (List Bool)) : many f rs ≤ rs.length := List.length_filter_le _ _
theorem plc_lt {f : Nat} {rs : List (List Bool)} {i : Nat} (h : i ∈ plc f rs) : i < rs.length := List.mem_range.mp (List.mem_filter.mp h).1
theorem any_at {α : Type} (l : List α) (z : α) (q : α → Bool) : (List.range l.length).any (fun i => q (l.getD i z)) = l.any q := by
  have e : (List.range l.length).map (fun i => l.getD i z) = l := by
    apply List.ext_getElem
    · rw [List.length_map, List.length_range]
    · intro i h1 h2
      simp [h2]
  calc (List.range l.length).any (fun i => q (l.getD i z)) = ((List.range l.length).map (fun i => l.getD i z)).any q := by rw [List.any_map]; rfl
    _ = l.any q := by rw [e]
theorem plc_any (f : Nat) (rs : List (List Bool)) (t : Nat → Bool) : (plc f rs).any t = (List.range rs.length).any fun i => bt (rs.getD i []) f && t i := by
  unfold plc
  rw [List.any_filter]
theorem sel_emp (c : Nat → Bool) (p : Nat → V) (n : Nat) : (sel c p n).isEmpty = !(List.range n).any c := by
  cases e : (List.range n).any c with
  | true =>
    obtain ⟨i, hi, hc⟩ := List.any_eq_true.mp e
    cases z : sel c p n with
    | nil =>
      have : i ∈ (List.range n).filter c := List.mem_filter.mpr ⟨hi, hc⟩
      unfold sel at z
      rw [List.map_eq_nil_iff] at z
      rw [z] at this
      cases this
    | cons _ _ => rfl
  | false =>
    have : (List.range n).filter c = [] := by
      rw [List.filter_eq_nil_iff]
      intro i hi hc
      have := List.any_eq_false.mp e i hi
      exact this hc
    unfold sel
    rw [this]
    rfl
theorem in_plc (f : Nat) (rs : List (List Bool)) (k : Nat) : inV (.int (k : Nat)) (iV (plc f rs)) = (decide (k < rs.length) && bt (rs.getD k []) f) := by
  unfold inV iV
  rw [List.any_map, Bool.eq_iff_iff, List.any_eq_true, Bool.and_eq_true, decide_eq_true_eq]
  have eq : ∀ i : Nat, (eqV (.int (i : Nat)) (.int (k : Nat)) = true) ↔ i = k := fun i => by
    have : eqV (.int (i : Nat)) (.int (k : Nat)) = ((i : Int) == (k : Int)) := rfl
    rw [this, beq_iff_eq]
    omega
  constructor
  · rintro ⟨i, hi, h⟩
    have := (eq i).mp h
    subst this
    obtain ⟨h1, h2⟩ := List.mem_filter.mp hi
    exact ⟨List.mem_range.mp h1, h2⟩
  · rintro ⟨h1, h2⟩
    exact ⟨k, List.mem_filter.mpr ⟨List.mem_range.mpr h1, h2⟩, (eq k).mpr rfl⟩
def tsel (so : Option Str) (L : List Str) (j : Nat) : Bool :=
  match so with
  | none => true
  | some z => decide (L.getD j "" = z)
def tcnt (so : Option Str) (L : List Str) : Nat :=
  match so with
  | none => L.length
  | some z => L.count z
theorem tsel_len (so : Option Str) (L : List Str) (p : Nat → V) : (sel (tsel so L) p L.length).length = tcnt so L := by
  unfold sel
  rw [List.length_map]
  cases so with
  | none =>
    show ((List.range L.length).filter fun _ => true).length = L.length
    rw [List.filter_eq_self.mpr (fun _ _ => rfl), List.length_range]
  | some z =>
    show ((List.range L.length).filter fun j => decide (L.getD j "" = z)).length = L.count z
    have e : (List.range L.length).map (fun i => L.getD i "") = L := by
      apply List.ext_getElem
      · rw [List.length_map, List.length_range]
      · intro i h1 h2
        simp [h2]
    have e2 : L.count z = (((List.range L.length).map (fun i => L.getD i "")).filter fun x => x == z).length := by
      rw [e, List.count_eq_length_filter]
    rw [e2, List.filter_map, List.length_map]
    congr 1
end K6

set_option Elab.async false
set_option linter.all false
set_option maxRecDepth 100000
set_option maxHeartbeats 4000000
namespace K6
open PySem PySem.Spec PyProof.Rows L2 So
abbrev nLfs : List Str := ["question", "label", "nodes", "texts", "kids", "within", "node", "facts", "more", "found", "fact", "word", "part", "some", "at", "text", "kid"]
abbrev JW : List Str := ["text", "label", "not", "and", "or"]
/-! ### the tests of _law_facts -/
def tNod (K : PySem.W.Frag) : TT := fun σ H Q => ∃ (c : Addr) (z : Str) (xs : List V), σ[6]? = some (some (.ref c)) ∧ SqT K H c xs ∧ xs[0]? = some (.str z) ∧ Q (decide (z = "text")) H
theorem nod_of {K : PySem.W.Frag} : ∀ σ H Q, tNod K σ H Q → tTest (tOp rEq (tOp (rIxT K) (tVar 6) (tC (.int 0))) (tC (.str "text"))) σ H Q := by
  rintro σ H Q ⟨c, z, xs, e6, hc, e0, q⟩
  refine ⟨_, e6, c, _, _, _, rfl, rfl, hc, atI_nat (j := 0) e0, rfl, _, congrArg V.bl ?_, q⟩
  exact decide_eq_decide.mpr ⟨fun e => V.str.inj e, fun e => congrArg V.str e⟩
def tsl (so : Option Str) (z : Str) : Bool := match so with | none => true | some y => decide (z = y)
theorem tsel_eq (so : Option Str) (L : List Str) (j : Nat) : tsel so L j = tsl so (L.getD j "") := by cases so <;> rfl
def tTxt : TT := fun σ H Q => ∃ (so : Option Str) (z : Str), σ[12]? = some (some (optV so)) ∧ σ[15]? = some (some (.str z)) ∧ Q (tsl so z) H
theorem txt_of : ∀ σ H Q, tTxt σ H Q → tOr (tB (tIsN (tVar 12))) (tTest (tOp rEq (tVar 15) (tVar 12))) σ H Q := by
  rintro σ H Q ⟨so, z, e12, e15, q⟩
  cases so with
  | none => exact ⟨_, e12, true, rfl, iteT q⟩
  | some y =>
    refine ⟨_, e12, false, rfl, iteF ⟨_, e15, _, e12, rfl, _, congrArg V.bl ?_, q⟩⟩
    exact decide_eq_decide.mpr ⟨fun e => V.str.inj e, fun e => congrArg V.str e⟩
def tKid (K : PySem.W.Frag) : TT := fun σ H Q => ∃ (c fa : Addr) (us : List V) (g : Nat) (r : List Bool), σ[16]? = some (some (.ref c)) ∧ σ[10]? = some (some (.ref fa)) ∧ SqT K H fa us ∧ us[2]? = some (.int (g : Nat)) ∧ SqT K H c (bV r) ∧ g < r.length ∧ Q (bt r g) H
theorem kid_of {K : PySem.W.Frag} : ∀ σ H Q, tKid K σ H Q → tB (tOp (rIxT K) (tVar 16) (tOp (rIxT K) (tVar 10) (tC (.int 2)))) σ H Q := by
  rintro σ H Q ⟨c, fa, us, g, r, e16, e10, hf, eu, hc, l, q⟩
  exact ⟨_, e16, _, e10, fa, _, _, _, rfl, rfl, hf, atI_nat (j := 2) eu, c, _, _, _, rfl, rfl, hc, atI_nat (bV_bt l), bt r g, rfl, q⟩
def tInr (K : PySem.W.Frag) : TT := fun σ H Q => ∃ (c : Addr) (g : Nat) (r : List Bool), σ[7]? = some (some (.ref c)) ∧ σ[12]? = some (some (.int (g : Nat))) ∧ SqT K H c (bV r) ∧ g < r.length ∧ Q (bt r g) H
theorem inr_of {K : PySem.W.Frag} : ∀ σ H Q, tInr K σ H Q → tB (tOp (rIxT K) (tVar 7) (tVar 12)) σ H Q := by
  rintro σ H Q ⟨c, g, r, e7, e12, hc, l, q⟩
  exact ⟨_, e7, _, e12, c, _, _, _, rfl, rfl, hc, atI_nat (bV_bt l), bt r g, rfl, q⟩
def tSom (K : PySem.W.Frag) (P : Addr) : TT := fun σ H Q => ∃ (kk : Addr) (u : Str) (pv : V) (i : Nat) (rs : List (List Bool)), σ[4]? = some (some (.ref kk)) ∧ σ[11]? = some (some (.str u)) ∧ σ[12]? = some (some pv) ∧ σ[14]? = some (some (.int (i : Nat))) ∧ GxR.TabG H P ∧ RwL K H kk rs ∧ i < rs.length ∧
  ((u ∈ JW ∧ ∀ H', Sm P H H' → Q false H') ∨ (¬ u ∈ JW ∧ ∃ p : Nat, pv = .int (p : Nat) ∧ (∀ r ∈ rs, p < r.length) ∧ ∀ H', Sm P H H' → Q (bt (rs.getD i []) p) H'))
theorem som_of {K : PySem.W.Frag} {P : Addr} : ∀ σ H Q, tSom K P σ H Q → tAnd (tTest (tOp (rIn K true) (tVar 11) (tTup (tCons (tC (.str "text")) (tCons (tC (.str "label")) (tCons (tC (.str "not")) (tCons (tC (.str "and")) (tCons (tC (.str "or")) tNil)))))))) (tB (tOp (rIxT K) (tOp (rIxL K) (tVar 4) (tVar 14)) (tVar 12))) σ H Q := by
  rintro σ H Q ⟨kk, u, pv, i, rs, e4, e11, e12, e14, t, hR, hi, hc⟩
  refine ⟨_, e11, (by show 5 ≤ sizeLine; decide), fun q hq => ?_⟩
  have s1 := Sm.new (o := .tup (sV JW)) t hq
  obtain ⟨xs, ha, hp⟩ := hR
  have lx := rw_len hp
  rcases hc with ⟨hu, k⟩ | ⟨hu, p, rfl, hl, k⟩
  · refine ⟨q, sV JW, rfl, .inr (.inl (.inl upd_same)), rfl, sV_flat _, false, congrArg V.bl ?_, iteF (k _ s1)⟩
    show (!inV (V.str u) (sV JW)) = false
    rw [inV_str, decide_eq_true hu]
    rfl
  · refine ⟨q, sV JW, rfl, .inr (.inl (.inl upd_same)), rfl, sV_flat _, true, congrArg V.bl ?_, iteT ?_⟩
    · show (!inV (V.str u) (sV JW)) = true
      rw [inV_str, decide_eq_false hu]
      rfl
    have hx0 : i < xs.length := by omega
    have hx := List.getElem?_eq_getElem hx0
    obtain ⟨r, b, hr, eb, hb⟩ := rw_at hp hx
    rw [eb] at hx
    have e1 : rs.getD i [] = r := by rw [List.getD_eq_getElem?_getD, hr]; rfl
    have k1 := k _ s1
    rw [e1] at k1
    exact ⟨_, e4, _, e14, kk, _, _, _, rfl, rfl, s1.lst t ha, atI_nat hx, _, e12, b, _, _, _, rfl, rfl, s1.tup t hb, atI_nat (bV_bt (hl r (List.mem_of_getElem? hr))), bt r p, rfl, k1⟩
def tNxt (K : PySem.W.Frag) : TT := fun σ H Q => ∃ (kk fa : Addr) (us : List V) (i g : Nat) (rs : List (List Bool)), σ[4]? = some (some (.ref kk)) ∧ σ[10]? = some (some (.ref fa)) ∧ σ[14]? = some (some (.int (i : Nat))) ∧ SqT K H fa us ∧ us[2]? = some (.int (g : Nat)) ∧ RwL K H kk rs ∧ (∀ r ∈ rs, g < r.length) ∧ Q (decide (i + 1 < rs.length) && bt (rs.getD (i + 1) []) g) H
theorem nxt_of {K : PySem.W.Frag} : ∀ σ H Q, tNxt K σ H Q → tAnd (tTest (tOp (rI0 fun i j => .bl (decide (i < j))) (tOp (rI0 fun i j => .int (i + j)) (tVar 14) (tC (.int 1))) (tCB (fun xs H Q => ∃ p ys, xs = [.ref p] ∧ (SqL K H p ys ∨ SqT K H p ys) ∧ Q (.int ys.length) H) (tCons (tVar 4) tNil)))) (tB (tOp (rIxT K) (tOp (rIxL K) (tVar 4) (tOp (rI0 fun i j => .int (i + j)) (tVar 14) (tC (.int 1)))) (tOp (rIxT K) (tVar 10) (tC (.int 2))))) σ H Q := by
  rintro σ H Q ⟨kk, fa, us, i, g, rs, e4, e10, e14, hf, eg, ⟨xs, ha, hp⟩, hl, q⟩
  have lx := rw_len hp
  refine ⟨_, e14, _, _, rfl, rfl, _, e4, kk, xs, rfl, .inl ha, _, _, rfl, rfl, decide (i + 1 < rs.length), congrArg V.bl (decide_eq_decide.mpr (by rw [lx]; omega)), ?_⟩
  by_cases h : i + 1 < rs.length
  · rw [decide_eq_true h] at q ⊢
    rw [Bool.true_and] at q
    have hx := List.getElem?_eq_getElem (show i + 1 < xs.length by omega)
    obtain ⟨r, b, hr, eb, hb⟩ := rw_at hp hx
    rw [eb] at hx
    have e1 : rs.getD (i + 1) [] = r := by rw [List.getD_eq_getElem?_getD, hr]; rfl
    rw [e1] at q
    exact iteT ⟨_, e4, _, e14, _, _, rfl, rfl, kk, _, _, _, rfl, rfl, ha, atI_nat (j := i + 1) hx, _, e10, fa, _, _, _, rfl, rfl, hf, atI_nat (j := 2) eg, b, _, _, _, rfl, rfl, hb, atI_nat (bV_bt (hl r (List.mem_of_getElem? hr))), bt r g, rfl, q⟩
  · rw [decide_eq_false h] at q ⊢
    exact iteF q
/-! ### lists that are empty or not -/
theorem lay_ints (ns : List Nat) : PyData.canLayAll0 (ns.map fun n => .int (n : Nat)) = true := by
  induction ns with
  | nil => rfl
  | cons n r ih => exact ih
def bsD (r : List Bool) : PyData := .tuple (r.map .bool)
theorem bs_all {H : Hp} {K : PySem.W.Frag} : ∀ bs : List Bool, DpAll K H (bV bs) (bs.map .bool)
  | [] => .nil
  | b :: r => .cons (.bl _) (bs_all r)
theorem ns_all {H : Hp} {K : PySem.W.Frag} : ∀ ns : List Nat, DpAll K H (iV ns) (ns.map fun n => .int (n : Nat))
  | [] => .nil
  | n :: r => .cons (.int _) (ns_all r)
theorem deep_flat {ds : List PyData} (h : ∀ d ∈ ds, d.depth ≤ 1) : PyData.depthAll ds ≤ 1 := by
  induction ds with
  | nil => exact Nat.zero_le _
  | cons d r ih => exact Nat.max_le.mpr ⟨h d (List.mem_cons_self ..), ih fun x hx => h x (List.mem_cons_of_mem _ hx)⟩
theorem deep_bs (r : List Bool) : (bsD r).depth ≤ 1 := by
  have : ∀ r : List Bool, PyData.depthAll (r.map .bool) = 0 := fun r => by
    induction r with
    | nil => rfl
    | cons b r ih => simp only [List.map_cons, PyData.depthAll, PyData.depth, ih, Nat.max_self]
  show PyData.depthAll (r.map .bool) + 1 ≤ 1
  rw [this]
  exact Nat.le_refl _
theorem lay_bs (r : List Bool) : (bsD r).canLay0 = true := by
  show PyData.canLayAll0 (r.map .bool) = true
  induction r with
  | nil => rfl
  | cons b r ih => exact ih
theorem shp_list {ds : List PyData} (l : PyData.canLayAll0 ds = true) (h : ∀ d ∈ ds, d.depth ≤ 1) : SeqAt.shaped (.list ds) = true := by
  show (PyData.canLayAll0 ds && decide (PyData.depthAll ds + 1 ≤ 64)) = true
  rw [l, Bool.true_and]
  have := deep_flat h
  exact decide_eq_true (by omega)
theorem shp_ns (ns : List Nat) : SeqAt.shaped (.list (ns.map fun n => .int (n : Nat))) = true := shp_list (lay_ints ns) fun d hd => by
  obtain ⟨n, _, rfl⟩ := List.mem_map.mp hd
  exact Nat.zero_le _
theorem lay_rows (rs : List (List Bool)) : PyData.canLayAll0 (rs.map bsD) = true := by
  induction rs with
  | nil => rfl
  | cons r rs ih =>
    show ((bsD r).canLay0 && PyData.canLayAll0 (rs.map bsD)) = true
    rw [lay_bs, ih]
    rfl
theorem shp_rows (rs : List (List Bool)) : SeqAt.shaped (.list (rs.map bsD)) = true := shp_list (lay_rows rs) fun d hd => by
  obtain ⟨n, _, rfl⟩ := List.mem_map.mp hd
  exact deep_bs n
theorem it_bs {H : Hp} {K : PySem.W.Frag} {v : V} {ns : List Bool} (h : ItS (SqT K) H v (bV ns)) : Dp K H v (bsD ns) := by
  obtain ⟨b, rfl, h⟩ := h
  exact .tup h (bs_all ns)
theorem rows_bs {H : Hp} {K : PySem.W.Frag} : ∀ {xs : List V} {rs : List (List Bool)}, Paired (ItS (SqT K) H) xs (aV rs) → DpAll K H xs (rs.map bsD)
  | [], [], _ => .nil
  | x :: xs, r :: rs, h => by
    cases h with
    | cons h1 h2 => exact .cons (it_bs h1) (rows_bs h2)
  | [], _ :: _, h => by cases h
  | _ :: _, [], h => by cases h
theorem ne_nil {K : PySem.W.Frag} {H : Hp} {D E : Addr} {xs : List V} {ds : List PyData} {Q : VK} (h : SqL K H D xs) (hd : DpAll K H xs ds) (sh : SeqAt.shaped (.list ds) = true) (hE : H E = some (.lst [])) (q : Q (.bl (!ds.isEmpty)) H) : rNeD K (.ref D) (.ref E) H Q := by
  refine ⟨.list ds, .list [], .lst h hd, .lst (SqL.of hE) .nil, sh, (by decide +kernel), ?_⟩
  have e : PyData.eqv (.list ds) (.list []) = ds.isEmpty := by
    cases ds <;> simp [PyData.eqv, PyData.eqvAll]
  rw [e]
  exact q
def selR (c : Nat → Bool) (rs : List (List Bool)) (n : Nat) : List (List Bool) := ((List.range n).filter c).map fun j => rs.getD j []
theorem flt_emp (c : Nat → Bool) (n : Nat) : ((List.range n).filter c).isEmpty = !(List.range n).any c := by
  have := sel_emp c (fun _ => .non) n
  unfold sel at this
  rw [List.isEmpty_map] at this
  exact this
theorem selR_emp (c : Nat → Bool) (rs : List (List Bool)) (n : Nat) : ((selR c rs n).map bsD).isEmpty = !(List.range n).any c := by
  unfold selR
  rw [List.isEmpty_map, List.isEmpty_map, flt_emp]
theorem sel_dpR {K : PySem.W.Frag} {H : Hp} {c : Nat → Bool} {p : Nat → V} {rs : List (List Bool)} {n : Nat} (h : ∀ j, j < n → Dp K H (p j) (bsD (rs.getD j []))) : DpAll K H (sel c p n) ((selR c rs n).map bsD) := by
  unfold sel selR
  have : ∀ l : List Nat, (∀ j ∈ l, j < n) → DpAll K H (l.map p) ((l.map fun j => rs.getD j []).map bsD) := by
    intro l
    induction l with
    | nil => exact fun _ => .nil
    | cons j r ih => exact fun q => .cons (h j (q j (List.mem_cons_self ..))) (ih fun x hx => q x (List.mem_cons_of_mem _ hx))
  exact this _ fun j hj => List.mem_range.mp (List.mem_filter.mp hj).1
theorem cutN (xs : List V) (n : Nat) : cutV xs (some (n : Int)) none = xs.drop n := by
  unfold cutV HT.sIx
  have h0 : ¬ ((n : Int) < 0) := by omega
  simp [h0]
  rcases Nat.le_total n xs.length with h | h
  · rw [Nat.min_eq_left h, List.take_of_length_le (by rw [List.length_drop]; exact Nat.le_refl _)]
  · rw [Nat.min_eq_right h, List.drop_eq_nil_of_le (Nat.le_refl _), List.drop_eq_nil_of_le h, List.take_nil]
theorem paired_drop {α β : Type} {R : α → β → Prop} : ∀ {xs : List α} {ys : List β} (n : Nat), Paired R xs ys → Paired R (xs.drop n) (ys.drop n)
  | _, _, 0, h => h
  | _, _, _ + 1, .nil => .nil
  | _, _, n + 1, .cons _ r => paired_drop n r
def tLtt (K : PySem.W.Frag) (P : Addr) : TT := fun σ H Q => ∃ (kk fa : Addr) (us : List V) (i g : Nat) (rs : List (List Bool)), σ[4]? = some (some (.ref kk)) ∧ σ[10]? = some (some (.ref fa)) ∧ σ[14]? = some (some (.int (i : Nat))) ∧ SqT K H fa us ∧ us[2]? = some (.int (g : Nat)) ∧ GxR.TabG H P ∧ RwL K H kk rs ∧ (∀ r ∈ rs, g < r.length) ∧ rs.length ≤ 1000 ∧ σ.length = 17 ∧ ∀ H', Sm P H H' → Q ((rs.drop (i + 1)).any fun r => bt r g) H'
theorem ltt_of {K : PySem.W.Frag} {P : Addr} : ∀ σ H Q, tLtt K P σ H Q → tTest (tOp (rNeD K) (tLc (iList K (tSl (rSlL K) (tVar 4) (tPart (tOp (rI0 fun i j => .int (i + j)) (tVar 14) (tC (.int 1)))) tNoPart)) (gName 16) (tKid K) (tVar 16) [16]) (tLst tNil)) σ H Q := by
  rintro σ H Q ⟨kk, fa, us, i, g, rs, e4, e10, e14, hf, eg, t, ⟨xs, ha, hp⟩, hl, hn, ls, k⟩
  have lx := rw_len hp
  refine ⟨_, e4, _, e14, _, _, rfl, rfl, _, rfl, kk, xs, rfl, ha, fun p hp1 => ?_⟩
  have ei : ((i : Int) + 1) = ((i + 1 : Nat) : Int) := by omega
  rw [ei, cutN]
  have s1 := Sm.new (o := .lst (xs.drop (i + 1))) t hp1
  have hp2 : Paired (ItS (SqT K) (upd H p (.lst (xs.drop (i + 1))))) (xs.drop (i + 1)) (aV (rs.drop (i + 1))) := by
    have := paired_drop (i + 1) (paired_mono (fun _ _ h => ItS.mono mo_tup t s1 h) hp)
    unfold aV at this ⊢
    rw [List.map_drop]
    exact this
  have hl2 : ∀ r ∈ rs.drop (i + 1), g < r.length := fun r h => hl r (List.mem_of_mem_drop h)
  have hn2 : (rs.drop (i + 1)).length ≤ 1000 := by rw [List.length_drop]; omega
  have ha2 : (upd H p (.lst (xs.drop (i + 1)))) p = some (.lst (xs.drop (i + 1))) := upd_same
  generalize upd H p (.lst (xs.drop (i + 1))) = H1 at *
  generalize rs.drop (i + 1) = rs2 at *
  generalize xs.drop (i + 1) = xs2 at *
  have lx2 := rw_len hp2
  have hf1 := s1.tup t hf
  have t1 := s1.2
  refine ⟨p, rfl, ⟨_, SqL.of ha2⟩, fun D hD => ?_⟩
  refine lc_sel (P := P) (g := gName 16) (tt := tKid K) (te := tVar 16) (walk_list (K := K) (a := p) (xs := xs2)) t1 hD (by rw [lx2]; omega) (fun H' s => SqL.of (s.atL t1 ha2)) (fun j => bt (rs2.getD j []) g) (fun j => xs2.getD j .non) ?_ ?_
  · rintro j x H3 H4 Qe N hj s3 ⟨rfl, hy⟩ hq hN
    obtain ⟨r, b, hr, rfl, hb⟩ := rw_at hp2 hy
    have e1 : rs2.getD j [] = r := by rw [List.getD_eq_getElem?_getD, hr]; rfl
    have e2 : xs2.getD j .non = .ref b := by rw [List.getD_eq_getElem?_getD, hy]; rfl
    refine ⟨by simp [wipe], b, fa, us, g, r, ?_, ?_, s3.tup t1 hf1, eg, s3.tup t1 hb, hl2 r (List.mem_of_getElem? hr), ?_⟩
    · simp [wipe, ls]
    · simp only [wipe, List.foldl]
      rw [List.getElem?_set_ne (by decide), List.getElem?_set_ne (by decide)]
      exact e10
    cases e : bt r g with
    | true =>
      rw [if_pos rfl]
      have := hq (by rw [e1]; exact e) _ (Sm.refl s3.2)
      rw [e2] at this
      refine ⟨_, ?_, this⟩
      simp [wipe, ls]
    | false =>
      rw [if_neg (by decide)]
      exact hN (by rw [e1]; exact e) _ (Sm.refl s3.2)
  · intro H3 s3 e3
    refine ⟨(by decide), fun E hE => ?_⟩
    have s4 := Sm.new (o := .lst []) s3.2 hE
    refine ne_nil (SqL.of (s4.atL s3.2 e3)) (sel_dpR (rs := rs2) fun j hj => ?_) (shp_rows _) upd_same ?_
    · have hy := List.getElem?_eq_getElem hj
      obtain ⟨r, b, hr, eb, hb⟩ := rw_at hp2 hy
      have e1 : rs2.getD j [] = r := by rw [List.getD_eq_getElem?_getD, hr]; rfl
      have e2 : xs2.getD j .non = .ref b := by rw [List.getD_eq_getElem?_getD, hy]; exact eb
      rw [e1, e2]
      exact it_bs ⟨b, rfl, s4.tup s3.2 (s3.tup t1 hb)⟩
    · rw [selR_emp, Bool.not_not, lx2]
      refine ⟨_, rfl, ?_⟩
      have := k _ ((s1.trans s3).trans s4)
      rw [← any_rows] at this
      exact this
/-! ### texts of a row, nodes at a place -/
def isTxAt (ds : List Nd) (i : Nat) : Bool := match ds[i]? with | some (.tx _) => true | _ => false
def txAt (ds : List Nd) (i : Nat) : V := match ds[i]? with | some (.tx z) => .str z | _ => .non
theorem sel_txs : ∀ ds : List Nd, sel (isTxAt ds) (txAt ds) ds.length = sV (txsOf ds)
  | [] => rfl
  | d :: r => by
    have ih := sel_txs r
    unfold sel at ih ⊢
    rw [List.length_cons, List.range_succ_eq_map, List.filter_cons, List.filter_map]
    have e1 : (isTxAt (d :: r) ∘ Nat.succ) = isTxAt r := rfl
    have e2 : (txAt (d :: r) ∘ Nat.succ) = txAt r := rfl
    rw [e1]
    cases d with
    | tx z =>
      rw [if_pos (show isTxAt (.tx z :: r) 0 = true from rfl), List.map_cons, List.map_map, e2, ih]
      rfl
    | el l es =>
      rw [if_neg (by show ¬ false = true; decide), List.map_map, e2, ih]
      rfl
theorem ds_len : ∀ ds : List Nd, ds.length ≤ (sgs ds).length
  | [] => Nat.zero_le _
  | .tx z :: r => by
    have := ds_len r
    rw [sgs, sgN, List.length_append, List.length_cons, List.length_cons]
    simp only [List.length_nil]
    omega
  | .el l es :: r => by
    have := ds_len r
    rw [sgs, sgN, List.length_append, List.length_cons, List.length_cons]
    omega
theorem sgs_take (ds : List Nd) (i : Nat) : (sgs (ds.take i)).length ≤ (sgs ds).length := by
  have e : (sgs (ds.take i ++ ds.drop i)).length = (sgs ds).length := by rw [List.take_append_drop]
  rw [sgs_append, List.length_append] at e
  omega
theorem nds_at {K : PySem.W.Frag} {H : Hp} : ∀ {xs : List V} {ds : List Nd} {i : Nat} {x : V}, DpAll K H xs (ndsD ds) → xs[i]? = some x → ∃ d, ds[i]? = some d ∧ Dp K H x (ndD d)
  | [], _, i, x, _, e => by simp at e
  | y :: xs, [], i, x, h, e => by
    rw [ndsD] at h
    cases h
  | y :: xs, d :: ds, i, x, h, e => by
    rw [ndsD] at h
    cases h with
    | cons h1 h2 =>
      match i, e with
      | 0, e =>
        cases e
        exact ⟨d, rfl, h1⟩
      | i + 1, e =>
        obtain ⟨d', q1, q2⟩ := nds_at (i := i) h2 (by simpa using e)
        exact ⟨d', by simpa using q1, q2⟩
def Fa.part : Fa → V
  | .txt s _ => optV s
  | .lab l => .str l
  | .chi f _ => .int (f : Nat)
  | .mdl f _ _ => .int (f : Nat)
  | .two _ f _ => .int (f : Nat)
  | .one _ f => .int (f : Nat)
theorem vs_0 (f : Fa) : f.vs[0]? = some (.str f.w) := by cases f <;> rfl
theorem vs_1 (f : Fa) : f.vs[1]? = some f.part := by cases f <;> rfl
def Fa.pn : Fa → Nat
  | .txt _ _ => 0
  | .lab _ => 0
  | .chi f _ => f
  | .mdl f _ _ => f
  | .two _ f _ => f
  | .one _ f => f
def isJW (f : Fa) : Bool := decide (f.w ∈ JW)
theorem part_n {f : Fa} (h : ¬ f.w ∈ JW) : f.part = .int (f.pn : Nat) := by
  cases f with
  | txt s n => exact absurd (by show ("text" : Str) ∈ JW; simp [JW]) h
  | lab l => exact absurd (by show ("label" : Str) ∈ JW; simp [JW]) h
  | _ => rfl
theorem pn_ok {f : Fa} {n : Nat} (h : ¬ f.w ∈ JW) (ok : f.ok n) : f.pn < n := by
  cases f with
  | txt s n => exact absurd (by show ("text" : Str) ∈ JW; simp [JW]) h
  | lab l => exact absurd (by show ("label" : Str) ∈ JW; simp [JW]) h
  | chi f m => exact ok.1
  | mdl f m r => exact ok.1
  | two w f g => exact ok.1
  | one w f => exact ok
def sC (f : Fa) (rs : List (List Bool)) (i : Nat) : Bool := decide (¬ f.w ∈ JW) && bt (rs.getD i []) f.pn
theorem sC_plc {f : Fa} (h : ¬ f.w ∈ JW) (rs : List (List Bool)) : sel (sC f rs) (fun i => V.int (i : Nat)) rs.length = iV (plc f.pn rs) := by
  have : sC f rs = fun i => bt (rs.getD i []) f.pn := by
    funext i
    unfold sC
    rw [decide_eq_true h, Bool.true_and]
  rw [this]
  rfl
theorem sel_ints (c : Nat → Bool) (g : Nat → Nat) (n : Nat) : sel c (fun j => V.int (g j : Nat)) n = iV (((List.range n).filter c).map g) := by
  unfold sel iV
  rw [List.map_map]
  rfl
theorem iV_flat (ns : List Nat) : (iV ns).all flatV = true := by
  unfold iV
  rw [List.all_map]
  exact List.all_eq_true.mpr fun _ _ => rfl
theorem iV_len (ns : List Nat) : (iV ns).length = ns.length := List.length_map _
section
variable {Pg : Program} {w : World} {K : PySem.W.Frag} {mg : Str → Option Value} {base : Heap} {P d J : Addr}
abbrev sLfs : Stmt := top 44
theorem scLfs : FnScope nLfs ["question", "label", "nodes"] (defScope sLfs) := ⟨rfl, rfl, rfl, by decide +kernel, rfl, by decide +kernel, by decide +kernel⟩
abbrev kScL : Scope := { kind := ScopeKind.function, names := [(".0", NameKind.local), ("at", NameKind.local), ("fact", NameKind.cell), ("kids", NameKind.cell)], isGenerator := false, isCoroutine := false }
def spLfs (K : PySem.W.Frag) (P : Addr) (h : Nat) : Sp := Pu P fun vs H R => ∃ (fq d : Addr) (lab : Option Str) (q : List Fa) (xs : List V) (ds : List Nd), vs = [.ref fq, optV lab, .ref d] ∧ RowsS (SqT K) H (.ref fq) (fV q) ∧ okQ q ∧ SqT K H d xs ∧ DpAll K H xs (ndsD ds) ∧ hiS ds < h ∧ (sgs ds).length ≤ 1000 ∧
  R = fun v H' => ∃ r t wl ys, v = .ref r ∧ SqT K H' r [.ref t, .ref wl] ∧ SqT K H' t (bV (rowF q lab ds)) ∧ H' wl = some (.lst ys) ∧ Paired (ItS (SqT K) H') ys (aV (wiS q ds))
theorem ok_lfs {f : Addr} {fd : FuncData} (F : Fun K "_law_facts" "_law_facts" sLfs f fd) (T : Tz K w mg d J) (R : Df K mg "_law_facts" sLfs ["question", "label", "nodes"] f fd) :
    ∀ h, FnOk Pg w K mg base CX0 (h + 1) f fd ["question", "label", "nodes"] (spLfs K P h)
  | 0 => by
    refine F.ok scLfs (fun vs H Q E h => ?_) (fun cdv A' outer s H vs Q E hr h => ?_)
    · obtain ⟨_, _, ⟨_, _, _, _, _, _, rfl, _⟩, _⟩ := h
      rfl
    · obtain ⟨_, _, ⟨_, _, _, _, _, _, _, _, _, _, _, z, _⟩, _⟩ := h
      exact absurd z (Nat.not_lt_zero _)
  | h + 1 => by
    have G : FnOk Pg w K mg base CX0 (h + 1) f fd ["question", "label", "nodes"] (spLfs K P h) := ok_lfs F T R h
    refine F.ok scLfs (fun vs H Q E h => ?_) (fun cdv A' outer s H vs Q E hr h => ?_)
    · obtain ⟨_, _, ⟨_, _, _, _, _, _, rfl, _⟩, _⟩ := h
      rfl
    obtain ⟨t, _, ⟨fq, d, lab, q, xs, ds, rfl, hq, okq, hd, hds, hh, hlen, rfl⟩, k⟩ := h
    have hu := hr.units
    refine ⟨_, (pss_cons (ps_asg (pe_tup (pa_cons (pe_lc (own := [("node", 6)]) (g := gName 6) (tt := (tNod K)) rfl scLfs.nd (pi_tup (pv 2)) (blkOk_by (N := nLfs) (sc := defScope sLfs) (by decide +kernel)) (fun _ _ _ _ _ => pg_name (i := 6) scLfs.nd rfl (Or.inl rfl)) (fun _ _ _ _ _ => pts_one (show PT _ _ (tNod K) from pt_weak (pt_cmpR op_eq (pe_ix ix_tup (pv 6) pe_int (fun _ _ => rfl)) pe_str (nomark _)) nod_of)) (fun _ _ _ _ _ => show PE _ _ (tOp (rIxT K) (tVar 6) (tC (.int 1))) from (pe_ix ix_tup (pv 6) pe_int (fun _ _ => rfl)))) (pa_cons (pe_lst pa_nil) (pa_cons (pe_lst pa_nil) pa_nil)))) (pg_tup rfl (pgs_cons (pg_name (i := 3) scLfs.nd rfl (.inl rfl)) (pgs_cons (pg_name (i := 4) scLfs.nd rfl (.inr rfl)) (pgs_cons (pg_name (i := 5) scLfs.nd rfl (.inl rfl)) pgs_nil)))))
      (pss_cons (ps_for PassesOwn.never rfl (pi_tup (pv 2)) (pg_name (i := 6) scLfs.nd rfl (Or.inl rfl)) (pss_one (ps_if (pt_cmpR op_eq (pe_ix ix_tup (pv 6) pe_int (fun _ _ => rfl)) pe_str (nomark _)) (pss_cons (ps_asg (pe_call G hr (by rfl) R.g R.F.kp R.b .nil pass0 (pa_cons (pv 0) (pa_cons (pe_ix ix_tup (pv 6) pe_int (fun _ _ => rfl)) (pa_cons (pe_ix ix_tup (pv 6) pe_int (fun _ _ => rfl)) pa_nil)))) (pg_tup rfl (pgs_cons (pg_name (i := 7) scLfs.nd rfl (.inl rfl)) (pgs_cons (pg_name (i := 8) scLfs.nd rfl (.inl rfl)) pgs_nil))))
      (pss_one (ps_asg (pe_tup (pa_cons (pe_op op_cat (pv 4) (pe_lst (pa_cons (pv 7) pa_nil))) (pa_cons (pe_op op_cat (pe_op op_cat (pv 5) (pe_lst (pa_cons (pv 7) pa_nil))) (pv 8)) pa_nil))) (pg_tup rfl (pgs_cons (pg_name (i := 4) scLfs.nd rfl (.inr rfl)) (pgs_cons (pg_name (i := 5) scLfs.nd rfl (.inl rfl)) pgs_nil)))))) pss_nil)))
      (pss_cons (ps_set (i := 9) scLfs.nd rfl (Or.inl rfl) (pe_lst pa_nil))
      (pss_cons (ps_for PassesOwn.never rfl (pi_tup (pv 0)) (pg_name (i := 10) scLfs.nd rfl (Or.inr rfl)) (pss_cons (ps_asg (pe_tup (pa_cons (pe_ix ix_tup (pv 10) pe_int (fun _ _ => rfl)) (pa_cons (pe_ix ix_tup (pv 10) pe_int (fun _ _ => rfl)) pa_nil))) (pg_tup rfl (pgs_cons (pg_name (i := 11) scLfs.nd rfl (.inr rfl)) (pgs_cons (pg_name (i := 12) scLfs.nd rfl (.inr rfl)) pgs_nil))))
      (pss_cons (ps_setLc (i := 13) (own := [("at", 14)]) (g := gName 14) (tt := (tSom K P)) rfl scLfs.nd rfl rfl (sw_true rfl rfl rfl (by decide +kernel)) (pi_range1 (by rfl) T.T.T.range (pa_cons (pe_callB call_len_seq (by rfl) T.T.T.len (by decide +kernel) (pa_cons (pv 4) pa_nil)) pa_nil)) (blkOk_by (N := nLfs) (sc := defScope sLfs) (by decide +kernel)) (fun _ _ _ _ _ => pg_name (i := 14) scLfs.nd rfl (Or.inl rfl)) (fun _ _ _ _ _ => pts_one (show PT _ _ (tSom K P) from pt_weak (PW.pt (pw_and (pt_cmpR op_notIn_seq (pv 11) (pe_tup (pa_cons pe_str (pa_cons pe_str (pa_cons pe_str (pa_cons pe_str (pa_cons pe_str pa_nil)))))) rfl) (pw_and1 (pt_val (pe_ix ix_tup (pe_ix ix_list (pv 4) (pv 14) (fun _ _ => rfl)) (pv 12) (fun _ _ => rfl)))))) som_of)) (fun _ _ _ _ _ => pv 14))
      (pss_one (ps_if (pt_cmpR op_eq (pv 11) pe_str (nomark _)) (pss_one (ps_expr (pe_bm PySem.F.plainAttrs_list PySem.F.slot_list_append PySem.F.type_list_append mt_append (pv 9) (pa_cons (pe_cmpR op_ge (pe_callB call_len_seq (by rfl) T.T.T.len (by decide +kernel) (pa_cons (pe_lc (own := [("text", 15)]) (g := gName 15) (tt := tTxt) rfl scLfs.nd (pi_list (pv 3)) (blkOk_by (N := nLfs) (sc := defScope sLfs) (by decide +kernel)) (fun _ _ _ _ _ => pg_name (i := 15) scLfs.nd rfl (Or.inl rfl)) (fun _ _ _ _ _ => pts_one (show PT _ _ tTxt from pt_weak (PW.pt (pw_or (pt_cmp (pc_isN (pv 12))) (pw_or1 (pt_cmpR op_eq (pv 15) (pv 12) (nomark _))))) txt_of)) (fun _ _ _ _ _ => pv 15)) pa_nil)) (pe_ix ix_tup (pv 10) pe_int (fun _ _ => rfl)) (nomark _)) pa_nil)))) (pss_one (ps_if (pt_cmpR op_eq (pv 11) pe_str (nomark _)) (pss_one (ps_expr (pe_bm PySem.F.plainAttrs_list PySem.F.slot_list_append PySem.F.type_list_append mt_append (pv 9) (pa_cons (pe_and (pe_cmp (pc_notN (pv 1)) rfl) (pe_one (pe_cmpR op_eq (pv 1) (pv 12) (nomark _)))) pa_nil)))) (pss_one (ps_if (pt_cmpR op_eq (pv 11) pe_str (nomark _)) (pss_one (ps_expr (pe_bm PySem.F.plainAttrs_list PySem.F.slot_list_append PySem.F.type_list_append mt_append (pv 9) (pa_cons (pe_cmpR op_ge (pe_callB call_len_seq (by rfl) T.T.T.len (by decide +kernel) (pa_cons (pv 13) pa_nil)) (pe_ix ix_tup (pv 10) pe_int (fun _ _ => rfl)) (nomark _)) pa_nil)))) (pss_one (ps_if (pt_cmpR op_eq (pv 11) pe_str (nomark _)) (pss_one (ps_expr (pe_bm PySem.F.plainAttrs_list PySem.F.slot_list_append PySem.F.type_list_append mt_append (pv 9) (pa_cons (pe_cmpR op_eq (pe_op op_mod (pe_callB call_len_seq (by rfl) T.T.T.len (by decide +kernel) (pa_cons (pv 13) pa_nil)) (pe_ix ix_tup (pv 10) pe_int (fun _ _ => rfl))) (pe_ix ix_tup (pv 10) pe_int (fun _ _ => rfl)) (nomark _)) pa_nil)))) (pss_one (ps_if (pt_cmpR op_eq (pv 11) pe_str (nomark _)) (pss_one (ps_expr (pe_bm PySem.F.plainAttrs_list PySem.F.slot_list_append PySem.F.type_list_append mt_append (pv 9) (pa_cons (pe_cmpR (op_neD hu) (pe_lc (own := [("at", 14)]) (g := gName 14) (tt := (tLtt K P)) rfl scLfs.nd (pi_list (pv 13)) (blkOk_by (N := nLfs) (sc := defScope sLfs) (by decide +kernel)) (fun _ _ _ _ _ => pg_name (i := 14) scLfs.nd rfl (Or.inl rfl)) (fun _ _ _ _ _ => pts_one (show PT _ _ (tLtt K P) from pt_weak (pt_cmpR (op_neD hu) (pe_lc (own := [("kid", 16)]) (g := gName 16) (tt := (tKid K)) rfl scLfs.nd (pi_list (pe_slice sl_list (pv 4) (po_some (pe_op op_add (pv 14) pe_int)) po_none)) (blkOk_by (N := nLfs) (sc := kScL) (by decide +kernel)) (fun _ _ _ _ _ => pg_name (i := 16) scLfs.nd rfl (Or.inl rfl)) (fun _ _ _ _ _ => pts_one (show PT _ _ (tKid K) from pt_weak (pt_val (pe_ix ix_tup (pv 16) (pe_ix ix_tup (pv 10) pe_int (fun _ _ => rfl)) (fun _ _ => rfl))) kid_of)) (fun _ _ _ _ _ => pv 16)) (pe_lst pa_nil) (nomark _)) ltt_of)) (fun _ _ _ _ _ => pv 14)) (pe_lst pa_nil) (nomark _)) pa_nil)))) (pss_one (ps_if (pt_cmpR op_eq (pv 11) pe_str (nomark _)) (pss_one (ps_expr (pe_bm PySem.F.plainAttrs_list PySem.F.slot_list_append PySem.F.type_list_append mt_append (pv 9) (pa_cons (pe_cmpR (op_neD hu) (pe_lc (own := [("at", 14)]) (g := gName 14) (tt := (tNxt K)) rfl scLfs.nd (pi_list (pv 13)) (blkOk_by (N := nLfs) (sc := defScope sLfs) (by decide +kernel)) (fun _ _ _ _ _ => pg_name (i := 14) scLfs.nd rfl (Or.inl rfl)) (fun _ _ _ _ _ => pts_one (show PT _ _ (tNxt K) from pt_weak (PW.pt (pw_and (pt_cmpR op_lt (pe_op op_add (pv 14) pe_int) (pe_callB call_len_seq (by rfl) T.T.T.len (by decide +kernel) (pa_cons (pv 4) pa_nil)) (nomark _)) (pw_and1 (pt_val (pe_ix ix_tup (pe_ix ix_list (pv 4) (pe_op op_add (pv 14) pe_int) (fun _ _ => rfl)) (pe_ix ix_tup (pv 10) pe_int (fun _ _ => rfl)) (fun _ _ => rfl)))))) nxt_of)) (fun _ _ _ _ _ => pv 14)) (pe_lst pa_nil) (nomark _)) pa_nil)))) (pss_one (ps_if (pt_cmpR op_eq (pv 11) pe_str (nomark _)) (pss_one (ps_expr (pe_bm PySem.F.plainAttrs_list PySem.F.slot_list_append PySem.F.type_list_append mt_append (pv 9) (pa_cons (pe_cmpR op_in_seq pe_int (pv 13) rfl) pa_nil)))) (pss_one (ps_if (pt_cmpR op_eq (pv 11) pe_str (nomark _)) (pss_one (ps_expr (pe_bm PySem.F.plainAttrs_list PySem.F.slot_list_append PySem.F.type_list_append mt_append (pv 9) (pa_cons (pe_and (pe_cmpR (op_neD hu) (pv 4) (pe_lst pa_nil) (nomark _)) (pe_one (pe_cmpR op_in_seq (pe_op op_sub (pe_callB call_len_seq (by rfl) T.T.T.len (by decide +kernel) (pa_cons (pv 4) pa_nil)) pe_int) (pv 13) rfl))) pa_nil)))) (pss_one (ps_if (pt_cmpR op_eq (pv 11) pe_str (nomark _)) (pss_one (ps_expr (pe_bm PySem.F.plainAttrs_list PySem.F.slot_list_append PySem.F.type_list_append mt_append (pv 9) (pa_cons (pe_cmpR (op_neD hu) (pe_lc (own := [("facts", 7)]) (g := gName 7) (tt := (tInr K)) rfl scLfs.nd (pi_list (pv 5)) (blkOk_by (N := nLfs) (sc := defScope sLfs) (by decide +kernel)) (fun _ _ _ _ _ => pg_name (i := 7) scLfs.nd rfl (Or.inl rfl)) (fun _ _ _ _ _ => pts_one (show PT _ _ (tInr K) from pt_weak (pt_val (pe_ix ix_tup (pv 7) (pv 12) (fun _ _ => rfl))) inr_of)) (fun _ _ _ _ _ => pv 7)) (pe_lst pa_nil) (nomark _)) pa_nil)))) (pss_one (ps_if (pt_cmpR op_eq (pv 11) pe_str (nomark _)) (pss_one (ps_expr (pe_bm PySem.F.plainAttrs_list PySem.F.slot_list_append PySem.F.type_list_append mt_append (pv 9) (pa_cons (pe_not (pe_ix ix_list (pv 9) (pv 12) (fun _ _ => rfl))) pa_nil)))) (pss_one (ps_expr (pe_bm PySem.F.plainAttrs_list PySem.F.slot_list_append PySem.F.type_list_append mt_append (pv 9) (pa_cons (pe_ifExp (pt_cmpR op_eq (pv 11) pe_str (nomark _)) (pe_and (pe_ix ix_list (pv 9) (pv 12) (fun _ _ => rfl)) (pe_one (pe_ix ix_list (pv 9) (pe_ix ix_tup (pv 10) pe_int (fun _ _ => rfl)) (fun _ _ => rfl)))) (pe_or (pe_ix ix_list (pv 9) (pv 12) (fun _ _ => rfl)) (pe_one (pe_ix ix_list (pv 9) (pe_ix ix_tup (pv 10) pe_int (fun _ _ => rfl)) (fun _ _ => rfl))))) pa_nil)))))))))))))))))))))))))))
      (pss_one (ps_ret (pe_tup (pa_cons (pe_tupleOf (by rfl) T.T.T.tuple (pv 9)) (pa_cons (pv 5) pa_nil))))))))), ?_⟩
    have small : ∀ {n : Nat}, n ≤ 5000 → n < sizeLine := fun h => Nat.lt_of_le_of_lt h (by decide)
    have lxs : xs.length = ds.length := (all_length hds).trans (ndsD_length ds)
    have lds : ds.length ≤ 1000 := Nat.le_trans (ds_len ds) hlen
    refine ⟨_, rfl, d, rfl, ⟨_, hd⟩, fun D0 hD0 => ?_⟩
    refine lc_sel (P := P) (g := gName 6) (tt := tNod K) (te := tOp (rIxT K) (tVar 6) (tC (.int 1))) (walk_tup (K := K) (a := d) (xs := xs)) t hD0 (by rw [lxs]; omega) (fun H' s => s.tup t hd) (isTxAt ds) (txAt ds) ?_ ?_
    · rintro i x H3 H4 Qe N hi s3 ⟨rfl, hy⟩ hk hN
      obtain ⟨nd, hnd, hdp⟩ := nds_at hds hy
      cases nd with
      | tx z =>
        obtain ⟨c, rfl, hc⟩ := nd_tx hdp
        have e1 : isTxAt ds i = true := by unfold isTxAt; rw [hnd]
        have e2 : txAt ds i = .str z := by unfold txAt; rw [hnd]
        have hc := s3.tup t hc
        have := hk e1 _ (Sm.refl s3.2)
        rw [e2] at this
        refine ⟨rfl, c, "text", _, rfl, hc, rfl, ?_⟩
        have ed : decide (("text" : Str) = "text") = true := by decide +kernel
        rw [ed]
        refine iteT ?_
        exact ⟨_, rfl, c, _, _, _, rfl, rfl, hc, atI_nat (j := 1) rfl, this⟩
      | el l es =>
        obtain ⟨c, c2, zs, rfl, hc, _⟩ := nd_el hdp
        have e1 : isTxAt ds i = false := by unfold isTxAt; rw [hnd]
        have hc := s3.tup t hc
        refine ⟨rfl, c, "element", _, rfl, hc, rfl, ?_⟩
        exact iteN (by show decide (("element" : Str) = "text") = false; decide +kernel) (hN e1 _ (Sm.refl s3.2))
    intro H1 s1 hT
    rw [lxs, sel_txs] at hT
    refine ⟨(by decide), fun k0 hk0 => ⟨(by decide), fun w0 hw0 => ⟨(by show 3 ≤ sizeLine; decide), fun q0 hq0 => ?_⟩⟩⟩
    have s2 := s1.trans (Sm.new (o := .lst []) s1.2 hk0)
    have s3 := s2.trans (Sm.new (o := .lst []) s2.2 hw0)
    have s4 := s3.trans (Sm.new (o := .tup [.ref D0, .ref k0, .ref w0]) s3.2 hq0)
    have nkw : w0 ≠ k0 := fun e => by rw [e, upd_same] at hw0; cases hw0
    have nq1 : q0 ≠ w0 := fun e => by rw [e, upd_same] at hq0; cases hq0
    have nq2 : q0 ≠ k0 := fun e => by rw [e, upd_ne nkw.symm, upd_same] at hq0; cases hq0
    have hT4 := (Sm.new (o := .tup [.ref D0, .ref k0, .ref w0]) s3.2 hq0).atL s3.2 ((Sm.new (o := .lst []) s2.2 hw0).atL s2.2 ((Sm.new (o := .lst []) s1.2 hk0).atL s1.2 hT))
    refine ⟨q0, _, rfl, .inl (.inl upd_same), rfl, _, _, rfl, _, _, rfl, _, _, rfl, rfl, ?_⟩
    have hk4 : (upd (upd (upd H1 k0 (.lst [])) w0 (.lst [])) q0 (.tup [.ref D0, .ref k0, .ref w0])) k0 = some (.lst []) := by rw [upd_ne nq2.symm, upd_ne nkw.symm, upd_same]
    have hw4 : (upd (upd (upd H1 k0 (.lst [])) w0 (.lst [])) q0 (.tup [.ref D0, .ref k0, .ref w0])) w0 = some (.lst []) := by rw [upd_ne nq1.symm, upd_same]
    generalize upd (upd (upd H1 k0 (.lst [])) w0 (.lst [])) q0 (.tup [.ref D0, .ref k0, .ref w0]) = G0 at *
    clear hT s1 s2 s3 nkw nq1 nq2
    refine ⟨_, rfl, d, rfl, ⟨_, s4.tup t hd⟩, for_tup (xs := xs) (fun i σ H' => ∃ (kk kw : Addr) (ks ws : List V) (v6 v7 v8 : Option V), σ = [some (.ref fq), some (optV lab), some (.ref d), some (.ref D0), some (.ref kk), some (.ref kw), v6, v7, v8, none, none, none, none, none, none, none, none] ∧ Sm P H H' ∧ H' kk = some (.lst ks) ∧ Paired (ItS (SqT K) H') ks (aV (kidS q (ds.take i))) ∧ H' kw = some (.lst ws) ∧ Paired (ItS (SqT K) H') ws (aV (wiS q (ds.take i))) ∧ H' D0 = some (.lst (sV (txsOf ds))))
      ⟨k0, w0, [], [], none, none, none, rfl, s4, hk4, .nil, hw4, .nil, hT4⟩ (fun i σ H' _ ⟨_, _, _, _, _, _, _, _, s, _⟩ => s.tup t hd) ?_ ?_⟩
    · rintro i x σ H' hx ⟨kk, kw, ks, ws, v6, v7, v8, rfl, sH, hk, hpk, hw, hpw, hT⟩
      obtain ⟨nd, hnd, hdp⟩ := nds_at hds hx
      have htk := take_snoc hnd
      cases nd with
      | tx z =>
        obtain ⟨c, rfl, hc⟩ := nd_tx hdp
        refine ⟨_, rfl, c, _, _, _, rfl, rfl, sH.tup t hc, atI_nat (j := 0) rfl, rfl, _, rfl, iteN (by show decide (("text" : Str) = "element") = false; decide +kernel) ?_⟩
        refine ⟨kk, kw, ks, ws, _, _, _, rfl, sH, hk, ?_, hw, ?_, hT⟩
        · rw [htk, kidS_app, kidS, kidS, kidN, List.append_nil, List.append_nil]
          exact hpk
        · rw [htk, wiS_app, wiS, wiS, wiN, List.append_nil, List.append_nil]
          exact hpw
      | el l es =>
        obtain ⟨c, c2, zs, rfl, hc, hc2, hes⟩ := nd_el hdp
        have hc := sH.tup t hc
        have le := nd_len hnd
        rw [sgN, List.length_cons, List.length_append] at le
        have hh2 := hi_at hnd
        simp only [hiN] at hh2
        refine ⟨_, rfl, c, _, _, _, rfl, rfl, hc, atI_nat (j := 0) rfl, rfl, _, rfl, iteE ?_⟩
        refine ⟨_, rfl, _, rfl, c, _, _, _, rfl, rfl, hc, atI_nat (j := 1) rfl, _, rfl, c, _, _, _, rfl, rfl, hc, atI_nat (j := 2) rfl, ?_⟩
        refine ⟨sH.2, _, ⟨fq, c2, some l, q, zs, es, rfl, RowsS.mono mo_tup t sH hq, okq, sH.tup t hc2, nds_tp (Tp.sm t sH) _ _ hes, by omega, by omega, rfl⟩, fun v Hc sc ⟨r, t1, wl, us, ev, hr1, ht1, hwl, hpl⟩ => ?_⟩
        subst ev
        refine ⟨r, _, rfl, hr1, rfl, _, _, rfl, _, _, rfl, rfl, ?_⟩
        have hkc := sc.atL sH.2 hk
        have hwc := sc.atL sH.2 hw
        have hTc := sc.atL sH.2 hT
        have hpk := paired_mono (fun _ _ h => ItS.mono mo_tup sH.2 sc h) hpk
        have hpw := paired_mono (fun _ _ h => ItS.mono mo_tup sH.2 sc h) hpw
        have sHc := sH.trans sc
        have lk1 := rw_len hpk
        have lw1 := rw_len hpw
        have lu1 := rw_len hpl
        have bk : (kidS q (ds.take i)).length ≤ 1000 := Nat.le_trans (kidS_len q _) (Nat.le_trans (sgs_take ds i) hlen)
        have bw : (wiS q (ds.take i)).length ≤ 1000 := Nat.le_trans (wiS_len q _) (Nat.le_trans (sgs_take ds i) hlen)
        have bu : (wiS q es).length ≤ 1000 := Nat.le_trans (wiS_len q _) (by omega)
        clear hr1 sc hk hw hT sH
        refine ⟨_, rfl, _, rfl, (by show 1 ≤ sizeLine; decide), fun a1 ha1 => ?_⟩
        have n1 := Sm.new (o := .lst [.ref t1]) sHc.2 ha1
        refine ⟨kk, a1, ks, _, rfl, rfl, n1.atL sHc.2 hkc, upd_same, Nat.le_of_lt (small (by simp; omega)), fun a2 ha2 => ?_⟩
        have n2 := n1.trans (Sm.new (o := .lst (ks ++ [.ref t1])) n1.2 ha2)
        refine ⟨_, rfl, _, rfl, (by show 1 ≤ sizeLine; decide), fun a3 ha3 => ?_⟩
        have n3 := n2.trans (Sm.new (o := .lst [.ref t1]) n2.2 ha3)
        refine ⟨kw, a3, ws, _, rfl, rfl, n3.atL sHc.2 hwc, upd_same, Nat.le_of_lt (small (by simp; omega)), fun a4 ha4 => ?_⟩
        have m4 := Sm.new (o := .lst (ws ++ [.ref t1])) n3.2 ha4
        have n4 := n3.trans m4
        refine ⟨_, rfl, a4, wl, _, us, rfl, rfl, upd_same, n4.atL sHc.2 hwl, Nat.le_of_lt (small (by simp; omega)), fun a5 ha5 => ?_⟩
        have m5 := Sm.new (o := .lst (ws ++ [.ref t1] ++ us)) n4.2 ha5
        have n5 := n4.trans m5
        refine ⟨(by show 2 ≤ sizeLine; decide), fun a6 ha6 => ?_⟩
        have m6 := Sm.new (o := .tup [.ref a2, .ref a5]) n5.2 ha6
        have n6 := n5.trans m6
        have k2 := (((Sm.new (o := .lst [.ref t1]) n2.2 ha3).trans m4).trans m5).trans m6
        refine ⟨a6, _, rfl, .inl (.inl upd_same), rfl, _, _, rfl, _, _, rfl, rfl, ?_⟩
        refine ⟨a2, a5, _, _, _, _, _, rfl, sHc.trans n6, k2.atL (n1.trans (Sm.new (o := .lst (ks ++ [.ref t1])) n1.2 ha2)).2 upd_same, ?_, m6.atL n5.2 upd_same, ?_, n6.atL sHc.2 hTc⟩
        · rw [htk, kidS_app, kidS, kidS, kidN, List.append_nil]
          unfold aV at hpk ⊢
          rw [List.map_append]
          exact paired_append (paired_mono (fun _ _ h => ItS.mono mo_tup sHc.2 n6 h) hpk) (.cons ⟨t1, rfl, n6.tup sHc.2 ht1⟩ .nil)
        · rw [htk, wiS_app, wiS, wiS, wiN, List.append_nil]
          unfold aV at hpw hpl ⊢
          have e : List.map bV (wiS q (ds.take i) ++ (rowF q (some l) es :: wiS q es)) = (List.map bV (wiS q (ds.take i)) ++ [bV (rowF q (some l) es)]) ++ List.map bV (wiS q es) := by rw [List.map_append, List.map_cons, List.append_assoc]; rfl
          rw [e]
          exact paired_append (paired_append (paired_mono (fun _ _ h => ItS.mono mo_tup sHc.2 n6 h) hpw) (.cons ⟨t1, rfl, n6.tup sHc.2 ht1⟩ .nil)) (paired_mono (fun _ _ h => ItS.mono mo_tup sHc.2 n6 h) hpl)
    · rintro σ H2 ⟨kk, kw, ks, ws, v6, v7, v8, rfl, s5, hk, hpk, hw, hpw, hT⟩
      rw [lxs, List.take_length] at hpk hpw
      have s4 := s5
      clear s5 hk4 hw4 hT4 hD0 hk0 hw0 hq0
      dsimp only
      refine ⟨(by decide), fun F0 hF0 => ?_⟩
      have FP := nPt s4.2 hF0
      obtain ⟨fq', xsf, e0, hfq, hpf⟩ := hq
      cases e0
      have t2 := s4.2
      have hfq := s4.tup t hfq
      have hpf := paired_mono (fun _ _ h => ItS.mono mo_tup t s4 h) hpf
      have lf : xsf.length = q.length := (Paired.length hpf).trans (List.length_map _)
      have k : ∀ v H', Sm P H2 H' → _ → Q v H' := fun v H' sx h => k v H' (s4.trans sx) h
      have lrs := kidS_row q ds
      have lwi := wiS_row q ds
      have brs : (kidS q ds).length ≤ 1000 := Nat.le_trans (kidS_len q ds) hlen
      have bwi : (wiS q ds).length ≤ 1000 := Nat.le_trans (wiS_len q ds) hlen
      have bT : (txsOf ds).length ≤ 1000 := Nat.le_trans (txs_len ds) hlen
      have lks := rw_len hpk
      have lws := rw_len hpw
      have lT : (sV (txsOf ds)).length = (txsOf ds).length := List.length_map _
      have o2 := okq.2.1
      refine ⟨_, rfl, fq, rfl, ⟨_, (Sm.new t2 hF0).tup t2 hfq⟩, for_tup (xs := xsf) (fun i σ H' => ∃ (told : List Bool) (v10 v11 v12 v13 : Option V), σ = [some (.ref fq), some (optV lab), some (.ref d), some (.ref D0), some (.ref kk), some (.ref kw), v6, v7, v8, some (.ref F0), v10, v11, v12, v13, none, none, none] ∧ Sm P H2 H' ∧ H' F0 = some (.lst (bV told)) ∧ told.length = i ∧ ofR lab (txsOf ds) (kidS q ds) (q.drop i) told = rowF q lab ds)
        ⟨[], none, none, none, none, rfl, Sm.new t2 hF0, upd_same, rfl, rfl⟩ (fun i σ H' _ ⟨_, _, _, _, _, _, s, _⟩ => s.tup t2 hfq) ?_ ?_⟩
      rotate_left
      · rintro σ H3 ⟨told, v10, v11, v12, v13, rfl, s3, hF, li, e⟩
        rw [lf, List.drop_length] at e
        have e : told = rowF q lab ds := e
        dsimp only
        refine ret_of ?_
        refine ⟨_, rfl, .inl ⟨F0, _, rfl, SqL.of hF, fun z hz => ?_⟩⟩
        have m1 := Sm.new (o := .tup (bV told)) s3.2 hz
        refine ⟨_, rfl, (by show 2 ≤ sizeLine; decide), fun z2 hz2 => ?_⟩
        have m2 := m1.trans (Sm.new (o := .tup [.ref z, .ref kw]) m1.2 hz2)
        refine k _ _ (s3.trans m2) ⟨z2, z, kw, ws, rfl, .inl (.inl upd_same), ?_, (s3.trans m2).atL t2 hw, paired_mono (fun _ _ h => ItS.mono mo_tup t2 (s3.trans m2) h) hpw⟩
        rw [← e]
        exact (Sm.new (o := .tup [.ref z, .ref kw]) m1.2 hz2).tup m1.2 (.inl (.inl upd_same))
      rintro i x σ H3 hx ⟨told, v10, v11, v12, v13, rfl, s3, hF, li, e⟩
      obtain ⟨ys, hy, b, rfl, hb⟩ := paired_get hpf hx
      obtain ⟨f, hf, rfl⟩ := fV_at hy
      have hi : i < q.length := (List.getElem?_eq_some_iff.mp hf).1
      have okf := okq.2.2 i f hf
      rw [drop_at hf, ofR] at e
      have hb := s3.tup t2 hb
      refine ⟨_, rfl, b, _, _, _, rfl, rfl, hb, atI_nat (j := 0) (vs_0 f), _, rfl, b, _, _, _, rfl, rfl, hb, atI_nat (j := 1) (vs_1 f), (by show 2 ≤ sizeLine; decide), fun q1 hq1 => ?_⟩
      have n1 := Sm.new (o := .tup [.str f.w, f.part]) s3.2 hq1
      refine ⟨q1, _, rfl, .inl (.inl upd_same), rfl, _, _, rfl, _, _, rfl, rfl, ?_⟩
      have hk1 := (s3.trans n1).atL t2 hk
      have hp1 := paired_mono (fun _ _ h => ItS.mono mo_tup t2 (s3.trans n1) h) hpk
      refine ⟨_, rfl, kk, ks, rfl, .inl (SqL.of hk1), (ks.length : Int), rfl, by omega, by omega, fun S hS => ?_⟩
      refine lc_sel (P := P) (g := gName 14) (tt := tSom K P) (te := tVar 14) (walk_range (lo := 0) (n := ks.length)) n1.2 hS (by rw [lks]; omega) (fun _ _ => trivial) (sC f (kidS q ds)) (fun i => .int (i : Nat)) ?_ ?_
      · rintro j x H5 H6 Qe N hj s5 ⟨rfl, rfl⟩ hk2 hN
        show gName 14 (V.int (0 + ((j : Nat) : Int))) _ _ _
        rw [Int.zero_add]
        refine ⟨rfl, kk, f.w, f.part, j, kidS q ds, rfl, rfl, rfl, rfl, s5.2, RwL.mono n1.2 s5 ⟨ks, SqL.of hk1, hp1⟩, by omega, ?_⟩
        by_cases hj2 : f.w ∈ JW
        · refine .inl ⟨hj2, fun H7 s7 => ?_⟩
          exact iteF (hN (by unfold sC; rw [decide_eq_false (fun h => h hj2), Bool.false_and]) _ s7)
        · refine .inr ⟨hj2, f.pn, part_n hj2, fun r hr => by rw [lrs r hr]; exact Nat.lt_trans (pn_ok hj2 okf) hi, fun H7 s7 => ?_⟩
          have ec : sC f (kidS q ds) j = bt ((kidS q ds).getD j []) f.pn := by unfold sC; rw [decide_eq_true hj2, Bool.true_and]
          rw [← ec]
          cases e1 : sC f (kidS q ds) j with
          | true => exact iteT ⟨_, rfl, hk2 e1 _ s7⟩
          | false => exact iteF (hN e1 _ s7)
      intro H4 n2 hS4
      dsimp only
      rw [lks] at hS4
      have hS : ¬ f.w ∈ JW → H4 S = some (.lst (iV (plc f.pn (kidS q ds)))) := fun h => by rw [← sC_plc h]; exact hS4
      clear hS4
      have n12 := n1.trans n2
      have s4' := s3.trans n12
      have hb := n12.tup s3.2 hb
      have hF := n12.atL s3.2 hF
      have hk := s4'.atL t2 hk
      have hw := s4'.atL t2 hw
      have hT := s4'.atL t2 hT
      have hpk := paired_mono (fun _ _ h => ItS.mono mo_tup t2 s4' h) hpk
      have hpw := paired_mono (fun _ _ h => ItS.mono mo_tup t2 s4' h) hpw
      have t4 := s4'.2
      clear n1 n2 n12 hk1 hp1 s3 hq1
      have fin : ∀ (b1 : Bool) (H5 : Hp), Sm P H4 H5 → b1 = fa1 lab (txsOf ds) (kidS q ds) told f → Sm P H2 (upd H5 F0 (.lst (bV told ++ [.bl b1]))) ∧ (upd H5 F0 (.lst (bV told ++ [.bl b1]))) F0 = some (.lst (bV (told ++ [b1]))) ∧ (told ++ [b1]).length = i + 1 ∧ ofR lab (txsOf ds) (kidS q ds) (q.drop (i + 1)) (told ++ [b1]) = rowF q lab ds := by
        intro b1 H5 s5 eb
        refine ⟨(s4'.trans s5).mut hF0 FP, ?_, by rw [List.length_append, li]; rfl, by rw [eb]; exact e⟩
        rw [upd_same]
        unfold bV
        rw [List.map_append]
        rfl
      have sz : (bV told).length < sizeLine := by
        unfold bV
        rw [List.length_map]
        exact small (by omega)
      have inn : ∀ p, f = .one .inside p → ((kidS q ds).any fun r => bt r p || bt r i) = (wiS q ds).any fun r => bt r p := fun p e => in_nds (by rw [← e]; exact hf) ds
      generalize ers : kidS q ds = rs at *
      generalize ewi : wiS q ds = wi at *
      cases f with
      | txt so n =>
        refine ⟨_, rfl, rfl, _, rfl, iteE ?_⟩
        refine ⟨_, rfl, .inl ⟨rfl, _, SqL.of hF⟩, _, rfl, D0, rfl, ⟨_, SqL.of hT⟩, fun E hE => ?_⟩
        refine lc_sel (P := P) (g := gName 15) (tt := tTxt) (te := tVar 15) (walk_list (K := K) (a := D0) (xs := sV (txsOf ds))) t4 hE (by rw [lT]; omega) (fun H' s => SqL.of (s.atL t4 hT)) (tsel so (txsOf ds)) (fun j => .str ((txsOf ds).getD j "")) ?_ ?_
        · rintro j x H5 H6 Qe N hj s5 ⟨rfl, hy⟩ hk2 hN
          obtain ⟨z, hz, rfl⟩ := sV_at hy
          have e1 : (txsOf ds).getD j "" = z := by rw [List.getD_eq_getElem?_getD, hz]; rfl
          refine ⟨rfl, so, z, rfl, rfl, ?_⟩
          have e2 : tsl so z = tsel so (txsOf ds) j := by rw [tsel_eq, e1]
          rw [e2]
          cases e : tsel so (txsOf ds) j with
          | true =>
            have := hk2 e _ (Sm.refl s5.2)
            rw [e1] at this
            exact iteT ⟨_, rfl, this⟩
          | false => exact iteF (hN e _ (Sm.refl s5.2))
        intro H5 s5 e5
        refine ⟨E, _, rfl, .inl (SqL.of e5), _, rfl, b, _, _, _, rfl, rfl, s5.tup t4 hb, atI_nat (j := 2) rfl, _, _, rfl, rfl, F0, _, _, rfl, rfl, (s5).atL t4 hF, sz, _, _, _, _, _, rfl, fin _ _ (s5) ?_⟩
        show decide ((n : Int) ≤ ((sel (tsel so (txsOf ds)) (fun j => .str ((txsOf ds).getD j "")) (sV (txsOf ds)).length).length : Nat)) = _
        rw [lT, tsel_len]
        cases so with
        | none => exact decide_eq_decide.mpr (by show (n : Int) ≤ ((txsOf ds).length : Nat) ↔ n ≤ (txsOf ds).length; omega)
        | some z => exact decide_eq_decide.mpr (by show (n : Int) ≤ ((txsOf ds).count z : Nat) ↔ n ≤ (txsOf ds).count z; omega)
      | lab l =>
        refine ⟨_, rfl, rfl, _, rfl, iteN (by show decide (("label" : Str) = "text") = false; decide +kernel) ?_⟩
        refine ⟨_, rfl, rfl, _, rfl, iteE ?_⟩
        cases lab with
        | none => exact ⟨_, rfl, .inl ⟨rfl, _, SqL.of hF⟩, _, rfl, _, rfl, iteF ⟨F0, _, _, rfl, rfl, hF, sz, _, _, _, _, _, rfl, fin _ _ (Sm.refl t4) rfl⟩⟩
        | some z =>
          refine ⟨_, rfl, .inl ⟨rfl, _, SqL.of hF⟩, _, rfl, _, rfl, iteT ⟨_, rfl, _, rfl, rfl, F0, _, _, rfl, rfl, hF, sz, _, _, _, _, _, rfl, fin _ _ (Sm.refl t4) ?_⟩⟩
          exact decide_eq_decide.mpr ⟨fun e => congrArg some (V.str.inj e), fun e => congrArg V.str (Option.some.inj e)⟩
      | chi p n =>
        have hS : H4 S = some (.lst (iV (plc p rs))) := hS (by show ¬ ("child" : Str) ∈ JW; decide +kernel)
        have bpl : (plc p rs).length ≤ 1000 := by rw [plc_len]; exact Nat.le_trans (many_le p rs) brs
        refine ⟨_, rfl, rfl, _, rfl, iteN (by show decide (("child" : Str) = "text") = false; decide +kernel) ?_⟩
        refine ⟨_, rfl, rfl, _, rfl, iteN (by show decide (("child" : Str) = "label") = false; decide +kernel) ?_⟩
        refine ⟨_, rfl, rfl, _, rfl, iteE ?_⟩
        refine ⟨_, rfl, .inl ⟨rfl, _, SqL.of hF⟩, _, rfl, S, _, rfl, .inl (SqL.of hS), _, rfl, b, _, _, _, rfl, rfl, hb, atI_nat (j := 2) rfl, _, _, rfl, rfl, F0, _, _, rfl, rfl, hF, sz, _, _, _, _, _, rfl, fin _ _ (Sm.refl t4) ?_⟩
        show decide ((n : Int) ≤ ((iV (plc p rs)).length : Nat)) = decide (n ≤ many p rs)
        rw [iV_len, plc_len]
        exact decide_eq_decide.mpr (by omega)
      | mdl p m r =>
        have hS : H4 S = some (.lst (iV (plc p rs))) := hS (by show ¬ ("modulo" : Str) ∈ JW; decide +kernel)
        have bpl : (plc p rs).length ≤ 1000 := by rw [plc_len]; exact Nat.le_trans (many_le p rs) brs
        refine ⟨_, rfl, rfl, _, rfl, iteN (by show decide (("modulo" : Str) = "text") = false; decide +kernel) ?_⟩
        refine ⟨_, rfl, rfl, _, rfl, iteN (by show decide (("modulo" : Str) = "label") = false; decide +kernel) ?_⟩
        refine ⟨_, rfl, rfl, _, rfl, iteN (by show decide (("modulo" : Str) = "child") = false; decide +kernel) ?_⟩
        refine ⟨_, rfl, rfl, _, rfl, iteE ?_⟩
        refine ⟨_, rfl, .inl ⟨rfl, _, SqL.of hF⟩, _, rfl, S, _, rfl, .inl (SqL.of hS), _, rfl, b, _, _, _, rfl, rfl, hb, atI_nat (j := 2) rfl, _, _, rfl, rfl, by have := okf.2.1; omega, _, rfl, b, _, _, _, rfl, rfl, hb, atI_nat (j := 3) rfl, rfl, F0, _, _, rfl, rfl, hF, sz, _, _, _, _, _, rfl, fin _ _ (Sm.refl t4) ?_⟩
        show decide (V.int (((iV (plc p rs)).length : Nat) % (m : Int)) = V.int (r : Nat)) = decide (many p rs % m = r)
        rw [iV_len, plc_len]
        refine decide_eq_decide.mpr ⟨fun e => ?_, fun e => ?_⟩
        · injection e with e
          omega
        · rw [← e]
          simp
      | two w p g =>
        cases w with
        | later =>
          have hS : H4 S = some (.lst (iV (plc p rs))) := hS (by show ¬ ("later" : Str) ∈ JW; decide +kernel)
          have bpl : (plc p rs).length ≤ 1000 := by rw [plc_len]; exact Nat.le_trans (many_le p rs) brs
          refine ⟨_, rfl, rfl, _, rfl, iteN (by show decide (("later" : Str) = "text") = false; decide +kernel) ?_⟩
          refine ⟨_, rfl, rfl, _, rfl, iteN (by show decide (("later" : Str) = "label") = false; decide +kernel) ?_⟩
          refine ⟨_, rfl, rfl, _, rfl, iteN (by show decide (("later" : Str) = "child") = false; decide +kernel) ?_⟩
          refine ⟨_, rfl, rfl, _, rfl, iteN (by show decide (("later" : Str) = "modulo") = false; decide +kernel) ?_⟩
          refine ⟨_, rfl, rfl, _, rfl, iteE ?_⟩
          refine ⟨_, rfl, .inl ⟨rfl, _, SqL.of hF⟩, _, rfl, S, rfl, ⟨_, SqL.of hS⟩, fun E hE => ?_⟩
          refine lc_sel (P := P) (g := gName 14) (tt := tLtt K P) (te := tVar 14) (walk_list (K := K) (a := S) (xs := iV (plc p rs))) t4 hE (by rw [iV_len]; omega) (fun H' s => SqL.of (s.atL t4 hS)) (fun j => (fun i => (rs.drop (i + 1)).any fun s => bt s g) ((plc p rs).getD j 0)) (fun j => .int ((plc p rs).getD j 0 : Nat)) ?_ ?_
          · rintro j x H5 H6 Qe N hj s5 ⟨rfl, hy⟩ hk2 hN
            obtain ⟨z, hz, rfl⟩ := iV_at hy
            have e1 : (plc p rs).getD j 0 = z := by rw [List.getD_eq_getElem?_getD, hz]; rfl
            dsimp only at hk2 hN
            rw [e1] at hk2 hN
            refine ⟨rfl, kk, b, _, z, g, rs, rfl, rfl, rfl, s5.tup t4 hb, rfl, s5.2, RwL.mono t4 s5 ⟨ks, SqL.of hk, hpk⟩, fun r hr => by rw [lrs r hr]; exact Nat.lt_trans okf.2 hi, brs, rfl, fun H7 s7 => ?_⟩
            cases e : (rs.drop (z + 1)).any fun s => bt s g with
            | true => exact iteT ⟨_, rfl, hk2 e _ s7⟩
            | false => exact iteF (hN e _ s7)
          intro H5 s5 e5
          rw [sel_ints] at e5
          refine ⟨(by decide), fun E2 hE2 => ?_⟩
          have s6 := Sm.new (o := .lst []) s5.2 hE2
          refine ne_nil (SqL.of (s6.atL s5.2 e5)) (ns_all _) (shp_ns _) upd_same ?_
          refine ⟨F0, _, _, rfl, rfl, (s5.trans s6).atL t4 hF, sz, _, _, _, _, _, rfl, fin _ _ (s5.trans s6) ?_⟩
          rw [List.isEmpty_map, List.isEmpty_map, flt_emp, Bool.not_not, iV_len, any_at (plc p rs) 0 (fun i => (rs.drop (i + 1)).any fun s => bt s g), plc_any]
          exact (lat_any p g rs).symm
        | next =>
          have hS : H4 S = some (.lst (iV (plc p rs))) := hS (by show ¬ ("next" : Str) ∈ JW; decide +kernel)
          have bpl : (plc p rs).length ≤ 1000 := by rw [plc_len]; exact Nat.le_trans (many_le p rs) brs
          refine ⟨_, rfl, rfl, _, rfl, iteN (by show decide (("next" : Str) = "text") = false; decide +kernel) ?_⟩
          refine ⟨_, rfl, rfl, _, rfl, iteN (by show decide (("next" : Str) = "label") = false; decide +kernel) ?_⟩
          refine ⟨_, rfl, rfl, _, rfl, iteN (by show decide (("next" : Str) = "child") = false; decide +kernel) ?_⟩
          refine ⟨_, rfl, rfl, _, rfl, iteN (by show decide (("next" : Str) = "modulo") = false; decide +kernel) ?_⟩
          refine ⟨_, rfl, rfl, _, rfl, iteN (by show decide (("next" : Str) = "later") = false; decide +kernel) ?_⟩
          refine ⟨_, rfl, rfl, _, rfl, iteE ?_⟩
          refine ⟨_, rfl, .inl ⟨rfl, _, SqL.of hF⟩, _, rfl, S, rfl, ⟨_, SqL.of hS⟩, fun E hE => ?_⟩
          refine lc_sel (P := P) (g := gName 14) (tt := tNxt K) (te := tVar 14) (walk_list (K := K) (a := S) (xs := iV (plc p rs))) t4 hE (by rw [iV_len]; omega) (fun H' s => SqL.of (s.atL t4 hS)) (fun j => (fun i => decide (i + 1 < rs.length) && bt (rs.getD (i + 1) []) g) ((plc p rs).getD j 0)) (fun j => .int ((plc p rs).getD j 0 : Nat)) ?_ ?_
          · rintro j x H5 H6 Qe N hj s5 ⟨rfl, hy⟩ hk2 hN
            obtain ⟨z, hz, rfl⟩ := iV_at hy
            have e1 : (plc p rs).getD j 0 = z := by rw [List.getD_eq_getElem?_getD, hz]; rfl
            dsimp only at hk2 hN
            rw [e1] at hk2 hN
            refine ⟨rfl, kk, b, _, z, g, rs, rfl, rfl, rfl, s5.tup t4 hb, rfl, RwL.mono t4 s5 ⟨ks, SqL.of hk, hpk⟩, fun r hr => by rw [lrs r hr]; exact Nat.lt_trans okf.2 hi, ?_⟩
            cases e : (decide (z + 1 < rs.length) && bt (rs.getD (z + 1) []) g) with
            | true => exact iteT ⟨_, rfl, hk2 e _ (Sm.refl s5.2)⟩
            | false => exact iteF (hN e _ (Sm.refl s5.2))
          intro H5 s5 e5
          rw [sel_ints] at e5
          refine ⟨(by decide), fun E2 hE2 => ?_⟩
          have s6 := Sm.new (o := .lst []) s5.2 hE2
          refine ne_nil (SqL.of (s6.atL s5.2 e5)) (ns_all _) (shp_ns _) upd_same ?_
          refine ⟨F0, _, _, rfl, rfl, (s5.trans s6).atL t4 hF, sz, _, _, _, _, _, rfl, fin _ _ (s5.trans s6) ?_⟩
          rw [List.isEmpty_map, List.isEmpty_map, flt_emp, Bool.not_not, iV_len, any_at (plc p rs) 0 (fun i => decide (i + 1 < rs.length) && bt (rs.getD (i + 1) []) g), plc_any]
          exact (nxt_any p g rs).symm
        | and =>
          refine ⟨_, rfl, rfl, _, rfl, iteN (by show decide (("and" : Str) = "text") = false; decide +kernel) ?_⟩
          refine ⟨_, rfl, rfl, _, rfl, iteN (by show decide (("and" : Str) = "label") = false; decide +kernel) ?_⟩
          refine ⟨_, rfl, rfl, _, rfl, iteN (by show decide (("and" : Str) = "child") = false; decide +kernel) ?_⟩
          refine ⟨_, rfl, rfl, _, rfl, iteN (by show decide (("and" : Str) = "modulo") = false; decide +kernel) ?_⟩
          refine ⟨_, rfl, rfl, _, rfl, iteN (by show decide (("and" : Str) = "later") = false; decide +kernel) ?_⟩
          refine ⟨_, rfl, rfl, _, rfl, iteN (by show decide (("and" : Str) = "next") = false; decide +kernel) ?_⟩
          refine ⟨_, rfl, rfl, _, rfl, iteN (by show decide (("and" : Str) = "first") = false; decide +kernel) ?_⟩
          refine ⟨_, rfl, rfl, _, rfl, iteN (by show decide (("and" : Str) = "last") = false; decide +kernel) ?_⟩
          refine ⟨_, rfl, rfl, _, rfl, iteN (by show decide (("and" : Str) = "inside") = false; decide +kernel) ?_⟩
          refine ⟨_, rfl, rfl, _, rfl, iteN (by show decide (("and" : Str) = "not") = false; decide +kernel) ?_⟩
          refine ⟨_, rfl, .inl ⟨rfl, _, SqL.of hF⟩, _, rfl, rfl, _, rfl, iteE ?_⟩
          refine ⟨_, rfl, _, rfl, F0, _, _, _, rfl, rfl, SqL.of hF, atI_nat (bV_bt (by rw [li]; exact okf.1)), bt told p, rfl, ?_⟩
          cases e : bt told p with
          | true => exact iteT ⟨_, rfl, _, rfl, b, _, _, _, rfl, rfl, hb, atI_nat (j := 2) rfl, F0, _, _, _, rfl, rfl, SqL.of hF, atI_nat (bV_bt (by rw [li]; exact okf.2)), F0, _, _, rfl, rfl, hF, sz, _, _, _, _, _, rfl, fin _ _ (Sm.refl t4) (by show _ = (bt told p && bt told g); rw [e]; rfl)⟩
          | false => exact iteF ⟨F0, _, _, rfl, rfl, hF, sz, _, _, _, _, _, rfl, fin _ _ (Sm.refl t4) (by show _ = (bt told p && bt told g); rw [e]; rfl)⟩
        | or =>
          refine ⟨_, rfl, rfl, _, rfl, iteN (by show decide (("or" : Str) = "text") = false; decide +kernel) ?_⟩
          refine ⟨_, rfl, rfl, _, rfl, iteN (by show decide (("or" : Str) = "label") = false; decide +kernel) ?_⟩
          refine ⟨_, rfl, rfl, _, rfl, iteN (by show decide (("or" : Str) = "child") = false; decide +kernel) ?_⟩
          refine ⟨_, rfl, rfl, _, rfl, iteN (by show decide (("or" : Str) = "modulo") = false; decide +kernel) ?_⟩
          refine ⟨_, rfl, rfl, _, rfl, iteN (by show decide (("or" : Str) = "later") = false; decide +kernel) ?_⟩
          refine ⟨_, rfl, rfl, _, rfl, iteN (by show decide (("or" : Str) = "next") = false; decide +kernel) ?_⟩
          refine ⟨_, rfl, rfl, _, rfl, iteN (by show decide (("or" : Str) = "first") = false; decide +kernel) ?_⟩
          refine ⟨_, rfl, rfl, _, rfl, iteN (by show decide (("or" : Str) = "last") = false; decide +kernel) ?_⟩
          refine ⟨_, rfl, rfl, _, rfl, iteN (by show decide (("or" : Str) = "inside") = false; decide +kernel) ?_⟩
          refine ⟨_, rfl, rfl, _, rfl, iteN (by show decide (("or" : Str) = "not") = false; decide +kernel) ?_⟩
          refine ⟨_, rfl, .inl ⟨rfl, _, SqL.of hF⟩, _, rfl, rfl, _, rfl, iteN (by show decide (("or" : Str) = "and") = false; decide +kernel) ?_⟩
          refine ⟨_, rfl, _, rfl, F0, _, _, _, rfl, rfl, SqL.of hF, atI_nat (bV_bt (by rw [li]; exact okf.1)), bt told p, rfl, ?_⟩
          cases e : bt told p with
          | true => exact iteT ⟨F0, _, _, rfl, rfl, hF, sz, _, _, _, _, _, rfl, fin _ _ (Sm.refl t4) (by show _ = (bt told p || bt told g); rw [e]; rfl)⟩
          | false => exact iteF ⟨_, rfl, _, rfl, b, _, _, _, rfl, rfl, hb, atI_nat (j := 2) rfl, F0, _, _, _, rfl, rfl, SqL.of hF, atI_nat (bV_bt (by rw [li]; exact okf.2)), F0, _, _, rfl, rfl, hF, sz, _, _, _, _, _, rfl, fin _ _ (Sm.refl t4) (by show _ = (bt told p || bt told g); rw [e]; rfl)⟩
      | one w p =>
        cases w with
        | first =>
          have hS : H4 S = some (.lst (iV (plc p rs))) := hS (by show ¬ ("first" : Str) ∈ JW; decide +kernel)
          have bpl : (plc p rs).length ≤ 1000 := by rw [plc_len]; exact Nat.le_trans (many_le p rs) brs
          refine ⟨_, rfl, rfl, _, rfl, iteN (by show decide (("first" : Str) = "text") = false; decide +kernel) ?_⟩
          refine ⟨_, rfl, rfl, _, rfl, iteN (by show decide (("first" : Str) = "label") = false; decide +kernel) ?_⟩
          refine ⟨_, rfl, rfl, _, rfl, iteN (by show decide (("first" : Str) = "child") = false; decide +kernel) ?_⟩
          refine ⟨_, rfl, rfl, _, rfl, iteN (by show decide (("first" : Str) = "modulo") = false; decide +kernel) ?_⟩
          refine ⟨_, rfl, rfl, _, rfl, iteN (by show decide (("first" : Str) = "later") = false; decide +kernel) ?_⟩
          refine ⟨_, rfl, rfl, _, rfl, iteN (by show decide (("first" : Str) = "next") = false; decide +kernel) ?_⟩
          refine ⟨_, rfl, rfl, _, rfl, iteE ?_⟩
          refine ⟨_, rfl, .inl ⟨rfl, _, SqL.of hF⟩, _, rfl, S, _, rfl, .inl (SqL.of hS), rfl, iV_flat _, F0, _, _, rfl, rfl, hF, sz, _, _, _, _, _, rfl, fin _ _ (Sm.refl t4) ?_⟩
          exact in_plc p rs 0
        | last =>
          have hS : H4 S = some (.lst (iV (plc p rs))) := hS (by show ¬ ("last" : Str) ∈ JW; decide +kernel)
          have bpl : (plc p rs).length ≤ 1000 := by rw [plc_len]; exact Nat.le_trans (many_le p rs) brs
          refine ⟨_, rfl, rfl, _, rfl, iteN (by show decide (("last" : Str) = "text") = false; decide +kernel) ?_⟩
          refine ⟨_, rfl, rfl, _, rfl, iteN (by show decide (("last" : Str) = "label") = false; decide +kernel) ?_⟩
          refine ⟨_, rfl, rfl, _, rfl, iteN (by show decide (("last" : Str) = "child") = false; decide +kernel) ?_⟩
          refine ⟨_, rfl, rfl, _, rfl, iteN (by show decide (("last" : Str) = "modulo") = false; decide +kernel) ?_⟩
          refine ⟨_, rfl, rfl, _, rfl, iteN (by show decide (("last" : Str) = "later") = false; decide +kernel) ?_⟩
          refine ⟨_, rfl, rfl, _, rfl, iteN (by show decide (("last" : Str) = "next") = false; decide +kernel) ?_⟩
          refine ⟨_, rfl, rfl, _, rfl, iteN (by show decide (("last" : Str) = "first") = false; decide +kernel) ?_⟩
          refine ⟨_, rfl, rfl, _, rfl, iteE ?_⟩
          refine ⟨_, rfl, .inl ⟨rfl, _, SqL.of hF⟩, _, rfl, (by decide), fun E hE => ?_⟩
          have s5 := Sm.new (o := .lst []) t4 hE
          refine ne_nil (SqL.of (s5.atL t4 hk)) (rows_bs (paired_mono (fun _ _ h => ItS.mono mo_tup t4 s5 h) hpk)) (shp_rows _) upd_same ⟨_, rfl, ?_⟩
          rw [List.isEmpty_map]
          by_cases h0 : 0 < rs.length
          · have e0 : rs.isEmpty = false := by
              cases rs with
              | nil => exact absurd h0 (Nat.lt_irrefl _)
              | cons _ _ => rfl
            rw [e0]
            refine iteT ⟨_, rfl, kk, ks, rfl, .inl (SqL.of (s5.atL t4 hk)), _, _, rfl, rfl, _, rfl, S, _, rfl, .inl (SqL.of (s5.atL t4 hS)), rfl, iV_flat _, ?_⟩
            have e1 : ((ks.length : Int) - 1) = ((rs.length - 1 : Nat) : Int) := by omega
            refine ⟨F0, _, _, rfl, rfl, (s5).atL t4 hF, sz, _, _, _, _, _, rfl, fin _ _ (s5) ?_⟩
            show inV (.int ((ks.length : Int) - 1)) (iV (plc p rs)) = (decide (0 < rs.length) && bt (rs.getD (rs.length - 1) []) p)
            rw [e1, in_plc, decide_eq_true h0, decide_eq_true (by omega)]
          · have e0 : rs.isEmpty = true := by rw [List.length_eq_zero_iff.mp (show rs.length = 0 by omega)]; rfl
            rw [e0]
            refine iteF ⟨F0, _, _, rfl, rfl, (s5).atL t4 hF, sz, _, _, _, _, _, rfl, fin _ _ (s5) ?_⟩
            show false = (decide (0 < rs.length) && _)
            rw [decide_eq_false h0]
            rfl
        | inside =>
          refine ⟨_, rfl, rfl, _, rfl, iteN (by show decide (("inside" : Str) = "text") = false; decide +kernel) ?_⟩
          refine ⟨_, rfl, rfl, _, rfl, iteN (by show decide (("inside" : Str) = "label") = false; decide +kernel) ?_⟩
          refine ⟨_, rfl, rfl, _, rfl, iteN (by show decide (("inside" : Str) = "child") = false; decide +kernel) ?_⟩
          refine ⟨_, rfl, rfl, _, rfl, iteN (by show decide (("inside" : Str) = "modulo") = false; decide +kernel) ?_⟩
          refine ⟨_, rfl, rfl, _, rfl, iteN (by show decide (("inside" : Str) = "later") = false; decide +kernel) ?_⟩
          refine ⟨_, rfl, rfl, _, rfl, iteN (by show decide (("inside" : Str) = "next") = false; decide +kernel) ?_⟩
          refine ⟨_, rfl, rfl, _, rfl, iteN (by show decide (("inside" : Str) = "first") = false; decide +kernel) ?_⟩
          refine ⟨_, rfl, rfl, _, rfl, iteN (by show decide (("inside" : Str) = "last") = false; decide +kernel) ?_⟩
          refine ⟨_, rfl, rfl, _, rfl, iteE ?_⟩
          refine ⟨_, rfl, .inl ⟨rfl, _, SqL.of hF⟩, _, rfl, kw, rfl, ⟨_, SqL.of hw⟩, fun E hE => ?_⟩
          refine lc_sel (P := P) (g := gName 7) (tt := tInr K) (te := tVar 7) (walk_list (K := K) (a := kw) (xs := ws)) t4 hE (by rw [lws]; omega) (fun H' s => SqL.of (s.atL t4 hw)) (fun j => bt (wi.getD j []) p) (fun j => ws.getD j .non) ?_ ?_
          · rintro j x H5 H6 Qe N hj s5 ⟨rfl, hy⟩ hk2 hN
            obtain ⟨r, b2, hr, rfl, hb2⟩ := rw_at hpw hy
            have e1 : wi.getD j [] = r := by rw [List.getD_eq_getElem?_getD, hr]; rfl
            have e2 : ws.getD j .non = .ref b2 := by rw [List.getD_eq_getElem?_getD, hy]; rfl
            rw [e1] at hk2 hN
            refine ⟨rfl, b2, p, r, rfl, rfl, s5.tup t4 hb2, by rw [lwi r (List.mem_of_getElem? hr)]; exact Nat.lt_trans okf hi, ?_⟩
            cases e : bt r p with
            | true =>
              have := hk2 e _ (Sm.refl s5.2)
              rw [e2] at this
              exact iteT ⟨_, rfl, this⟩
            | false => exact iteF (hN e _ (Sm.refl s5.2))
          intro H5 s5 e5
          refine ⟨(by decide), fun E2 hE2 => ?_⟩
          have s6 := Sm.new (o := .lst []) s5.2 hE2
          refine ne_nil (SqL.of (s6.atL s5.2 e5)) (sel_dpR (rs := wi) fun j hj => ?_) (shp_rows _) upd_same ?_
          · have hy := List.getElem?_eq_getElem hj
            obtain ⟨r, b2, hr, eb, hb2⟩ := rw_at hpw hy
            have e1 : wi.getD j [] = r := by rw [List.getD_eq_getElem?_getD, hr]; rfl
            have e2 : ws.getD j .non = .ref b2 := by rw [List.getD_eq_getElem?_getD, hy]; exact eb
            rw [e1, e2]
            exact it_bs ⟨b2, rfl, s6.tup s5.2 (s5.tup t4 hb2)⟩
          refine ⟨F0, _, _, rfl, rfl, (s5.trans s6).atL t4 hF, sz, _, _, _, _, _, rfl, fin _ _ (s5.trans s6) ?_⟩
          rw [selR_emp, Bool.not_not, lws]
          show ((List.range wi.length).any fun j => bt (wi.getD j []) p) = ofInner told.length rs (.one .inside p)
          rw [any_rows wi fun r => bt r p, li]
          exact (inn p rfl).symm
        | not =>
          refine ⟨_, rfl, rfl, _, rfl, iteN (by show decide (("not" : Str) = "text") = false; decide +kernel) ?_⟩
          refine ⟨_, rfl, rfl, _, rfl, iteN (by show decide (("not" : Str) = "label") = false; decide +kernel) ?_⟩
          refine ⟨_, rfl, rfl, _, rfl, iteN (by show decide (("not" : Str) = "child") = false; decide +kernel) ?_⟩
          refine ⟨_, rfl, rfl, _, rfl, iteN (by show decide (("not" : Str) = "modulo") = false; decide +kernel) ?_⟩
          refine ⟨_, rfl, rfl, _, rfl, iteN (by show decide (("not" : Str) = "later") = false; decide +kernel) ?_⟩
          refine ⟨_, rfl, rfl, _, rfl, iteN (by show decide (("not" : Str) = "next") = false; decide +kernel) ?_⟩
          refine ⟨_, rfl, rfl, _, rfl, iteN (by show decide (("not" : Str) = "first") = false; decide +kernel) ?_⟩
          refine ⟨_, rfl, rfl, _, rfl, iteN (by show decide (("not" : Str) = "last") = false; decide +kernel) ?_⟩
          refine ⟨_, rfl, rfl, _, rfl, iteN (by show decide (("not" : Str) = "inside") = false; decide +kernel) ?_⟩
          refine ⟨_, rfl, rfl, _, rfl, iteE ?_⟩
          exact ⟨_, rfl, .inl ⟨rfl, _, SqL.of hF⟩, _, rfl, _, rfl, F0, _, _, _, rfl, rfl, SqL.of hF, atI_nat (bV_bt (by rw [li]; exact okf)), bt told p, rfl, F0, _, _, rfl, rfl, hF, sz, _, _, _, _, _, rfl, fin _ _ (Sm.refl t4) rfl⟩
end
end K6

set_option Elab.async false
set_option linter.all false
set_option maxRecDepth 100000
set_option maxHeartbeats 4000000
namespace SoG
open PySem PySem.Spec PyProof.Rows L2 So
/-- a law's def where it is called from outside: there nothing is under way -/
def GOk (Pg : Program) (w : World) (K : PySem.W.Frag) (mg : Str → Option Value) (base : Heap) (f : Addr) (fd : FuncData) (sp : Sp) : Prop :=
  ∀ (s : Shared) (H : Hp) (u : Value) (v : V) (Q : VK) (E : XK), Env0 Pg w K mg base callerA [] s H → BindsTo s fd ⟨[u], []⟩ [("script", u)] → RelV v u → sp [v] H Q E → codeAny (model Pg w) callerA (.call (.ref f) ⟨[u], []⟩) (CR CX0 [] Pg w H s Q E) s
section
variable {Pg : Program} {w : World} {K : PySem.W.Frag} {mg : Str → Option Value} {base : Heap}
theorem law_ok {x : Str} {st : Stmt} {f : Addr} {fd : FuncData} {N : List Str} {k : Nat} {sp : Sp} (F : Fun K x x st f fd) (S : FnScope N ["script"] (defScope st)) (hr : Room (k + 1) callerA)
    (body : ∀ (cd : Value) (s : Shared) (H : Hp) (v : V) (Q : VK) (E : XK), Room k (callerA.deeper (envOfC x (defScope st) s.heap.objs.size f cd)) → sp [v] H Q E →
      ∃ t, PSs (cxOf CX0 Pg w K mg base N x (defScope st) f cd callerA [] s H E).nox (defBody st) t ∧ t { nx := fun _ H' => Q .non H', rt := Q } (start N [v]) H) : GOk Pg w K mg base f fd sp := by
  obtain ⟨oc, od, kV, doc, pm, an, cd, ct, osl, rfl, lk, hcd⟩ := F.ex
  intro s H u v Q E e0 hb r hsp
  have kp : ∀ b o, base.get? b = some o → s.heap.get? b = some o := fun b o z => (e0.bs b o z).1
  have pk : ∀ y ∈ [(("script" : Str), u)], (defScope st).names.lookup y.1 = some .local ∨ ((defScope st).names.lookup y.1 = some .cell ∧ ((cellsFrom (s.heap.objs.size + 1) (defScope st).names []).lookup y.1).isSome = true) := by
    intro y hy
    cases List.mem_singleton.mp hy
    exact (S.par "script" (List.mem_singleton.mpr rfl)).imp id fun q => ⟨q, PySem.W.cellsFrom_some _ _ _ (.inl q)⟩
  have KX := e0.mod.kin.keeps kp
  refine codeAny_call_function hr.depth (KX _ _ lk) rfl S.co S.gen rfl (PySem.W.codeRec_of KX hcd) (hb _ _ _ _ (wpAny_newFunctionEnv_cells S.kind pk fun env he s1 x1 => ?_))
  subst he
  obtain ⟨t, ht, hq⟩ := body cd s H v Q E (hr.deeper _) hsp
  have I := inv_start (CX := CX0) (E := E) (cd := cd) (f := f) (qual := x) (us := [u]) S hr.hd e0 rfl (.cons r .nil) x1
  refine ⟨(e0.mod.nolimit.keeps kp).keeps x1.toInCall.keep, codeAny_func (wpAny_mono (ht.nox.run [] s1 _ H _ I hq) (fun fl s' hs => ?_) fun _ _ z => z)⟩
  match fl, hs with
  | .ret u, ⟨v, σ', H', J, rv, q⟩ => exact ⟨v, H', J.os, J.bare, J.base, J.hok, rv, q⟩
  | .next, ⟨σ', H', J, q⟩ => exact ⟨V.non, H', J.os, J.bare, J.base, J.hok, rfl, q⟩
  | .brk, ⟨_, _, _, q⟩ => exact q.elim
  | .cont, ⟨_, _, _, q⟩ => exact q.elim
end
end SoG

set_option Elab.async false
set_option linter.all false
set_option maxRecDepth 100000
set_option maxHeartbeats 4000000
namespace SoG
open PySem PySem.Spec PyProof.Rows L2 So
/-- the script and the code's table, and nothing else, at the law's call -/
noncomputable def h0 (K : PySem.W.Frag) (a T : Addr) (o : Obj) (xs : List V) : Hp := fun b =>
  if b = T then some (.tbl #[]) else if b = a ∧ K.lookup a = none then some (.frz o (.lst xs)) else none
section
variable {K : PySem.W.Frag} {a T : Addr} {o : Obj} {xs : List V}
theorem h0_T : h0 K a T o xs T = some (.tbl #[]) := if_pos rfl
theorem h0_a (n : a ≠ T) (h : K.lookup a = none) : h0 K a T o xs a = some (.frz o (.lst xs)) := (if_neg n).trans (if_pos ⟨rfl, h⟩)
theorem h0_one {b : Addr} {u : HO} (h : h0 K a T o xs b = some u) : (b = T ∧ u = .tbl #[]) ∨ (b ≠ T ∧ b = a ∧ K.lookup a = none ∧ u = .frz o (.lst xs)) := by
  by_cases e : b = T
  · exact .inl ⟨e, Option.some.inj (((if_pos e).symm.trans h).symm)⟩
  · have h' := (if_neg e).symm.trans h
    by_cases e2 : b = a ∧ K.lookup a = none
    · exact .inr ⟨e, e2.1, e2.2, Option.some.inj ((if_pos e2).symm.trans h').symm⟩
    · exact nomatch (if_neg e2).symm.trans h'
end
variable {Pg : Program} {w : World} {K : PySem.W.Frag} {mg mb : Str → Option Value} {fa a c T : Addr} {fd : FuncData} {sp : Sp} {s : Shared} {vs : List Value} {ns : List Int}
/-- the law is called: what GOk says of it is the law's truth -/
theorem law_end (KX : K.In s.heap) (hG : s.heap.Ns mainGlobals mg) (hB : s.heap.Ns builtinsNs mb) (hBB : ∀ x : Str, x ≠ "__name__" → mb x = bootBuiltins x) (hL : s.heap.NoLimit) (hg : s.gens = #[])
    (tT : s.heap.get? T = some { cls := .none, data := .fields #[] }) (nT : K.lookup T = none) (Cd : PySem.W.CodeHd s.heap c T)
    (bm : ∃ (m : Addr) (ob : Obj), mg "__builtins__" = some (.ref m) ∧ m ≠ builtinsNs ∧ s.heap.get? m = some ob ∧ ob.cls = .type "module" ∧ ob.dict = some builtinsNs ∧ ob.data = .plain)
    (ha : s.heap.get? a = some { cls := .type "list", data := .seq vs.toArray }) (hi : IntsAre vs ns) (hl : ns.length ≤ sizeLine)
    (F : ∀ base : Heap, K.In base → base.Ns mainGlobals mg → GxR.TabB base mg c T → GOk Pg w K mg base fa fd sp) (hb : ∀ (s : Shared) (u : Value), BindsTo s fd ⟨[u], []⟩ [("script", u)])
    (hsp : ∀ H : Hp, H T = some (.tbl #[]) → SqL K H a (ns.map V.int) → sp [.ref a] H (fun v _ => v = .bl true) fun _ _ _ => False) :
    codeAny (model Pg w) callerA (.call (.ref fa) ⟨[.ref a], []⟩) (fun r s' => r = .ok (.ret (.bool true)) ∧ OldK s.heap s'.heap ∧ s'.os = s.os ∧ AllBare s'.gens) s := by
  have vi := vals_ints hi
  have lv := hi.length
  have aT : a ≠ T := fun z => by
    rw [z, tT] at ha
    exact nomatch congrArg Obj.data (Option.some.inj ha)
  obtain ⟨H, hH⟩ : ∃ H, H = h0 K a T { cls := .type "list", data := .seq vs.toArray } (ns.map V.int) := ⟨_, rfl⟩
  -- what stands at no place of H stands in what is hidden of it
  have free : ∀ {b : Addr} {ob : Obj}, s.heap.get? b = some ob → (∀ us n, ob.data ≠ .seq us n) → ob.data ≠ .fields #[] → H b = none := by
    intro b ob e n1 n2
    cases q : H b with
    | none => rfl
    | some u =>
      rw [hH] at q
      rcases h0_one q with ⟨rfl, _⟩ | ⟨_, rfl, _, _⟩
      · rw [tT] at e
        cases e
        exact absurd rfl n2
      · rw [ha] at e
        cases e
        exact absurd rfl (n1 _ _)
  have get : ∀ {b : Addr} {ob : Obj}, s.heap.get? b = some ob → H b = none → (hidT s.heap H).get? b = some ob := hidT_get
  have dic : ∀ {b : Addr} {ob : Obj} {es : Array DictEntry} {n : Nat}, s.heap.get? b = some ob → ob.data = .dict es n → (hidT s.heap H).get? b = some ob := fun e d =>
    get e (free e (fun _ _ z => nomatch d.symm.trans z) fun z => nomatch d.symm.trans z)
  have nsp : ∀ {b : Addr} {m : Str → Option Value}, s.heap.Ns b m → (hidT s.heap H).Ns b m := by
    rintro b m ⟨ob, es, n, e, d, rest⟩
    exact ⟨ob, es, n, dic e d, d, rest⟩
  have KH : K.In (hidT s.heap H) := by
    intro b ob e
    refine get (KX b ob e) ?_
    cases q : H b with
    | none => rfl
    | some u =>
      rw [hH] at q
      rcases h0_one q with ⟨rfl, _⟩ | ⟨_, rfl, na, _⟩
      · rw [nT] at e
        cases e
      · rw [na] at e
        cases e
  have tab : GxR.TabB (hidT s.heap H) mg c T := by
    constructor
    · obtain ⟨ob, us, file, tf, flags, tg, inF, text, tt, e, r1, r2, r3, rest⟩ := Cd
      refine ⟨ob, us, file, tf, flags, tg, inF, text, tt, get e (free e (fun _ _ z => nomatch r2.symm.trans z) fun z => ?_), r1, r2, r3, rest⟩
      cases r2.symm.trans z
      exact nomatch r3
    · obtain ⟨m, ob, b1, b2, b3, b4, b5, b6⟩ := bm
      refine ⟨m, ob, b1, b2, fun q => ?_, fun q => ?_, get b3 (free b3 (fun _ _ z => nomatch b6.symm.trans z) fun z => nomatch b6.symm.trans z), b4, b5, b6⟩
      · obtain ⟨_, _, _, e, d, _⟩ := hG
        rw [← q, b3] at e
        cases e
        exact nomatch b6.symm.trans d
      · rw [q, tT] at b3
        cases b3
        exact nomatch b6
    · intro z
      obtain ⟨_, _, _, e, d, _⟩ := hG
      rw [z, tT] at e
      cases e
      exact nomatch d
  have hok : HOk Pg w H s.heap := by
    intro b u q
    rw [hH] at q
    rcases h0_one q with ⟨rfl, rfl⟩ | ⟨_, rfl, _, rfl⟩
    · exact tT
    · exact ⟨ha, by rw [List.length_map]; exact hl, vs, _, vi, ha⟩
  have sq : SqL K H a (ns.map V.int) := by
    cases q : K.lookup a with
    | none => exact .inl (.inr ⟨_, by rw [hH]; exact h0_a aT q⟩)
    | some ob =>
      have e := KX a ob q
      rw [ha] at e
      cases e
      exact .inr ⟨_, vs.toArray, _, q, rfl, rfl, rfl, by rw [List.size_toArray, lv]; exact hl, by simpa using vi⟩
  have hT : H T = some (.tbl #[]) := by
    rw [hH]
    exact h0_T
  have e0 : Env0 Pg w K mg (hidT s.heap H) callerA [] s H :=
    { frames := rfl
      mod := ⟨KH, nsp hG, ⟨mb, nsp hB, hBB⟩, hL.imp fun _ z => ⟨nsp z.1, z.2⟩⟩
      bs := fun _ _ e => of_hidT e
      bsz := Nat.le_of_eq (hidT_size _ _)
      funs := trivial
      frf := fun _ z => nomatch z
      hok := hok
      bare := .of_eq hg }
  refine codeAny_mono (F _ KH (nsp hG) tab s H (.ref a) (.ref a) _ _ e0 (hb s _) rfl (hsp H hT sq)) fun r s' h => ?_
  match r, h with
  | .ok (.ret u), ⟨v, H', os, bare, un, hok', rv, e⟩ =>
    cases e
    cases (show u = Value.bool true from rv)
    obtain ⟨more, z⟩ := un.tbls T #[] hT
    have gT : s'.heap.get? T = some { cls := .none, data := .fields more } := by
      have := hok' T _ z
      rw [Array.empty_append] at this
      exact this
    have key : ∀ b ob, b ≠ T → s.heap.get? b = some ob → s'.heap.get? b = some ob := by
      intro b ob n e
      cases q : H b with
      | none => exact un.keep b ob e q (fun z => nomatch z) (fun z => nomatch z)
      | some u =>
        have q' := q
        rw [hH] at q'
        rcases h0_one q' with ⟨rfl, _⟩ | ⟨_, rfl, _, rfl⟩
        · exact absurd rfl n
        · rw [ha] at e
          cases e
          exact (hok' _ _ (un.frzs _ _ _ q)).1
    refine ⟨rfl, ⟨fun b ob e => ?_, fun b ob e => ?_⟩, os, bare⟩
    · by_cases n : b = T
      · subst n
        rw [tT] at e
        cases e
        exact .inr (.inl ⟨(Cd.tab tT).isCodeTable, rfl, #[], more, rfl, by rw [Array.empty_append]; exact gT⟩)
      · exact .inl (key b ob n e)
    · by_cases n : b = T
      · exact ⟨_, by rw [n]; exact gT⟩
      · exact ⟨_, key b ob n e⟩
  | .error e, h => exact h.elim
  | .ok .next, h => exact h.elim
  | .ok .brk, h => exact h.elim
  | .ok .cont, h => exact h.elim
end SoG

set_option Elab.async false
set_option linter.all false
set_option maxRecDepth 100000
set_option maxHeartbeats 4000000
namespace K6
open PySem PySem.Spec PyProof.Rows L2 So
/-! ### repr of data, where nothing is under way -/
def rReprD (K : PySem.W.Frag) : List V → Hp → VK → Prop := fun xs H Q => ∃ (a : Addr) (D : PyData), xs = [.ref a] ∧ Dp K H (.ref a) D ∧ D.showable = true ∧ D.hasDict = false ∧ D.depth ≤ 60 ∧ D.shown.length ≤ sizeLine ∧ Q (.str D.shown) H
theorem call_reprD {X : Cx} (hg : X.A.guards = some []) (hu : X.A.units + 64 < cLine) : CallR X (.builtin "repr") (rReprD X.K) := by
  intro pins s σ H xs us Q I r h
  obtain ⟨a, D, rfl, hD, h1, h2, h3, h4, q⟩ := h
  obtain ⟨u, rfl, ru⟩ := vals1 r
  cases (show u = Value.ref a from ru)
  obtain ⟨as, rd⟩ := Dp.reads I D (.ref a) (.ref a) hD rfl
  exact repr_of_reads' rd h1 (PyData.noDict_hsm h2) hg (by omega) (fun _ _ e => e) (fun h' u tk hk => ⟨.str D.shown, H, I.kept hk, ⟨u, rfl⟩, q⟩) h4
/-! ### calls by keywords alone -/
def g1 {α : Type} : List α → List α → List α
  | [], [a] => [a]
  | _, _ => []
def g2 {α : Type} : List α → List α → List α
  | [], [b, a] => [a, b]
  | _, _ => []
def g3 {α : Type} : List α → List α → List α
  | [], [c, b, a] => [a, b, c]
  | _, _ => []
theorem kb1 {K : PySem.W.Frag} {x q p : Str} {st : Stmt} {f : Addr} {fd : FuncData} (F : Fun K x q st f fd)
    (h : ∀ (kV doc pm : Value) (an : Option Addr) (cdv ct a : Value), bindArgs (PySem.W.fnOf x q (defArgs st) (defBody st) (defScope st) .none kV doc pm an cdv ct) ⟨[], [(p, a)]⟩ = pure [(p, a)]) : KBinds K fd [p] [p] g1 g1 := by
  obtain ⟨oc, od, kV, doc, pm, an, cdv, ct, osl, rfl, lk, hcd⟩ := F.ex
  refine ⟨fun s us ws _ hl => ?_, fun r z => ?_⟩
  · match us, ws, hl with
    | [], [a], _ => exact .of_eq (h kV doc pm an cdv ct a)
    | [], [], hl => exact nomatch hl
    | [], _ :: _ :: _, hl => exact nomatch hl
    | _ :: _, _, hl => exact nomatch hl
  · cases r with
    | nil =>
      cases z with
      | nil => exact .nil
      | cons a z =>
        cases z with
        | nil => exact .cons a .nil
        | cons b z => exact .nil
    | cons a r => exact .nil
theorem kb2 {K : PySem.W.Frag} {x n p q : Str} {st : Stmt} {f : Addr} {fd : FuncData} (F : Fun K x n st f fd)
    (h : ∀ (kV doc pm : Value) (an : Option Addr) (cdv ct a b : Value), bindArgs (PySem.W.fnOf x n (defArgs st) (defBody st) (defScope st) .none kV doc pm an cdv ct) ⟨[], [(q, b), (p, a)]⟩ = pure [(p, a), (q, b)]) : KBinds K fd [p, q] [q, p] g2 g2 := by
  obtain ⟨oc, od, kV, doc, pm, an, cdv, ct, osl, rfl, lk, hcd⟩ := F.ex
  refine ⟨fun s us ws _ hl => ?_, fun r z => ?_⟩
  · match us, ws, hl with
    | [], [b, a], _ => exact .of_eq (h kV doc pm an cdv ct a b)
    | [], [], hl => exact nomatch hl
    | [], [_], hl => exact nomatch hl
    | [], _ :: _ :: _ :: _, hl => exact nomatch hl
    | _ :: _, _, hl => exact nomatch hl
  · cases r with
    | nil =>
      cases z with
      | nil => exact .nil
      | cons a z =>
        cases z with
        | nil => exact .nil
        | cons b z =>
          cases z with
          | nil => exact .cons b (.cons a .nil)
          | cons c z => exact .nil
    | cons a r => exact .nil
theorem kb3 {K : PySem.W.Frag} {x n p q r : Str} {st : Stmt} {f : Addr} {fd : FuncData} (F : Fun K x n st f fd)
    (h : ∀ (kV doc pm : Value) (an : Option Addr) (cdv ct a b c : Value), bindArgs (PySem.W.fnOf x n (defArgs st) (defBody st) (defScope st) .none kV doc pm an cdv ct) ⟨[], [(r, c), (q, b), (p, a)]⟩ = pure [(p, a), (q, b), (r, c)]) : KBinds K fd [p, q, r] [r, q, p] g3 g3 := by
  obtain ⟨oc, od, kV, doc, pm, an, cdv, ct, osl, rfl, lk, hcd⟩ := F.ex
  refine ⟨fun s us ws _ hl => ?_, fun r' z => ?_⟩
  · match us, ws, hl with
    | [], [c, b, a], _ => exact .of_eq (h kV doc pm an cdv ct a b c)
    | [], [], hl => exact nomatch hl
    | [], [_], hl => exact nomatch hl
    | [], [_, _], hl => exact nomatch hl
    | [], _ :: _ :: _ :: _ :: _, hl => exact nomatch hl
    | _ :: _, _, hl => exact nomatch hl
  · cases r' with
    | nil =>
      cases z with
      | nil => exact .nil
      | cons a z =>
        cases z with
        | nil => exact .nil
        | cons b z =>
          cases z with
          | nil => exact .nil
          | cons c z =>
            cases z with
            | nil => exact .cons c (.cons b (.cons a .nil))
            | cons e z => exact .nil
    | cons a r => exact .nil
section
variable {X : Cx} {CX : CXT} {k : Nat} {f : Addr} {fd : FuncData} {ps ks : List Str} {sp : Sp} {E : XK} {x : Str} {p pos : Pos} {kws : List Keyword} {tk : TA} {g : List Value → List Value → List Value} {gV : List V → List V → List V}
theorem pe_callK0 (F : FnOk X.prog X.w X.K X.mg X.base CX k f fd ps sp) (hr : Room k X.A) (hg : Gl X x) (hm : X.mg x = some (.ref f)) (hk : PySem.W.keepIn X.K (.ref f) = true) (hb : KBinds X.K fd ps ks g gV) (hx : Passes CX X E)
    (hkw : PK X kws tk) (hall : (backToKw pos (keywordEach kws X.env)).all (·.1.isSome) = true := by rfl) (hks : (backToKw pos (keywordEach kws X.env)).filterMap (·.1) = ks := by rfl)
    (hdb : (x == ("__debug__" : Str)) = false := by decide) (hpl : ((backTo pos (starEach [] X.env)).any (·.1) || (backToKw pos (keywordEach kws X.env)).any (·.1.isNone)) = false := by rfl) :
    PE X (.Call (.Name x p) [] kws pos) (tCallK sp gV E tNil tk) := by
  refine ⟨fun pins s σ H Q I h => wpAny_Call_Name_kw (ld_glob I hg hm ?_ hdb)⟩
  refine PySem.W.callWith_KW0 (h₀ := X.base) I.ok.mod.kin hk hall (thn (hkw.run pos pins s σ H _ I h) fun ws s2 ⟨zs, H2, I2, rz, q2⟩ => ⟨I2.kIn, ?_⟩) hpl
  rw [hks]
  exact run_fnk (us := []) (vs := []) F hr hb hx I2 .nil rz q2
end
/-! ### data that can be shown -/
def lgB (d : PyData) : Bool := d.showable && !d.hasDict && decide (d.depth = 0) && d.leavesShort 13 && decide (d.weight ≤ 10)
theorem lg_ints : (List.range 16).all (fun n => lgB (.int (n : Nat))) = true := by decide +kernel
def wds : List Str := ["text", "label", "child", "modulo", "later", "next", "first", "last", "inside", "not", "and", "or", "t", "u", "", "a", "b", "n"]
theorem lg_strs : wds.all (fun z => lgB (.str z)) = true := by decide +kernel
theorem lg_non : lgB .none = true := by decide +kernel
theorem lg_bool (b : Bool) : lgB (.bool b) = true := by cases b <;> decide +kernel
structure GD (h W : Nat) (d : PyData) : Prop where
  sh : d.showable = true
  di : d.hasDict = false
  de : d.depth ≤ h
  le : d.leavesShort 13 = true
  we : d.weight ≤ W
theorem gd_leaf {d : PyData} (h : lgB d = true) : GD 0 10 d := by
  unfold lgB at h
  simp only [Bool.and_eq_true, decide_eq_true_eq, Bool.not_eq_true'] at h
  obtain ⟨⟨⟨⟨h1, h2⟩, h3⟩, h4⟩, h5⟩ := h
  exact ⟨h1, h2, by omega, h4, h5⟩
theorem gd_all {h W : Nat} : ∀ {ds : List PyData}, (∀ d ∈ ds, GD h W d) → PyData.showableAll ds = true ∧ PyData.hasDictAll ds = false ∧ PyData.depthAll ds ≤ h ∧ PyData.leavesShortAll 13 ds = true ∧ PyData.weightAll ds ≤ ds.length * (W + 1)
  | [], _ => ⟨rfl, rfl, Nat.zero_le _, rfl, Nat.zero_le _⟩
  | d :: ds, q => by
    obtain ⟨a1, a2, a3, a4, a5⟩ := gd_all (ds := ds) fun x hx => q x (List.mem_cons_of_mem _ hx)
    obtain ⟨b1, b2, b3, b4, b5⟩ := q d (List.mem_cons_self ..)
    refine ⟨?_, ?_, ?_, ?_, ?_⟩
    · simp only [PyData.showableAll, a1, b1, Bool.and_self]
    · simp only [PyData.hasDictAll, a2, b2, Bool.or_self]
    · simp only [PyData.depthAll]
      exact Nat.max_le.mpr ⟨b3, a3⟩
    · simp only [PyData.leavesShortAll, a4, b4, Bool.and_self]
    · simp only [PyData.weightAll, List.length_cons, Nat.succ_mul]
      omega
theorem gd_tup {h W n : Nat} {ds : List PyData} (q : ∀ d ∈ ds, GD h W d) (l : ds.length ≤ n) : GD (h + 1) (n * (W + 1)) (.tuple ds) := by
  obtain ⟨a1, a2, a3, a4, a5⟩ := gd_all q
  exact ⟨a1, a2, Nat.succ_le_succ a3, a4, Nat.le_trans a5 (Nat.mul_le_mul_right _ l)⟩
theorem gd_lst {h W n : Nat} {ds : List PyData} (q : ∀ d ∈ ds, GD h W d) (l : ds.length ≤ n) : GD (h + 1) (n * (W + 1)) (.list ds) := by
  obtain ⟨a1, a2, a3, a4, a5⟩ := gd_all q
  exact ⟨a1, a2, Nat.succ_le_succ a3, a4, Nat.le_trans a5 (Nat.mul_le_mul_right _ l)⟩
theorem gd_fits {h W : Nat} {d : PyData} (g : GD h W d) (w : W ≤ 1000000) : d.shown.length ≤ sizeLine :=
  PyData.shown_fits (B := 13) (by decide) (by decide) g.le (Nat.le_trans g.we (Nat.le_trans w (by decide)))
/-! ### facts as data -/
def vD : V → PyData
  | .int i => .int i
  | .str z => .str z
  | .bl b => .bool b
  | _ => .none
def faD (f : Fa) : PyData := .tuple (f.vs.map vD)
theorem fa_dps {K : PySem.W.Frag} {H : Hp} (f : Fa) : DpAll K H f.vs (f.vs.map vD) := by
  cases f with
  | txt s n => cases s with
    | none => exact .cons (.str _) (.cons .non (.cons (.int _) .nil))
    | some z => exact .cons (.str _) (.cons (.str _) (.cons (.int _) .nil))
  | lab l => exact .cons (.str _) (.cons (.str _) .nil)
  | chi f n => exact .cons (.str _) (.cons (.int _) (.cons (.int _) .nil))
  | mdl f m r => exact .cons (.str _) (.cons (.int _) (.cons (.int _) (.cons (.int _) .nil)))
  | two w f g => exact .cons (.str _) (.cons (.int _) (.cons (.int _) .nil))
  | one w f => exact .cons (.str _) (.cons (.int _) .nil)
theorem gd_int {n : Nat} (h : n < 16) : GD 0 10 (.int (n : Nat)) := gd_leaf (List.all_eq_true.mp lg_ints n (List.mem_range.mpr h))
theorem gd_str {z : Str} (h : z ∈ wds) : GD 0 10 (.str z) := gd_leaf (List.all_eq_true.mp lg_strs z h)
theorem tw_mem (w : Tw) : w.w ∈ wds := by cases w <;> decide +kernel
theorem on_mem (w : On) : w.w ∈ wds := by cases w <;> decide +kernel
theorem gd_fa {f : Fa} {n : Nat} (ok : f.ok n) (hn : n ≤ 15) (w : f.ws) : GD 1 44 (faD f) := by
  have key : ∀ d ∈ f.vs.map vD, GD 0 10 d := by
    intro d hd
    cases f with
    | txt s n =>
      simp only [Fa.vs, Fa.ps, Fa.w, List.map_cons, List.map_nil, List.mem_cons, List.not_mem_nil, or_false] at hd
      rcases hd with rfl | rfl | rfl
      · exact gd_str (by simp [wds])
      · simp only [Fa.ws, List.mem_cons, List.not_mem_nil, or_false] at w
        rcases w with rfl | rfl | rfl | rfl
        · exact gd_leaf lg_non
        · exact gd_str (by simp [wds])
        · exact gd_str (by simp [wds])
        · exact gd_str (by simp [wds])
      · exact gd_int (by have := ok.2.2; omega)
    | lab l =>
      simp only [Fa.vs, Fa.ps, Fa.w, List.map_cons, List.map_nil, List.mem_cons, List.not_mem_nil, or_false] at hd
      rcases hd with rfl | rfl
      · exact gd_str (by simp [wds])
      · simp only [Fa.ws, List.mem_cons, List.not_mem_nil, or_false] at w
        rcases w with rfl | rfl | rfl
        · exact gd_str (by simp [wds])
        · exact gd_str (by simp [wds])
        · exact gd_str (by simp [wds])
    | chi f m =>
      obtain ⟨o1, o2, o3⟩ := ok
      simp only [Fa.vs, Fa.ps, Fa.w, List.map_cons, List.map_nil, List.mem_cons, List.not_mem_nil, or_false] at hd
      rcases hd with rfl | rfl | rfl
      · exact gd_str (by simp [wds])
      · exact gd_int (by omega)
      · exact gd_int (by omega)
    | mdl f m r =>
      obtain ⟨o1, o2, o3, o4⟩ := ok
      simp only [Fa.vs, Fa.ps, Fa.w, List.map_cons, List.map_nil, List.mem_cons, List.not_mem_nil, or_false] at hd
      rcases hd with rfl | rfl | rfl | rfl
      · exact gd_str (by simp [wds])
      · exact gd_int (by omega)
      · exact gd_int (by omega)
      · exact gd_int (by omega)
    | two wt f g =>
      obtain ⟨o1, o2⟩ := ok
      simp only [Fa.vs, Fa.ps, Fa.w, List.map_cons, List.map_nil, List.mem_cons, List.not_mem_nil, or_false] at hd
      rcases hd with rfl | rfl | rfl
      · exact gd_str (tw_mem wt)
      · exact gd_int (by omega)
      · exact gd_int (by omega)
    | one wo f =>
      have o1 : f < n := ok
      simp only [Fa.vs, Fa.ps, Fa.w, List.map_cons, List.map_nil, List.mem_cons, List.not_mem_nil, or_false] at hd
      rcases hd with rfl | rfl
      · exact gd_str (on_mem wo)
      · exact gd_int (by omega)
  exact gd_tup (n := 4) key (by cases f <;> simp [Fa.vs, Fa.ps])
theorem gd_bs (r : List Bool) (h : r.length ≤ 1000) : GD 1 11000 (bsD r) := gd_tup (n := 1000) (fun d hd => by
  obtain ⟨b, _, rfl⟩ := List.mem_map.mp hd
  exact gd_leaf (lg_bool b)) (by rw [List.length_map]; exact h)
theorem gd_two {h W : Nat} {d : PyData} (g : GD h W d) : GD (h + 1) (2 * (W + 1)) (.list [d, d]) := gd_lst (n := 2) (fun x hx => by
  simp only [List.mem_cons, List.not_mem_nil, or_false, or_self] at hx
  rw [hx]
  exact g) (Nat.le_refl _)
def qD (q : List Fa) : PyData := .tuple (q.map faD)
theorem gd_q {q : List Fa} (ok : okQ q) (l : q.length ≤ 9) (w : ∀ f ∈ q, f.ws) : GD 2 405 (qD q) := gd_tup (n := 9) (fun d hd => by
  obtain ⟨f, hf, rfl⟩ := List.mem_map.mp hd
  obtain ⟨i, hi⟩ := List.mem_iff_getElem?.mp hf
  have il := (List.getElem?_eq_some_iff.mp hi).1
  exact gd_fa (ok.2.2 i f hi) (by omega) (w f hf)) (by rw [List.length_map]; exact l)
theorem rows_fa {K : PySem.W.Frag} {H : Hp} : ∀ {xs : List V} {q : List Fa}, Paired (ItS (SqT K) H) xs (fV q) → DpAll K H xs (q.map faD)
  | [], [], _ => .nil
  | x :: xs, f :: q, h => by
    cases h with
    | cons h1 h2 =>
      obtain ⟨b, rfl, hb⟩ := h1
      exact .cons (.tup hb (fa_dps f)) (rows_fa h2)
  | [], _ :: _, h => by cases h
  | _ :: _, [], h => by cases h
theorem q_dp {K : PySem.W.Frag} {H : Hp} {v : V} {q : List Fa} (h : RowsS (SqT K) H v (fV q)) : Dp K H v (qD q) := by
  obtain ⟨a, xs, rfl, ha, hp⟩ := h
  exact .tup ha (rows_fa hp)
end K6

set_option Elab.async false
set_option linter.all false
set_option maxRecDepth 100000
set_option maxHeartbeats 4000000
namespace K6
open PySem PySem.Spec PyProof.Rows L2 So
theorem SB.to {P b : Addr} {H H1 G : Hp} (s : Sm P H H1) (h : H b = none) (a : SB P b H1 G) : Sm P H G := ⟨fun c o n e => a.keep c o n (ne_of_none e h) (s.1 c o n e), a.tab⟩
theorem rows_tp {K : PySem.W.Frag} {H H' : Hp} {v : V} {yss : List (List V)} (s : Tp H H') (h : RowsS (SqT K) H v yss) : RowsS (SqT K) H' v yss := by
  obtain ⟨a, xs, e, h, p⟩ := h
  exact ⟨a, xs, e, s.sq h, paired_mono (fun _ _ ⟨b, e, h⟩ => ⟨b, e, s.sq h⟩) p⟩
/-- what stands in a turn -/
structure Wd (K : PySem.W.Frag) (P b tt Q0 : Addr) (q : List Fa) (G : Hp) : Prop where
  tab : GxR.TabG G P
  box : Box G b
  bP : b ≠ P
  QP : Q0 ≠ P
  Qb : Q0 ≠ b
  told : RowsS (SqT K) G (.ref tt) (fV q)
  ques : ∃ zs, G Q0 = some (.lst zs) ∧ Paired (ItS (SqT K) G) zs (fV q)
theorem Wd.sb {K : PySem.W.Frag} {P b tt Q0 : Addr} {q : List Fa} {G G' : Hp} (W : Wd K P b tt Q0 q G) (s : SB P b G G') : Wd K P b tt Q0 q G' := by
  have tp := s.tp W.tab W.box
  obtain ⟨zs, h1, h2⟩ := W.ques
  exact ⟨s.tab, s.box, W.bP, W.QP, W.Qb, rows_tp tp W.told, zs, s.keep _ _ W.QP W.Qb h1, paired_mono (fun _ _ ⟨b, e, h⟩ => ⟨b, e, tp.sq h⟩) h2⟩
theorem Wd.sm {K : PySem.W.Frag} {P b tt Q0 : Addr} {q : List Fa} {G G' : Hp} (W : Wd K P b tt Q0 q G) (s : Sm P G G') : Wd K P b tt Q0 q G' := W.sb (SB.sm W.box W.tab s)
theorem Wd.sq {K : PySem.W.Frag} {P b tt Q0 : Addr} {q : List Fa} {G : Hp} (W : Wd K P b tt Q0 q G) : RowsS (Sq K) G (.ref tt) (fV q) := by
  obtain ⟨a, xs, e, h, p⟩ := W.told
  exact ⟨a, xs, e, .inl h, paired_mono (fun _ _ ⟨b, e, h⟩ => ⟨b, e, .inl h⟩) p⟩
theorem Wd.qs {K : PySem.W.Frag} {P b tt Q0 : Addr} {q : List Fa} {G : Hp} (W : Wd K P b tt Q0 q G) : RowsS (Sq K) G (.ref Q0) (fV q) := by
  obtain ⟨zs, h1, h2⟩ := W.ques
  exact ⟨Q0, zs, rfl, .inr (SqL.of h1), paired_mono (fun _ _ ⟨b, e, h⟩ => ⟨b, e, .inl h⟩) h2⟩
theorem lab_opt {j : Nat} {v : V} (h : ([.non, .str "a", .str "b", .str "zz"] : List V)[j]? = some v) : ∃ s, v = optV s := by
  match j, h with
  | 0, h => cases h; exact ⟨none, rfl⟩
  | 1, h => cases h; exact ⟨some "a", rfl⟩
  | 2, h => cases h; exact ⟨some "b", rfl⟩
  | 3, h => cases h; exact ⟨some "zz", rfl⟩
  | j + 4, h => cases h
theorem nb_le {n : Nat} (h : n ≤ 3) : nb n ≤ 53 := by
  match n, h with
  | 0, _ => decide
  | 1, _ => decide
  | 2, _ => decide
  | 3, _ => decide
/-- a list of two alike shows alike -/
theorem show_two {K : PySem.W.Frag} {H : Hp} {l : Addr} {x y : V} {d : PyData} {h W : Nat} {Q : VK} (g : GD h W d) (h1 : h ≤ 50) (w : W ≤ 100000) (hl : H l = some (.lst [x, y])) (hx : Dp K H x d) (hy : Dp K H y d) (q : Q (.str (PyData.list [d, d]).shown) H) : rReprD K [.ref l] H Q := by
  have G := gd_two g
  exact ⟨l, .list [d, d], rfl, .lst (SqL.of hl) (.cons hx (.cons hy .nil)), G.sh, G.di, Nat.le_trans G.de (by omega), gd_fits G (by omega), q⟩
section
variable {Pg : Program} {w : World} {K : PySem.W.Frag} {mg : Str → Option Value} {base : Heap} {P d J : Addr}
abbrev sLaw : Stmt := top 45
abbrev nLaw : List Str := ["script", "k", "box", "question", "at", "told", "turn", "document", "label", "due", "top", "wished", "fact", "one"]
theorem scLaw : FnScope nLaw ["script"] (defScope sLaw) := ⟨rfl, rfl, rfl, by decide +kernel, rfl, by decide +kernel, by decide +kernel⟩
def spLaw (K : PySem.W.Frag) (P : Addr) : Sp := fun vs H Q _ => GxR.TabG H P ∧ ∃ (a : Addr) (ns : List Int), vs = [.ref a] ∧ SqL K H a (ns.map V.int) ∧ ns.length ≤ 63 ∧ ∀ H', Q (.bl true) H'
theorem ok_law {f fB fT fP fD fF fL fC fR fM fS : Addr} {fd fdB fdT fdP fdD fdF fdL fdC fdR fdM fdS : FuncData} (F : Fun K "law" "law" sLaw f fd) (T : Tz K w mg d J)
    (B : Df K mg "_law_box" sBox ["script", "k"] fB fdB) (GB : FnOk Pg w K mg base CX0 1 fB fdB ["script", "k"] (spBox K P))
    (Tk : Df K mg "_law_take" sTak ["box", "many"] fT fdT) (GT : FnOk Pg w K mg base CX0 1 fT fdT ["box", "many"] spTak)
    (Pk : Df K mg "_law_pick" sPck ["box", "some"] fP fdP) (GP : FnOk Pg w K mg base CX0 2 fP fdP ["box", "some"] spPck)
    (Ld : Df K mg "_law_document" sLdc ["box", "deep", "wide"] fD fdD) (GD : FnOk Pg w K mg base CX0 7 fD fdD ["box", "deep", "wide"] (spLdc K P 4))
    (Fc : Df K mg "_law_fact" sLfc ["box", "at"] fF fdF) (GF : FnOk Pg w K mg base CX0 3 fF fdF ["box", "at"] (spLfc K P))
    (Lf : Df K mg "_law_facts" sLfs ["question", "label", "nodes"] fL fdL) (GL : FnOk Pg w K mg base CX0 5 fL fdL ["question", "label", "nodes"] (spLfs K P 4))
    (Ck : Df K mg "check_question" sCkq ["value"] fC fdC) (GC : FnOk Pg w K mg base CX0 5 fC fdC ["value"] (spCkq K P)) (KC : KBinds K fdC ["value"] ["value"] g1 g1)
    (Rf : Df K mg "row_facts" sRfs ["question", "label", "document"] fR fdR) (GR : FnOk Pg w K mg base CX0 6 fR fdR ["question", "label", "document"] (spRfs K P)) (KR : KBinds K fdR ["question", "label", "document"] ["document", "label", "question"] g3 g3)
    (Me : Df K mg "meaning" sMea ["question", "document"] fM fdM) (GM : FnOk Pg w K mg base CX0 7 fM fdM ["question", "document"] (spMea K P)) (KM : KBinds K fdM ["question", "document"] ["document", "question"] g2 g2)
    (Ms : Df K mg "meanings" sMns ["question", "asked", "document"] fS fdS) (GS : FnOk Pg w K mg base CX0 7 fS fdS ["question", "asked", "document"] (spMns K P)) (KS : KBinds K fdS ["question", "asked", "document"] ["document", "asked", "question"] g3 g3) : SoG.GOk Pg w K mg base f fd (spLaw K P) := by
  refine SoG.law_ok (k := 7) F scLaw ⟨rfl, by decide, by decide⟩ (fun cdv s H v Q E hr h => ?_)
  · obtain ⟨t, a, ns, e0, hS, hlen, kont⟩ := h
    cases e0
    have hu := hr.units
    have hgd : (callerA.deeper (envOfC "law" (defScope sLaw) s.heap.objs.size f cdv)).guards = some [] := rfl
    have r1 : Room 1 _ := hr.mono (by decide)
    have r2 : Room 2 _ := hr.mono (by decide)
    have r3 : Room 3 _ := hr.mono (by decide)
    have r5 : Room 5 _ := hr.mono (by decide)
    have r6 : Room 6 _ := hr.mono (by decide)
    refine ⟨_, (pss_cons (ps_for PassesOwn.never rfl (pi_range1 (by rfl) T.T.T.range (pa_cons pe_int pa_nil)) (pg_name (i := 1) scLaw.nd rfl (Or.inl rfl)) (pss_cons (ps_set (i := 2) scLaw.nd rfl (Or.inr rfl) (pe_call GB r1 (by rfl) B.g B.F.kp B.b .nil pass0 (pa_cons (pv 0) (pa_cons (pv 1) pa_nil))))
      (pss_cons (ps_set (i := 3) scLaw.nd rfl (Or.inl rfl) (pe_lst pa_nil))
      (pss_cons (ps_for PassesOwn.never rfl (pi_range1 (by rfl) T.T.T.range (pa_cons (pe_op op_add pe_int (pe_call GT r1 (by rfl) Tk.g Tk.F.kp Tk.b .nil pass0 (pa_cons (pv 2) (pa_cons pe_int pa_nil)))) pa_nil)) (pg_name (i := 4) scLaw.nd rfl (Or.inl rfl)) (pss_one (ps_expr (pe_bm PySem.F.plainAttrs_list PySem.F.slot_list_append PySem.F.type_list_append mt_append (pv 3) (pa_cons (pe_call GF r3 (by rfl) Fc.g Fc.F.kp Fc.b .nil pass0 (pa_cons (pv 2) (pa_cons (pv 4) pa_nil))) pa_nil)))))
      (pss_cons (ps_set (i := 5) scLaw.nd rfl (Or.inr rfl) (pe_tupleOf (by rfl) T.T.T.tuple (pv 3)))
      (pss_cons (ps_if (pt_cmpR op_ne (pe_callB (call_reprD hgd hu) (by rfl) T.T.repr (by decide +kernel) (pa_cons (pe_lst (pa_cons (pe_call GC r5 (by rfl) Ck.g Ck.F.kp Ck.b .nil pass0 (pa_cons (pe_lc (own := [("fact", 12)]) (g := gName 12) (tt := tYes) rfl scLaw.nd (pi_list (pv 3)) (blkOk_by (N := nLaw) (sc := defScope sLaw) (by decide +kernel)) (fun _ _ _ _ _ => pg_name (i := 12) scLaw.nd rfl (Or.inl rfl)) (fun _ _ _ _ _ => pts_nil) (fun _ _ _ _ _ => show PE _ _ (tCB (fun xs H Q => ∃ p ys, xs = [.ref p] ∧ (SqL K H p ys ∨ SqT K H p ys) ∧ ∀ l, H l = none → Q (.ref l) (upd H l (.lst ys))) (tCons (tVar 12) tNil)) from (pe_callTy call_list_of (by rfl) T.T.T.list (by decide +kernel) (pa_cons (pv 12) pa_nil)))) pa_nil)) (pa_cons (pe_callK0 GC r5 (by rfl) Ck.g Ck.F.kp KC pass0 (pk_cons (pv 5) pk_nil)) pa_nil))) pa_nil)) (pe_callB (call_reprD hgd hu) (by rfl) T.T.repr (by decide +kernel) (pa_cons (pe_lst (pa_cons (pv 5) (pa_cons (pv 5) pa_nil))) pa_nil)) (nomark _)) pss_never pss_nil)
      (pss_one (ps_for PassesOwn.never rfl (pi_range1 (by rfl) T.T.T.range (pa_cons pe_int pa_nil)) (pg_name (i := 6) scLaw.nd rfl (Or.inl rfl)) (pss_cons (ps_set (i := 7) scLaw.nd rfl (Or.inl rfl) (pe_call GD hr (by rfl) Ld.g Ld.F.kp Ld.b .nil pass0 (pa_cons (pv 2) (pa_cons (pe_op op_add pe_int (pe_call GT r1 (by rfl) Tk.g Tk.F.kp Tk.b .nil pass0 (pa_cons (pv 2) (pa_cons pe_int pa_nil)))) (pa_cons pe_int pa_nil)))))
      (pss_cons (ps_set (i := 8) scLaw.nd rfl (Or.inl rfl) (pe_call GP r2 (by rfl) Pk.g Pk.F.kp Pk.b .nil pass0 (pa_cons (pv 2) (pa_cons (pe_lst (pa_cons pe_non (pa_cons pe_str (pa_cons pe_str (pa_cons pe_str pa_nil))))) pa_nil))))
      (pss_cons (ps_set (i := 9) scLaw.nd rfl (Or.inl rfl) (pe_ix ix_tup (pe_call GL r5 (by rfl) Lf.g Lf.F.kp Lf.b .nil pass0 (pa_cons (pv 5) (pa_cons (pv 8) (pa_cons (pv 7) pa_nil)))) pe_int (fun _ _ => rfl)))
      (pss_cons (ps_if (pt_cmpR op_ne (pe_callB (call_reprD hgd hu) (by rfl) T.T.repr (by decide +kernel) (pa_cons (pe_lst (pa_cons (pe_call GR r6 (by rfl) Rf.g Rf.F.kp Rf.b .nil pass0 (pa_cons (pv 5) (pa_cons (pv 8) (pa_cons (pv 7) pa_nil)))) (pa_cons (pe_callK0 GR r6 (by rfl) Rf.g Rf.F.kp KR pass0 (pk_cons (pe_callTy call_list_of (by rfl) T.T.T.list (by decide +kernel) (pa_cons (pv 7) pa_nil)) (pk_cons (pv 8) (pk_cons (pv 3) pk_nil)))) pa_nil))) pa_nil)) (pe_callB (call_reprD hgd hu) (by rfl) T.T.repr (by decide +kernel) (pa_cons (pe_lst (pa_cons (pv 9) (pa_cons (pv 9) pa_nil))) pa_nil)) (nomark _)) pss_never pss_nil)
      (pss_cons (ps_set (i := 10) scLaw.nd rfl (Or.inr rfl) (pe_ix ix_tup (pe_call GL r5 (by rfl) Lf.g Lf.F.kp Lf.b .nil pass0 (pa_cons (pv 5) (pa_cons pe_non (pa_cons (pv 7) pa_nil)))) pe_int (fun _ _ => rfl)))
      (pss_cons (ps_if (pt_cmpR op_ne (pe_callB (call_reprD hgd hu) (by rfl) T.T.repr (by decide +kernel) (pa_cons (pe_lst (pa_cons (pe_call GM hr (by rfl) Me.g Me.F.kp Me.b .nil pass0 (pa_cons (pv 5) (pa_cons (pv 7) pa_nil))) (pa_cons (pe_callK0 GM hr (by rfl) Me.g Me.F.kp KM pass0 (pk_cons (pv 7) (pk_cons (pv 3) pk_nil))) pa_nil))) pa_nil)) (pe_callB (call_reprD hgd hu) (by rfl) T.T.repr (by decide +kernel) (pa_cons (pe_lst (pa_cons (pe_ix ix_tup (pv 10) (pe_un un_neg pe_int) (fun _ _ => rfl)) (pa_cons (pe_ix ix_tup (pv 10) (pe_un un_neg pe_int) (fun _ _ => rfl)) pa_nil))) pa_nil)) (nomark _)) pss_never pss_nil)
      (pss_cons (ps_setLc (i := 11) (own := [("one", 13)]) (g := gName 13) (tt := tYes) rfl scLaw.nd rfl rfl (sw_true rfl rfl rfl (by decide +kernel)) (pi_range1 (by rfl) T.T.T.range (pa_cons (pe_op op_add pe_int (pe_call GT r1 (by rfl) Tk.g Tk.F.kp Tk.b .nil pass0 (pa_cons (pv 2) (pa_cons pe_int pa_nil)))) pa_nil)) (blkOk_by (N := nLaw) (sc := defScope sLaw) (by decide +kernel)) (fun _ _ _ _ _ => pg_name (i := 13) scLaw.nd rfl (Or.inl rfl)) (fun _ _ _ _ _ => pts_nil) (fun _ _ _ _ _ => show PE _ _ (tCall spTak [] E0 (tCons (tVar 2) (tCons (tCB (fun xs H Q => ∃ p ys, xs = [.ref p] ∧ (SqL K H p ys ∨ SqT K H p ys) ∧ Q (.int ys.length) H) (tCons (tVar 5) tNil)) tNil))) from (pe_call GT r1 (by rfl) Tk.g Tk.F.kp Tk.b .nil pass0 (pa_cons (pv 2) (pa_cons (pe_callB call_len_seq (by rfl) T.T.T.len (by decide +kernel) (pa_cons (pv 5) pa_nil)) pa_nil)))))
      (pss_cons (ps_set (i := 9) scLaw.nd rfl (Or.inl rfl) (pe_tupleOf (by rfl) T.T.T.tuple (pe_lc (own := [("at", 4)]) (g := gName 4) (tt := tYes) rfl scLaw.nd (pi_list (pv 11)) (blkOk_by (N := nLaw) (sc := defScope sLaw) (by decide +kernel)) (fun _ _ _ _ _ => pg_name (i := 4) scLaw.nd rfl (Or.inl rfl)) (fun _ _ _ _ _ => pts_nil) (fun _ _ _ _ _ => show PE _ _ (tOp (rIxT K) (tVar 10) (tVar 4)) from (pe_ix ix_tup (pv 10) (pv 4) (fun _ _ => rfl))))))
      (pss_one (ps_if (pt_cmpR op_ne (pe_callB (call_reprD hgd hu) (by rfl) T.T.repr (by decide +kernel) (pa_cons (pe_lst (pa_cons (pe_call GS hr (by rfl) Ms.g Ms.F.kp Ms.b .nil pass0 (pa_cons (pv 5) (pa_cons (pv 11) (pa_cons (pv 7) pa_nil)))) (pa_cons (pe_callK0 GS hr (by rfl) Ms.g Ms.F.kp KS pass0 (pk_cons (pv 7) (pk_cons (pe_tupleOf (by rfl) T.T.T.tuple (pv 11)) (pk_cons (pv 5) pk_nil)))) pa_nil))) pa_nil)) (pe_callB (call_reprD hgd hu) (by rfl) T.T.repr (by decide +kernel) (pa_cons (pe_lst (pa_cons (pv 9) (pa_cons (pv 9) pa_nil))) pa_nil)) (nomark _)) pss_never pss_nil))))))))))))))))))
      (pss_one (ps_ret pe_bl))), ?_⟩
    have two : 2 ≤ sizeLine := by decide
    have four : 4 ≤ sizeLine := by decide
    have small : ∀ {n : Nat}, n ≤ 5000 → n < sizeLine := fun h => Nat.lt_of_le_of_lt h (by decide)
    refine ⟨4, rfl, by decide, by decide, for_range (lo := 0) (n := 4) (fun i σ H' => (∃ v1 v2 v3 v4 v5 v6 v7 v8 v9 v10 v11 v12 v13 : Option V, σ = [some (.ref a), v1, v2, v3, v4, v5, v6, v7, v8, v9, v10, v11, v12, v13]) ∧ Sm P H H') ⟨⟨none, none, none, none, none, none, none, none, none, none, none, none, none, rfl⟩, Sm.refl t⟩ ?_ ?_⟩
    rotate_left
    · rintro σ G ⟨⟨v1, v2, v3, v4, v5, v6, v7, v8, v9, v10, v11, v12, v13, rfl⟩, s1⟩
      exact kont _
    rintro i σ G hi ⟨⟨v1, v2, v3, v4, v5, v6, v7, v8, v9, v10, v11, v12, v13, rfl⟩, s1⟩
    rw [Int.zero_add]
    -- box = ..
    refine ⟨_, rfl, _, rfl, s1.2, a, ns, i, rfl, s1.lst t hS, hlen, by omega, fun b H1 s2 b0 bP hb => ?_⟩
    have s12 := s1.trans s2
    have bH : H b = none := s1.free t b0
    -- question = []
    refine ⟨(by decide), fun Q0 hQ0 => ?_⟩
    have QP := nPt s2.2 hQ0
    have Qb := box_ne hb hQ0
    have c0 : SB P b H1 (upd H1 Q0 (.lst [])) := (SB.refl s2.2 hb).mut hQ0 QP Qb
    -- for at ..
    refine ⟨_, rfl, b, 9, rfl, c0.box, by decide, by decide, fun r r0 r1' g z g0 z0 z1 => ⟨_, _, rfl, rfl, ?_⟩⟩
    obtain ⟨m, hm, m0, m1⟩ : ∃ m : Nat, 1 + r = (m : Int) ∧ 0 < m ∧ m ≤ 9 := ⟨(1 + r).toNat, by omega, by omega, by omega⟩
    have c1 := c0.trans (SB.draw c0.tab bP g0 z0 z1)
    refine ⟨(m : Int), (by show [V.int (1 + r)] = _; rw [hm]), by omega, by omega, for_range (lo := 0) (n := m) (fun j σ H' => ∃ (zs : List V) (q : List Fa) (v4 : Option V), σ = [some (.ref a), some (.int (i : Nat)), some (.ref b), some (.ref Q0), v4, v5, v6, v7, v8, v9, v10, v11, v12, v13] ∧ SB P b H1 H' ∧ H' Q0 = some (.lst zs) ∧ q.length = j ∧ Paired (ItS (SqT K) H') zs (fV q) ∧ (∀ (i : Nat) (f : Fa), q[i]? = some f → f.ok i) ∧ ∀ f ∈ q, f.ws)
      ⟨[], [], _, rfl, c1, by rw [upd_ne Qb, upd_same], rfl, .nil, fun i f h => by simp at h, fun f h => nomatch h⟩ ?_ ?_⟩
    · rintro j σ H' hj ⟨zs, q, v4, rfl, s3, hQ, lq, hp, okf, wsf⟩
      have lz := Paired.length hp
      have lz2 : (fV q).length = q.length := List.length_map _
      refine ⟨_, rfl, .inl ⟨rfl, _, SqL.of hQ⟩, _, rfl, _, rfl, s3.tab, b, j, (by show [V.ref b, V.int (0 + (j : Int))] = _; rw [Int.zero_add]), s3.box, bP, by omega, fun v H5 f s5 hv hok hws => ?_⟩
      have hQ5 := s5.keep _ _ QP Qb hQ
      have tp5 := s5.tp s3.tab s3.box
      have tp6 : Tp H5 (upd H5 Q0 (.lst (zs ++ [v]))) := Tp.lst hQ5
      refine ⟨Q0, _, _, rfl, rfl, hQ5, small (by omega), zs ++ [v], q ++ [f], _, rfl, (s3.trans s5).mut hQ0 QP Qb, upd_same, by rw [List.length_append, lq]; rfl, ?_, ?_, ?_⟩
      · unfold fV at hp ⊢
        rw [List.map_append]
        refine paired_append (paired_mono (fun _ _ ⟨b, e, h⟩ => ⟨b, e, (tp5.trans tp6).sq h⟩) hp) (.cons ?_ .nil)
        obtain ⟨c, e, h⟩ := hv
        exact ⟨c, e, tp6.sq h⟩
      · intro i2 f2 h2
        rw [List.getElem?_append] at h2
        split at h2
        · exact okf i2 f2 h2
        · rename_i hge
          have : i2 = j := by
            have := (List.getElem?_eq_some_iff.mp h2).1
            simp at this
            omega
          subst this
          rw [lq, Nat.sub_self] at h2
          cases h2
          exact hok
      · intro f2 h2
        rcases List.mem_append.mp h2 with e | e
        · exact wsf f2 e
        · rw [List.mem_singleton.mp e]
          exact hws
    rintro σ H3 ⟨zs, q, v4, rfl, c3, hQ, lq, hp, okf, wsf⟩
    have okq : okQ q := ⟨by omega, by omega, okf⟩
    have l9 : q.length ≤ 9 := by omega
    have gq := gd_q okq l9 wsf
    -- told = ..
    refine ⟨_, rfl, .inl ⟨Q0, zs, rfl, SqL.of hQ, fun tt htt => ?_⟩⟩
    have c4 := c3.trans (SB.sm c3.box c3.tab (Sm.new (o := .tup zs) c3.tab htt))
    have nt := Sm.new (o := .tup zs) c3.tab htt
    have W4 : Wd K P b tt Q0 q (upd H3 tt (.tup zs)) := ⟨c4.tab, c4.box, bP, QP, Qb, ⟨tt, zs, rfl, .inl (.inl upd_same), paired_mono (fun _ _ h => ItS.mono mo_tup c3.tab nt h) hp⟩, zs, nt.atL c3.tab hQ, paired_mono (fun _ _ h => ItS.mono mo_tup c3.tab nt h) hp⟩
    generalize upd H3 tt (.tup zs) = H4 at *
    clear nt hp hQ c3 htt c1 c0 g0 z0 z1 r0 r1' hm
    obtain ⟨zs, hQ4, hp4⟩ := W4.ques
    have lz : zs.length = q.length := (Paired.length hp4).trans (List.length_map _)
    -- repr([check_question(..), ..]) ..
    refine ⟨_, rfl, Q0, rfl, ⟨_, SqL.of hQ4⟩, fun D hD => ?_⟩
    have t4 := W4.tab
    have DP := nPt t4 hD
    refine lc_it (walk_list (K := K) (a := Q0) (xs := zs)) (fun i H' => ∃ us, Sm P H4 H' ∧ H' D = some (.lst us) ∧ us.length = i ∧ Paired (fun v ys => ∃ l, v = V.ref l ∧ l ≠ D ∧ H' l = some (.lst ys)) us (fV (q.take i))) ⟨[], Sm.new t4 hD, upd_same, rfl, .nil⟩ (fun i H' _ ⟨_, s, _⟩ => SqL.of (s.atL t4 hQ4)) ?_ ?_
    · rintro j x H6 H5 hj ⟨us, s5, q1, q2, q3⟩ ⟨rfl, hy⟩
      obtain ⟨ys, hys, c, rfl, hc⟩ := paired_get hp4 hy
      obtain ⟨f, hf, rfl⟩ := fV_at hys
      refine ⟨rfl, _, rfl, c, _, rfl, .inr (s5.tup t4 hc), fun l hl => ?_⟩
      have n1 := Sm.new (o := .lst f.vs) s5.2 hl
      have q1' := n1.atL s5.2 q1
      have nDl : l ≠ D := (ne_of_none q1 hl).symm
      refine ⟨us, q1', small (by omega), us ++ [.ref l], (s5.trans n1).mut hD DP, upd_same, by rw [List.length_append, q2]; rfl, ?_⟩
      rw [take_snoc hf]
      unfold fV at q3 ⊢
      rw [List.map_append]
      refine paired_append (paired_mono (fun _ _ ⟨a, e, n, h⟩ => ⟨a, e, n, by rw [upd_ne n]; exact n1.atL s5.2 h⟩) q3) (.cons ⟨l, rfl, nDl, by rw [upd_ne nDl, upd_same]⟩ .nil)
    rintro H5 ⟨us, s5, q1, q2, q3⟩
    rw [lz, List.take_length] at q3
    have q3 : Paired (ItS (Sq K) H5) us (fV q) := paired_mono (fun _ _ ⟨a, e, _, h⟩ => ⟨a, e, .inr (SqL.of h)⟩) q3
    refine ⟨s5.2, _, ⟨.ref D, q, rfl, ⟨D, us, rfl, .inr (SqL.of q1), q3⟩, okq, rfl⟩, fun w1 H6 s6 e1 => ?_⟩
    have s56 := s5.trans s6
    have W6 := W4.sm s56
    refine ⟨_, rfl, W6.tab, _, ⟨.ref tt, q, rfl, W6.sq, okq, rfl⟩, fun w2 H7 s7 e2 => ?_⟩
    have e1 := e1.mono mo_tup s56.2 s7
    refine ⟨two, fun l hl => ?_⟩
    have n8 := Sm.new (o := .lst [w1, w2]) s7.2 hl
    refine ⟨_, .list [_, _], rfl, .lst (SqL.of upd_same) (.cons (q_dp (e1.mono mo_tup s7.2 n8)) (.cons (q_dp (e2.mono mo_tup s7.2 n8)) .nil)), (gd_two gq).sh, (gd_two gq).di, Nat.le_trans (gd_two gq).de (by decide), gd_fits (gd_two gq) (by decide), ?_⟩
    have W8 := (W6.sm s7).sm n8
    refine ⟨_, rfl, _, rfl, two, fun l2 hl2 => ?_⟩
    have n9 := Sm.new (o := .lst [.ref tt, .ref tt]) n8.2 hl2
    have W9 := W8.sm n9
    refine ⟨_, .list [_, _], rfl, .lst (SqL.of upd_same) (.cons (q_dp W9.told) (.cons (q_dp W9.told) .nil)), (gd_two gq).sh, (gd_two gq).di, Nat.le_trans (gd_two gq).de (by decide), gd_fits (gd_two gq) (by decide), ?_⟩
    refine ⟨rfl, false, ?_, iteF ?_⟩
    · rw [decide_eq_true rfl]
      rfl
    have c9 := c4.trans (SB.sm W4.box W4.tab (((s56.trans s7).trans n8).trans n9))
    generalize upd (upd H7 l (.lst [w1, w2])) l2 (.lst [.ref tt, .ref tt]) = H9 at *
    clear e1 e2 W4 W6 W8 n8 n9 s7 s56 s6 q1 q3 s5 hQ4 hp4 c4 hl hl2
    -- for turn ..
    refine ⟨3, rfl, by decide, by decide, for_range (lo := 0) (n := 3) (fun j σ G => (∃ v4 v6 v7 v8 v9 v10 v11 v12 v13 : Option V, σ = [some (.ref a), some (.int (i : Nat)), some (.ref b), some (.ref Q0), v4, some (.ref tt), v6, v7, v8, v9, v10, v11, v12, v13]) ∧ SB P b H9 G) ⟨⟨_, _, _, _, _, _, _, _, _, rfl⟩, SB.refl W9.tab W9.box⟩ ?_ ?_⟩
    rotate_left
    · rintro σ G ⟨⟨v4, v6, v7, v8, v9, v10, v11, v12, v13, rfl⟩, s5⟩
      exact ⟨⟨_, _, _, _, _, _, _, _, _, _, _, _, _, rfl⟩, SB.to s12 bH (c9.trans s5)⟩
    rintro j σ G hj ⟨⟨v4, v6, v7, v8, v9, v10, v11, v12, v13, rfl⟩, p1⟩
    have W1 := W9.sb p1
    -- document = ..
    refine ⟨_, rfl, _, rfl, b, 3, rfl, W1.box, by decide, by decide, fun r r0 r1' g z g0 z0 z1 => ⟨_, _, rfl, rfl, ?_⟩⟩
    obtain ⟨n, hn, n0, n1⟩ : ∃ n : Nat, 1 + r = (n : Int) ∧ 0 < n ∧ n ≤ 3 := ⟨(1 + r).toNat, by omega, by omega, by omega⟩
    have p2 := SB.draw W1.tab bP g0 z0 z1
    refine ⟨p2.tab, b, n, (by show [V.ref b, V.int (1 + r), V.int 3] = _; rw [hn]), p2.box, bP, by omega, fun dv G2 ds p3 hdv hds => ?_⟩
    have p23 := p2.trans p3
    have W2 := W1.sb p23
    obtain ⟨zd, ws, rfl, hz, hws⟩ := dp_tup hdv
    have dl : (sgs ds).length ≤ 1000 := Nat.le_trans hds.2.1 (Nat.le_trans (Nat.mul_le_mul_left _ (nb_le n1)) (by decide))
    have dh : hiS ds < 4 := by have := hds.2.2; omega
    have p4 := p1.trans p23
    clear hdv p23 p3 p2 p1 W1 g0 z0 z1 r0 r1' hn
    -- label = ..
    refine ⟨_, rfl, four, fun l hl => ?_⟩
    have n3 := SB.sm W2.box W2.tab (Sm.new (o := .lst [.non, .str "a", .str "b", .str "zz"]) W2.tab hl)
    refine ⟨b, l, [.non, .str "a", .str "b", .str "zz"], rfl, n3.box, upd_same, box_ne W2.box hl, (by show 0 < 4; decide), (by show 4 < 1000; decide), fun j2 v hv g z g0 z0 z1 => ?_⟩
    obtain ⟨lab, rfl⟩ := lab_opt hv
    have n4 := n3.trans (SB.draw n3.tab bP g0 z0 z1)
    have tp4 := n4.tp W2.tab W2.box
    have W3 := W2.sb n4
    have hz := tp4.sq hz
    have hws := nds_tp tp4 _ _ hws
    have p5 := p4.trans n4
    clear tp4 n3 n4 p4 W2 hl hv g0 z0 z1
    generalize upd (upd G2 l _) b _ = G3 at *
    -- due = ..
    refine ⟨_, rfl, _, rfl, _, rfl, W3.tab, _, ⟨tt, zd, lab, q, ws, ds, rfl, W3.told, okq, hz, hws, dh, dl, rfl⟩, fun dv2 G4 s4 ⟨rr, du, wl, us, ev, hr1, hdu, _, _⟩ => ?_⟩
    subst ev
    refine ⟨rr, _, _, _, rfl, rfl, hr1, atI_nat (j := 0) rfl, ?_⟩
    have W4 := W3.sm s4
    have hz := s4.tup W3.tab hz
    have hws := nds_tp (Tp.sm W3.tab s4) _ _ hws
    have p6 := p5.trans (SB.sm W3.box W3.tab s4)
    clear hr1 s4 p5 W3
    have lr : (rowF q lab ds).length ≤ 1000 := by rw [rowF_len]; omega
    -- repr([row_facts(..), ..]) ..
    refine ⟨_, rfl, _, rfl, _, rfl, W4.tab, _, ⟨.ref tt, zd, lab, q, ws, ds, rfl, W4.sq, okq, .inl hz, hws, hds.1, dl, rfl⟩, fun a1 G5 s5 h5 => ?_⟩
    have W5 := W4.sm s5
    refine ⟨_, rfl, zd, ws, rfl, .inr (s5.tup W4.tab hz), fun l hl => ?_⟩
    have n5 := Sm.new (o := .lst ws) W5.tab hl
    have s56 := s5.trans n5
    have W6 := W4.sm s56
    refine ⟨_, rfl, _, rfl, W6.tab, _, ⟨.ref Q0, l, lab, q, ws, ds, rfl, W6.qs, okq, .inr (SqL.of upd_same), nds_tp (Tp.sm W4.tab s56) _ _ hws, hds.1, dl, rfl⟩, fun a2 G7 s7 h7 => ?_⟩
    refine ⟨two, fun l2 hl2 => ?_⟩
    have n8 := Sm.new (o := .lst [a1, a2]) s7.2 hl2
    refine ⟨_, .list [_, _], rfl, .lst (SqL.of upd_same) (.cons (it_bs (h5.mono mo_tup s5.2 ((n5.trans s7).trans n8))) (.cons (it_bs (h7.mono mo_tup s7.2 n8)) .nil)), (gd_two (gd_bs _ lr)).sh, (gd_two (gd_bs _ lr)).di, Nat.le_trans (gd_two (gd_bs _ lr)).de (by decide), gd_fits (gd_two (gd_bs _ lr)) (by decide), ?_⟩
    have s58 := (s56.trans s7).trans n8
    refine ⟨_, rfl, _, rfl, two, fun l3 hl3 => ?_⟩
    have n9 := Sm.new (o := .lst [.ref du, .ref du]) s58.2 hl3
    have s59 := s58.trans n9
    have e3 := it_bs (K := K) ⟨du, rfl, s59.tup W4.tab hdu⟩
    refine ⟨_, .list [_, _], rfl, .lst (SqL.of upd_same) (.cons e3 (.cons e3 .nil)), (gd_two (gd_bs _ lr)).sh, (gd_two (gd_bs _ lr)).di, Nat.le_trans (gd_two (gd_bs _ lr)).de (by decide), gd_fits (gd_two (gd_bs _ lr)) (by decide), ?_⟩
    refine ⟨rfl, false, ?_, iteF ?_⟩
    · rw [decide_eq_true rfl]
      rfl
    have hz := s59.tup W4.tab hz
    have hws := nds_tp (Tp.sm W4.tab s59) _ _ hws
    have W9 := W4.sm s59
    have p7 := p6.trans (SB.sm W4.box W4.tab s59)
    clear e3 n9 s58 n8 s7 s56 n5 s5 W5 W6 p6 hdu h5 h7 hl hl2 hl3 s59 W4
    generalize upd _ l3 _ = GA at *
    -- top = ..
    refine ⟨_, rfl, _, rfl, W9.tab, _, ⟨tt, zd, none, q, ws, ds, rfl, W9.told, okq, hz, hws, dh, dl, rfl⟩, fun dv2 GB s4 ⟨rr, tp, wl, us, ev, hr1, htp, _, _⟩ => ?_⟩
    subst ev
    refine ⟨rr, _, _, _, rfl, rfl, hr1, atI_nat (j := 0) rfl, ?_⟩
    have WB := W9.sm s4
    have hz := s4.tup W9.tab hz
    have hws := nds_tp (Tp.sm W9.tab s4) _ _ hws
    have p8 := p7.trans (SB.sm W9.box W9.tab s4)
    clear hr1 s4 p7 W9
    have ltp : (bV (rowF q none ds)).length = q.length := by unfold bV; rw [List.length_map, rowF_len]
    have hlast : (bV (rowF q none ds))[(bV (rowF q none ds)).length - 1]? = some (.bl (bt (rowF q none ds) (q.length - 1))) := by rw [ltp]; exact bV_bt (by rw [rowF_len]; have := okq.1; omega)
    -- repr([meaning(..), ..]) ..
    refine ⟨_, rfl, _, rfl, WB.tab, _, ⟨.ref tt, zd, q, ws, ds, rfl, WB.sq, okq, .inl hz, hws, hds.1, dl, rfl⟩, fun a1 G5 s5 h5 => ?_⟩
    subst h5
    have W5 := WB.sm s5
    refine ⟨_, rfl, _, rfl, W5.tab, _, ⟨.ref Q0, zd, q, ws, ds, rfl, W5.qs, okq, .inl (s5.tup WB.tab hz), nds_tp (Tp.sm WB.tab s5) _ _ hws, hds.1, dl, rfl⟩, fun a2 G6 s6 h6 => ?_⟩
    subst h6
    refine ⟨two, fun l hl => ?_⟩
    have s56 := s5.trans s6
    have n7 := Sm.new (o := .lst [.bl (bt (rowF q none ds) (q.length - 1)), .bl (bt (rowF q none ds) (q.length - 1))]) s56.2 hl
    have s57 := s56.trans n7
    refine ⟨_, .list [_, _], rfl, .lst (SqL.of upd_same) (.cons (.bl _) (.cons (.bl _) .nil)), (gd_two (gd_leaf (lg_bool (bt (rowF q none ds) (q.length - 1))))).sh, (gd_two (gd_leaf (lg_bool (bt (rowF q none ds) (q.length - 1))))).di, Nat.le_trans (gd_two (gd_leaf (lg_bool (bt (rowF q none ds) (q.length - 1))))).de (by decide), gd_fits (gd_two (gd_leaf (lg_bool (bt (rowF q none ds) (q.length - 1))))) (by decide), ?_⟩
    have ht7 := s57.tup WB.tab htp
    refine ⟨_, rfl, 1, rfl, tp, _, _, _, rfl, rfl, ht7, atI_m1 hlast, _, rfl, 1, rfl, tp, _, _, _, rfl, rfl, ht7, atI_m1 hlast, two, fun l2 hl2 => ?_⟩
    have n8 := Sm.new (o := .lst [.bl (bt (rowF q none ds) (q.length - 1)), .bl (bt (rowF q none ds) (q.length - 1))]) s57.2 hl2
    refine ⟨_, .list [_, _], rfl, .lst (SqL.of upd_same) (.cons (.bl _) (.cons (.bl _) .nil)), (gd_two (gd_leaf (lg_bool (bt (rowF q none ds) (q.length - 1))))).sh, (gd_two (gd_leaf (lg_bool (bt (rowF q none ds) (q.length - 1))))).di, Nat.le_trans (gd_two (gd_leaf (lg_bool (bt (rowF q none ds) (q.length - 1))))).de (by decide), gd_fits (gd_two (gd_leaf (lg_bool (bt (rowF q none ds) (q.length - 1))))) (by decide), ?_⟩
    refine ⟨rfl, false, ?_, iteF ?_⟩
    · rw [decide_eq_true rfl]
      rfl
    have s58 := s57.trans n8
    have htp := s58.tup WB.tab htp
    have hz := s58.tup WB.tab hz
    have hws := nds_tp (Tp.sm WB.tab s58) _ _ hws
    have p9 := p8.trans (SB.sm WB.box WB.tab s58)
    have WC := WB.sm s58
    clear ht7 n8 s57 n7 s56 s6 s5 W5 hl hl2 s58 p8 WB
    generalize upd _ l2 _ = GC at *
    -- wished = ..
    refine ⟨_, rfl, b, 3, rfl, WC.box, by decide, by decide, fun r r0 r1' g z g0 z0 z1 => ⟨_, _, rfl, rfl, ?_⟩⟩
    obtain ⟨m, hm, m0, m1⟩ : ∃ m : Nat, 1 + r = (m : Int) ∧ 0 < m ∧ m ≤ 3 := ⟨(1 + r).toNat, by omega, by omega, by omega⟩
    have d1 := SB.draw WC.tab bP g0 z0 z1
    refine ⟨(m : Int), (by show [V.int (1 + r)] = _; rw [hm]), by omega, by omega, fun D hD => ?_⟩
    have WD := WC.sb d1
    have DP := nPt WD.tab hD
    have Db := box_ne WD.box hD
    have tpd := d1.tp WC.tab WC.box
    have htp := tpd.sq htp
    have hz := tpd.sq hz
    have hws := nds_tp tpd _ _ hws
    have p10 := p9.trans d1
    clear d1 tpd p9 WC g0 z0 z1 r0 r1' hm
    generalize upd GC b _ = GD at *
    refine lc_it (walk_range (lo := 0) (n := m)) (fun i H' => ∃ ns : List Nat, SB P b GD H' ∧ H' D = some (.lst (iV ns)) ∧ ns.length = i ∧ ∀ n ∈ ns, n < q.length) ⟨[], (SB.refl WD.tab WD.box).mut hD DP Db, upd_same, rfl, fun n h => nomatch h⟩ (fun _ _ _ _ => trivial) ?_ ?_
    · rintro i2 x H2 H1' hi2 ⟨ns2, q1, q2, q3, q4⟩ ⟨rfl, rfl⟩
      have WE := WD.sb q1
      obtain ⟨tt', zs', e', hs', pp'⟩ := WE.told
      cases e'
      have lz' : zs'.length = q.length := (Paired.length pp').trans (List.length_map _)
      have o1 := okq.1
      refine ⟨rfl, _, rfl, _, rfl, tt, zs', rfl, .inr hs', b, (zs'.length : Int), rfl, WE.box, by omega, by omega, fun r r0 r1' g z g0 z0 z1 => ?_⟩
      obtain ⟨u, rfl⟩ : ∃ u : Nat, r = (u : Int) := ⟨r.toNat, by omega⟩
      have d2 := SB.draw WE.tab bP g0 z0 z1
      refine ⟨iV ns2, d2.keep _ _ DP Db q2, small (by rw [iV_len]; omega), ns2 ++ [u], (q1.trans d2).mut hD DP Db, ?_, by rw [List.length_append, q3]; rfl, fun n hn => ?_⟩
      · rw [upd_same]
        unfold iV
        rw [List.map_append]
        rfl
      · rcases List.mem_append.mp hn with e | e
        · exact q4 n e
        · rw [List.mem_singleton.mp e]
          omega
    rintro GE ⟨ns2, q1, q2, q3, q4⟩
    have tpe := q1.tp WD.tab WD.box
    have WE := WD.sb q1
    have htp := tpe.sq htp
    have hz := tpe.sq hz
    have hws := nds_tp tpe _ _ hws
    have p11 := p10.trans q1
    clear q1 tpe p10 WD hD
    have nn : ns2 ≠ [] := fun e => by
      rw [e] at q3
      simp at q3
      omega
    -- due = ..
    refine ⟨_, rfl, D, rfl, ⟨_, SqL.of q2⟩, fun D2 hD2 => ?_⟩
    refine lc_sel (P := P) (g := gName 4) (tt := tYes) (te := tOp (rIxT K) (tVar 10) (tVar 4)) (walk_list (K := K) (a := D) (xs := iV ns2)) WE.tab hD2 (by rw [iV_len]; omega) (fun H' s => SqL.of (s.atL WE.tab q2)) (fun _ => true) (fun i => .bl (bt (rowF q none ds) (ns2.getD i 0))) ?_ ?_
    · rintro i2 x H4' H5' Qe N hi2 s4 ⟨rfl, hy⟩ hk _
      obtain ⟨n2, hn2, rfl⟩ := iV_at hy
      have hl := q4 n2 (List.mem_of_getElem? hn2)
      have e1 : ns2.getD i2 0 = n2 := by rw [List.getD_eq_getElem?_getD, hn2]; rfl
      have := hk rfl H5' (Sm.refl s4.2)
      rw [e1] at this
      exact ⟨rfl, _, rfl, _, rfl, tp, _, _, _, rfl, rfl, s4.tup WE.tab htp, atI_nat (bV_bt (by rw [rowF_len]; exact hl)), this⟩
    intro GF s4 e4
    rw [sel_all] at e4
    have ee : (List.range (iV ns2).length).map (fun i => bt (rowF q none ds) (ns2.getD i 0)) = ns2.map (bt (rowF q none ds)) := by
      rw [iV_len]
      apply List.ext_getElem
      · simp
      · intro i h1 h2
        simp at h1
        simp [h1]
    rw [ee] at e4
    refine .inl ⟨D2, _, rfl, SqL.of e4, fun du hdu => ?_⟩
    have s5 := s4.trans (Sm.new (o := .tup (bV (ns2.map (bt (rowF q none ds))))) s4.2 hdu)
    have WF := WE.sm s5
    have q2 := s5.atL WE.tab q2
    have hz := s5.tup WE.tab hz
    have hws := nds_tp (Tp.sm WE.tab s5) _ _ hws
    have p12 := p11.trans (SB.sm WE.box WE.tab s5)
    have hdu2 : SqT K (upd GF du (.tup (bV (ns2.map (bt (rowF q none ds)))))) du (bV (ns2.map (bt (rowF q none ds)))) := .inl (.inl upd_same)
    clear e4 s4 s5 p11 WE hD2 hdu htp
    have lb : (ns2.map (bt (rowF q none ds))).length ≤ 1000 := by rw [List.length_map]; omega
    -- repr([meanings(..), ..]) ..
    refine ⟨_, rfl, _, rfl, _, rfl, WF.tab, _, ⟨.ref tt, .ref D, zd, q, ns2, ws, ds, rfl, WF.sq, okq, ⟨D, rfl, .inr (SqL.of q2)⟩, nn, q4, by omega, .inl hz, hws, hds.1, dl, rfl⟩, fun a1 G5 s5 h5 => ?_⟩
    have W5 := WF.sm s5
    refine ⟨_, rfl, _, rfl, .inl ⟨D, _, rfl, SqL.of (s5.atL WF.tab q2), fun wt hwt => ?_⟩⟩
    have n6 := Sm.new (o := .tup (iV ns2)) W5.tab hwt
    have s56 := s5.trans n6
    have W6 := WF.sm s56
    refine ⟨_, rfl, W6.tab, _, ⟨.ref tt, .ref wt, zd, q, ns2, ws, ds, rfl, W6.sq, okq, ⟨wt, rfl, .inl (.inl (.inl upd_same))⟩, nn, q4, by omega, .inl (s56.tup WF.tab hz), nds_tp (Tp.sm WF.tab s56) _ _ hws, hds.1, dl, rfl⟩, fun a2 G7 s7 h7 => ?_⟩
    refine ⟨two, fun l hl => ?_⟩
    have n8 := Sm.new (o := .lst [a1, a2]) s7.2 hl
    refine ⟨_, .list [_, _], rfl, .lst (SqL.of upd_same) (.cons (it_bs (h5.mono mo_tup s5.2 ((n6.trans s7).trans n8))) (.cons (it_bs (h7.mono mo_tup s7.2 n8)) .nil)), (gd_two (gd_bs _ lb)).sh, (gd_two (gd_bs _ lb)).di, Nat.le_trans (gd_two (gd_bs _ lb)).de (by decide), gd_fits (gd_two (gd_bs _ lb)) (by decide), ?_⟩
    have s58 := (s56.trans s7).trans n8
    refine ⟨_, rfl, _, rfl, two, fun l3 hl3 => ?_⟩
    have n9 := Sm.new (o := .lst [.ref du, .ref du]) s58.2 hl3
    have s59 := s58.trans n9
    have e3 := it_bs (K := K) ⟨du, rfl, s59.tup WF.tab hdu2⟩
    refine ⟨_, .list [_, _], rfl, .lst (SqL.of upd_same) (.cons e3 (.cons e3 .nil)), (gd_two (gd_bs _ lb)).sh, (gd_two (gd_bs _ lb)).di, Nat.le_trans (gd_two (gd_bs _ lb)).de (by decide), gd_fits (gd_two (gd_bs _ lb)) (by decide), ?_⟩
    refine ⟨rfl, false, ?_, iteF ?_⟩
    · rw [decide_eq_true rfl]
      rfl
    exact ⟨⟨_, _, _, _, _, _, _, _, _, rfl⟩, p12.trans (SB.sm WF.box WF.tab s59)⟩
end
end K6

set_option Elab.async false
set_option linter.all false
set_option maxRecDepth 100000
set_option maxHeartbeats 4000000
namespace K6
open PySem PySem.Spec PyProof.Rows L2 So
/-! ### the module's tables of facts' parts -/
def isS : Value → Option Str
  | .str x _ => some x
  | _ => none
def strT (K : PySem.W.Frag) (a : Addr) (L : List Str) : Bool := match K.lookup a with
  | some ⟨.type c, _, .seq its _, _⟩ => decide (c = "tuple") && decide (its.size ≤ 100) && decide (its.toList.map isS = L.map some)
  | _ => false
theorem vals_str : ∀ {us : List Value} {L : List Str}, us.map isS = L.map some → Vals (sV L) us
  | [], [], _ => .nil
  | [], _ :: _, h => by cases h
  | _ :: _, [], h => by cases h
  | u :: us, z :: L, h => by
    rw [List.map_cons, List.map_cons] at h
    injection h with h1 h2
    refine .cons ?_ (vals_str h2)
    cases u with
    | str x t =>
      cases h1
      exact ⟨t, rfl⟩
    | _ => cases h1
theorem strT_ok {K : PySem.W.Frag} {a : Addr} {L : List Str} (h : strT K a L = true) : ∀ H, SqT K H a (sV L) := by
  intro H
  unfold strT at h
  split at h
  · rename_i c od its n sl e
    rw [Bool.and_eq_true, Bool.and_eq_true, decide_eq_true_eq, decide_eq_true_eq, decide_eq_true_eq] at h
    obtain ⟨⟨h1, h2⟩, h3⟩ := h
    subst h1
    exact .inr ⟨_, its, n, e, rfl, rfl, Nat.le_trans h2 (by decide), vals_str h3⟩
  · cases h
def parB (K : PySem.W.Frag) (d : Addr) (kvs : List (Str × List Str)) : Bool := kvs.all fun q => match PySem.W.nsIn K d q.1 with
  | some (some (.ref a)) => strT K a q.2
  | _ => false
theorem parB_ok {K : PySem.W.Frag} {d : Addr} {kvs : List (Str × List Str)} (h : parB K d kvs = true) {x : Str} {L : List Str} (hq : (x, L) ∈ kvs) : ∃ a, PySem.W.nsIn K d x = some (some (.ref a)) ∧ ∀ H, SqT K H a (sV L) := by
  have h2 := List.all_eq_true.mp h _ hq
  dsimp only at h2
  split at h2
  · rename_i a e
    exact ⟨a, e, strT_ok h2⟩
  · cases h2
def parT : List (Str × List Str) := [("text", ["string", "n"]), ("label", ["label"]), ("child", ["f", "n"]), ("modulo", ["f", "m", "r"]), ("later", ["f", "f"]), ("next", ["f", "f"]), ("first", ["f"]), ("last", ["f"]), ("inside", ["f"]), ("not", ["f"]), ("and", ["f", "f"]), ("or", ["f", "f"])]
def parK : List Str := ["text", "label", "child", "modulo", "later", "next", "first", "last", "inside", "not", "and", "or"]
theorem par_row {K : PySem.W.Frag} {d : Addr} (h : parB K d parT = true) (f : Fa) : ∃ a, PySem.W.nsIn K d f.w = some (some (.ref a)) ∧ ∀ H, SqT K H a (sV f.srt) := by
  cases f with
  | txt s n => exact parB_ok h (x := "text") (L := ["string", "n"]) (by simp [parT])
  | lab l => exact parB_ok h (x := "label") (L := ["label"]) (by simp [parT])
  | chi f n => exact parB_ok h (x := "child") (L := ["f", "n"]) (by simp [parT])
  | mdl f m r => exact parB_ok h (x := "modulo") (L := ["f", "m", "r"]) (by simp [parT])
  | two w f g =>
    cases w with
    | later => exact parB_ok h (x := "later") (L := ["f", "f"]) (by simp [parT])
    | next => exact parB_ok h (x := "next") (L := ["f", "f"]) (by simp [parT])
    | and => exact parB_ok h (x := "and") (L := ["f", "f"]) (by simp [parT])
    | or => exact parB_ok h (x := "or") (L := ["f", "f"]) (by simp [parT])
  | one w f =>
    cases w with
    | first => exact parB_ok h (x := "first") (L := ["f"]) (by simp [parT])
    | last => exact parB_ok h (x := "last") (L := ["f"]) (by simp [parT])
    | inside => exact parB_ok h (x := "inside") (L := ["f"]) (by simp [parT])
    | not => exact parB_ok h (x := "not") (L := ["f"]) (by simp [parT])
end K6

set_option Elab.async false
set_option linter.all false
set_option maxRecDepth 100000
set_option maxHeartbeats 8000000
namespace K6
open PySem PySem.Spec PyProof.Rows L2 So
theorem tab_mk {K : PySem.W.Frag} {x : Str} {f c P : Addr} {o1 : Value} {o2 : Option Addr} {o3 : Array (Option Value)} {fd : FuncData} {e1 : Value} {e2 : Option Addr} {vs : Array Value} {e3 : Array (Option Value)} (a : PySem.W.nsIn K mainGlobals x = some (some (.ref f))) (l : K.lookup f = some ⟨o1, o2, .func fd, o3⟩) (hc : fd.code = .ref c)
    (lc : K.lookup c = some ⟨e1, e2, .fields vs, e3⟩) (hp : vs[11]? = some (.ref P)) : PySem.W.tabIn K x = some (c, P) := by
  unfold PySem.W.tabIn
  rw [a]
  dsimp only
  rw [l]
  dsimp only
  rw [hc]
  dsimp only
  rw [lc]
  dsimp only
  rw [hp]
/-- what is known of the program behind its top -/
def Known (Pg : Program) (w : World) (K : PySem.W.Frag) (mg : Str → Option Value) (fa : Addr) : Prop := ∃ (c P : Addr) (fd : FuncData), PySem.W.tabIn K "is_label" = some (c, P) ∧ K.lookup P = none ∧ (∀ (s : Shared) (u : Value), BindsTo s fd ⟨[u], []⟩ [("script", u)]) ∧
  ∀ base : Heap, K.In base → base.Ns mainGlobals mg → GxR.TabB base mg c P → SoG.GOk Pg w K mg base fa fd (spLaw K P)
theorem all_mk {Pg : Program} {w : World} {K : PySem.W.Frag} {h : Heap} {mg : Str → Option Value} {fa c P : Addr} (X : K.In h) (G : h.Ns mainGlobals mg) (hfa : mg "law" = some (.ref fa))
    {f1 f2 f3 f4 f5 f6 f7 f8 f9 f10 f11 f12 f13 f14 f15 f16 f17 f18 f19 f20 f21 f22 f23 f24 f25 f26 f27 f28 : Addr}
    {od1 an1 od2 an2 od3 an3 od4 an4 od5 an5 od6 an6 od7 an7 od8 an8 od9 an9 od10 an10 od11 an11 od12 an12 od13 an13 od14 an14 od15 an15 od16 an16 od17 an17 od18 an18 od19 an19 od20 an20 od21 an21 od22 an22 od23 an23 od24 an24 od25 an25 od26 an26 od27 an27 od28 an28 : Option Addr} {sl1 sl2 sl3 sl4 sl5 sl6 sl7 sl8 sl9 sl10 sl11 sl12 sl13 sl14 sl15 sl16 sl17 sl18 sl19 sl20 sl21 sl22 sl23 sl24 sl25 sl26 sl27 sl28 : Array (Option Value)} {oc1 kV1 dc1 pm1 ct1 oc2 kV2 dc2 pm2 ct2 oc3 kV3 dc3 pm3 ct3 oc4 kV4 dc4 pm4 ct4 oc5 kV5 dc5 pm5 ct5 oc6 kV6 dc6 pm6 ct6 oc7 kV7 dc7 pm7 ct7 oc8 kV8 dc8 pm8 ct8 oc9 kV9 dc9 pm9 ct9 oc10 kV10 dc10 pm10 ct10 oc11 kV11 dc11 pm11 ct11 oc12 kV12 dc12 pm12 ct12 oc13 kV13 dc13 pm13 ct13 oc14 kV14 dc14 pm14 ct14 oc15 kV15 dc15 pm15 ct15 oc16 kV16 dc16 pm16 ct16 oc17 kV17 dc17 pm17 ct17 oc18 kV18 dc18 pm18 ct18 oc19 kV19 dc19 pm19 ct19 oc20 kV20 dc20 pm20 ct20 oc21 kV21 dc21 pm21 ct21 oc22 kV22 dc22 pm22 ct22 oc23 kV23 dc23 pm23 ct23 oc24 kV24 dc24 pm24 ct24 oc25 kV25 dc25 pm25 ct25 oc26 kV26 dc26 pm26 ct26 oc27 kV27 dc27 pm27 ct27 oc28 kV28 dc28 pm28 ct28 cd1 cd2 cd3 cd4 cd6 cd7 cd8 cd9 cd10 cd11 cd12 cd13 cd14 cd15 cd16 cd17 cd18 cd19 cd20 cd21 cd22 cd23 cd24 cd25 cd26 cd27 cd28 : Value}
    {e1 : Value} {e2 : Option Addr} {vs : Array Value} {e3 : Array (Option Value)} {tL tM tT t3 t4 t5 : Tok}
    (a1 : PySem.W.nsIn K mainGlobals "is_number" = some (some (.ref f1))) (l1 : K.lookup f1 = some ⟨oc1, od1, .func (PySem.W.fnOf "is_number" "is_number" (defArgs sNum) (defBody sNum) (defScope sNum) .none kV1 dc1 pm1 an1 cd1 ct1), sl1⟩) (c1 : PySem.W.codeIn K cd1 "is_number" = true) (k1 : PySem.W.keepIn K (.ref f1) = true)
    (a2 : PySem.W.nsIn K mainGlobals "is_number_below" = some (some (.ref f2))) (l2 : K.lookup f2 = some ⟨oc2, od2, .func (PySem.W.fnOf "is_number_below" "is_number_below" (defArgs sNub) (defBody sNub) (defScope sNub) .none kV2 dc2 pm2 an2 cd2 ct2), sl2⟩) (c2 : PySem.W.codeIn K cd2 "is_number_below" = true) (k2 : PySem.W.keepIn K (.ref f2) = true)
    (a3 : PySem.W.nsIn K mainGlobals "is_sequence" = some (some (.ref f3))) (l3 : K.lookup f3 = some ⟨oc3, od3, .func (PySem.W.fnOf "is_sequence" "is_sequence" (defArgs sSeq) (defBody sSeq) (defScope sSeq) .none kV3 dc3 pm3 an3 cd3 ct3), sl3⟩) (c3 : PySem.W.codeIn K cd3 "is_sequence" = true) (k3 : PySem.W.keepIn K (.ref f3) = true)
    (a4 : PySem.W.nsIn K mainGlobals "is_row_of" = some (some (.ref f4))) (l4 : K.lookup f4 = some ⟨oc4, od4, .func (PySem.W.fnOf "is_row_of" "is_row_of" (defArgs sRow) (defBody sRow) (defScope sRow) .none kV4 dc4 pm4 an4 cd4 ct4), sl4⟩) (c4 : PySem.W.codeIn K cd4 "is_row_of" = true) (k4 : PySem.W.keepIn K (.ref f4) = true)
    (a5 : PySem.W.nsIn K mainGlobals "is_label" = some (some (.ref f5))) (l5 : K.lookup f5 = some ⟨oc5, od5, .func (PySem.W.fnOf "is_label" "is_label" (defArgs sLab) (defBody sLab) (defScope sLab) .none kV5 dc5 pm5 an5 (.ref c) ct5), sl5⟩) (c5 : PySem.W.codeIn K (.ref c) "is_label" = true) (k5 : PySem.W.keepIn K (.ref f5) = true)
    (a6 : PySem.W.nsIn K mainGlobals "is_text" = some (some (.ref f6))) (l6 : K.lookup f6 = some ⟨oc6, od6, .func (PySem.W.fnOf "is_text" "is_text" (defArgs sTxt) (defBody sTxt) (defScope sTxt) .none kV6 dc6 pm6 an6 cd6 ct6), sl6⟩) (c6 : PySem.W.codeIn K cd6 "is_text" = true) (k6 : PySem.W.keepIn K (.ref f6) = true)
    (a7 : PySem.W.nsIn K mainGlobals "_is_text_node" = some (some (.ref f7))) (l7 : K.lookup f7 = some ⟨oc7, od7, .func (PySem.W.fnOf "_is_text_node" "_is_text_node" (defArgs sItn) (defBody sItn) (defScope sItn) .none kV7 dc7 pm7 an7 cd7 ct7), sl7⟩) (c7 : PySem.W.codeIn K cd7 "_is_text_node" = true) (k7 : PySem.W.keepIn K (.ref f7) = true)
    (a8 : PySem.W.nsIn K mainGlobals "_is_element_node" = some (some (.ref f8))) (l8 : K.lookup f8 = some ⟨oc8, od8, .func (PySem.W.fnOf "_is_element_node" "_is_element_node" (defArgs sIen') (defBody sIen') (defScope sIen') .none kV8 dc8 pm8 an8 cd8 ct8), sl8⟩) (c8 : PySem.W.codeIn K cd8 "_is_element_node" = true) (k8 : PySem.W.keepIn K (.ref f8) = true)
    (a9 : PySem.W.nsIn K mainGlobals "signs_of" = some (some (.ref f9))) (l9 : K.lookup f9 = some ⟨oc9, od9, .func (PySem.W.fnOf "signs_of" "signs_of" (defArgs sSig) (defBody sSig) (defScope sSig) .none kV9 dc9 pm9 an9 cd9 ct9), sl9⟩) (c9 : PySem.W.codeIn K cd9 "signs_of" = true) (k9 : PySem.W.keepIn K (.ref f9) = true)
    (a10 : PySem.W.nsIn K mainGlobals "_is_part" = some (some (.ref f10))) (l10 : K.lookup f10 = some ⟨oc10, od10, .func (PySem.W.fnOf "_is_part" "_is_part" (defArgs sPrt) (defBody sPrt) (defScope sPrt) .none kV10 dc10 pm10 an10 cd10 ct10), sl10⟩) (c10 : PySem.W.codeIn K cd10 "_is_part" = true) (k10 : PySem.W.keepIn K (.ref f10) = true)
    (a11 : PySem.W.nsIn K mainGlobals "_is_fact" = some (some (.ref f11))) (l11 : K.lookup f11 = some ⟨oc11, od11, .func (PySem.W.fnOf "_is_fact" "_is_fact" (defArgs sFac) (defBody sFac) (defScope sFac) .none kV11 dc11 pm11 an11 cd11 ct11), sl11⟩) (c11 : PySem.W.codeIn K cd11 "_is_fact" = true) (k11 : PySem.W.keepIn K (.ref f11) = true)
    (a12 : PySem.W.nsIn K mainGlobals "check_question" = some (some (.ref f12))) (l12 : K.lookup f12 = some ⟨oc12, od12, .func (PySem.W.fnOf "check_question" "check_question" (defArgs sCkq) (defBody sCkq) (defScope sCkq) .none kV12 dc12 pm12 an12 cd12 ct12), sl12⟩) (c12 : PySem.W.codeIn K cd12 "check_question" = true) (k12 : PySem.W.keepIn K (.ref f12) = true)
    (a13 : PySem.W.nsIn K mainGlobals "check_asked" = some (some (.ref f13))) (l13 : K.lookup f13 = some ⟨oc13, od13, .func (PySem.W.fnOf "check_asked" "check_asked" (defArgs sCka) (defBody sCka) (defScope sCka) .none kV13 dc13 pm13 an13 cd13 ct13), sl13⟩) (c13 : PySem.W.codeIn K cd13 "check_asked" = true) (k13 : PySem.W.keepIn K (.ref f13) = true)
    (a14 : PySem.W.nsIn K mainGlobals "_is_later" = some (some (.ref f14))) (l14 : K.lookup f14 = some ⟨oc14, od14, .func (PySem.W.fnOf "_is_later" "_is_later" (defArgs sLat) (defBody sLat) (defScope sLat) .none kV14 dc14 pm14 an14 cd14 ct14), sl14⟩) (c14 : PySem.W.codeIn K cd14 "_is_later" = true) (k14 : PySem.W.keepIn K (.ref f14) = true)
    (a15 : PySem.W.nsIn K mainGlobals "_is_next" = some (some (.ref f15))) (l15 : K.lookup f15 = some ⟨oc15, od15, .func (PySem.W.fnOf "_is_next" "_is_next" (defArgs sNxt) (defBody sNxt) (defScope sNxt) .none kV15 dc15 pm15 an15 cd15 ct15), sl15⟩) (c15 : PySem.W.codeIn K cd15 "_is_next" = true) (k15 : PySem.W.keepIn K (.ref f15) = true)
    (a16 : PySem.W.nsIn K mainGlobals "_of_inner" = some (some (.ref f16))) (l16 : K.lookup f16 = some ⟨oc16, od16, .func (PySem.W.fnOf "_of_inner" "_of_inner" (defArgs sOin) (defBody sOin) (defScope sOin) .none kV16 dc16 pm16 an16 cd16 ct16), sl16⟩) (c16 : PySem.W.codeIn K cd16 "_of_inner" = true) (k16 : PySem.W.keepIn K (.ref f16) = true)
    (a17 : PySem.W.nsIn K mainGlobals "of_joined" = some (some (.ref f17))) (l17 : K.lookup f17 = some ⟨oc17, od17, .func (PySem.W.fnOf "of_joined" "of_joined" (defArgs sJoi) (defBody sJoi) (defScope sJoi) .none kV17 dc17 pm17 an17 cd17 ct17), sl17⟩) (c17 : PySem.W.codeIn K cd17 "of_joined" = true) (k17 : PySem.W.keepIn K (.ref f17) = true)
    (a18 : PySem.W.nsIn K mainGlobals "_of_row" = some (some (.ref f18))) (l18 : K.lookup f18 = some ⟨oc18, od18, .func (PySem.W.fnOf "_of_row" "_of_row" (defArgs sOfr) (defBody sOfr) (defScope sOfr) .none kV18 dc18 pm18 an18 cd18 ct18), sl18⟩) (c18 : PySem.W.codeIn K cd18 "_of_row" = true) (k18 : PySem.W.keepIn K (.ref f18) = true)
    (a19 : PySem.W.nsIn K mainGlobals "row_facts" = some (some (.ref f19))) (l19 : K.lookup f19 = some ⟨oc19, od19, .func (PySem.W.fnOf "row_facts" "row_facts" (defArgs sRfs) (defBody sRfs) (defScope sRfs) .none kV19 dc19 pm19 an19 cd19 ct19), sl19⟩) (c19 : PySem.W.codeIn K cd19 "row_facts" = true) (k19 : PySem.W.keepIn K (.ref f19) = true)
    (a20 : PySem.W.nsIn K mainGlobals "meaning" = some (some (.ref f20))) (l20 : K.lookup f20 = some ⟨oc20, od20, .func (PySem.W.fnOf "meaning" "meaning" (defArgs sMea) (defBody sMea) (defScope sMea) .none kV20 dc20 pm20 an20 cd20 ct20), sl20⟩) (c20 : PySem.W.codeIn K cd20 "meaning" = true) (k20 : PySem.W.keepIn K (.ref f20) = true)
    (a21 : PySem.W.nsIn K mainGlobals "meanings" = some (some (.ref f21))) (l21 : K.lookup f21 = some ⟨oc21, od21, .func (PySem.W.fnOf "meanings" "meanings" (defArgs sMns) (defBody sMns) (defScope sMns) .none kV21 dc21 pm21 an21 cd21 ct21), sl21⟩) (c21 : PySem.W.codeIn K cd21 "meanings" = true) (k21 : PySem.W.keepIn K (.ref f21) = true)
    (a22 : PySem.W.nsIn K mainGlobals "_law_box" = some (some (.ref f22))) (l22 : K.lookup f22 = some ⟨oc22, od22, .func (PySem.W.fnOf "_law_box" "_law_box" (defArgs sBox) (defBody sBox) (defScope sBox) .none kV22 dc22 pm22 an22 cd22 ct22), sl22⟩) (c22 : PySem.W.codeIn K cd22 "_law_box" = true) (k22 : PySem.W.keepIn K (.ref f22) = true)
    (a23 : PySem.W.nsIn K mainGlobals "_law_take" = some (some (.ref f23))) (l23 : K.lookup f23 = some ⟨oc23, od23, .func (PySem.W.fnOf "_law_take" "_law_take" (defArgs sTak) (defBody sTak) (defScope sTak) .none kV23 dc23 pm23 an23 cd23 ct23), sl23⟩) (c23 : PySem.W.codeIn K cd23 "_law_take" = true) (k23 : PySem.W.keepIn K (.ref f23) = true)
    (a24 : PySem.W.nsIn K mainGlobals "_law_pick" = some (some (.ref f24))) (l24 : K.lookup f24 = some ⟨oc24, od24, .func (PySem.W.fnOf "_law_pick" "_law_pick" (defArgs sPck) (defBody sPck) (defScope sPck) .none kV24 dc24 pm24 an24 cd24 ct24), sl24⟩) (c24 : PySem.W.codeIn K cd24 "_law_pick" = true) (k24 : PySem.W.keepIn K (.ref f24) = true)
    (a25 : PySem.W.nsIn K mainGlobals "_law_document" = some (some (.ref f25))) (l25 : K.lookup f25 = some ⟨oc25, od25, .func (PySem.W.fnOf "_law_document" "_law_document" (defArgs sLdc) (defBody sLdc) (defScope sLdc) .none kV25 dc25 pm25 an25 cd25 ct25), sl25⟩) (c25 : PySem.W.codeIn K cd25 "_law_document" = true) (k25 : PySem.W.keepIn K (.ref f25) = true)
    (a26 : PySem.W.nsIn K mainGlobals "_law_fact" = some (some (.ref f26))) (l26 : K.lookup f26 = some ⟨oc26, od26, .func (PySem.W.fnOf "_law_fact" "_law_fact" (defArgs sLfc) (defBody sLfc) (defScope sLfc) .none kV26 dc26 pm26 an26 cd26 ct26), sl26⟩) (c26 : PySem.W.codeIn K cd26 "_law_fact" = true) (k26 : PySem.W.keepIn K (.ref f26) = true)
    (a27 : PySem.W.nsIn K mainGlobals "_law_facts" = some (some (.ref f27))) (l27 : K.lookup f27 = some ⟨oc27, od27, .func (PySem.W.fnOf "_law_facts" "_law_facts" (defArgs sLfs) (defBody sLfs) (defScope sLfs) .none kV27 dc27 pm27 an27 cd27 ct27), sl27⟩) (c27 : PySem.W.codeIn K cd27 "_law_facts" = true) (k27 : PySem.W.keepIn K (.ref f27) = true)
    (a28 : PySem.W.nsIn K mainGlobals "law" = some (some (.ref f28))) (l28 : K.lookup f28 = some ⟨oc28, od28, .func (PySem.W.fnOf "law" "law" (defArgs sLaw) (defBody sLaw) (defScope sLaw) .none kV28 dc28 pm28 an28 cd28 ct28), sl28⟩) (c28 : PySem.W.codeIn K cd28 "law" = true) (k28 : PySem.W.keepIn K (.ref f28) = true)
    (lc : K.lookup c = some ⟨e1, e2, .fields vs, e3⟩) (hp : vs[11]? = some (.ref P)) (nT : K.lookup P = none)
    (z0 : PySem.W.nsIn K mainGlobals "isinstance" = some none)
    (z1 : PySem.W.nsIn K mainGlobals "list" = some none)
    (z2 : PySem.W.nsIn K mainGlobals "tuple" = some none)
    (z3 : PySem.W.nsIn K mainGlobals "len" = some none)
    (z4 : PySem.W.nsIn K mainGlobals "int" = some none)
    (z5 : PySem.W.nsIn K mainGlobals "bool" = some none)
    (z6 : PySem.W.nsIn K mainGlobals "str" = some none)
    (z7 : PySem.W.nsIn K mainGlobals "all" = some none)
    (z8 : PySem.W.nsIn K mainGlobals "enumerate" = some none)
    (z9 : PySem.W.nsIn K mainGlobals "reversed" = some none)
    (z10 : PySem.W.nsIn K mainGlobals "range" = some none)
    (z11 : PySem.W.nsIn K mainGlobals "abs" = some none)
    (z12 : PySem.W.nsIn K mainGlobals "sorted" = some none)
    (z13 : PySem.W.nsIn K mainGlobals "min" = some none)
    (z14 : PySem.W.nsIn K mainGlobals "any" = some none)
    (z15 : PySem.W.nsIn K mainGlobals "zip" = some none)
    (z16 : PySem.W.nsIn K mainGlobals "repr" = some none)
    (v0 : PySem.W.nsIn K mainGlobals "LETTERS" = some (some (.str lets tL)))
    (v1 : PySem.W.nsIn K mainGlobals "LABEL_MOST" = some (some (.int 12 tM)))
    (v2 : PySem.W.nsIn K mainGlobals "TEXT_MOST" = some (some (.int 65535 tT)))
    (v3 : PySem.W.nsIn K mainGlobals "FACTS_MOST" = some (some (.int 100 t3)))
    (v4 : PySem.W.nsIn K mainGlobals "COUNT_MOST" = some (some (.int 3 t4)))
    (v5 : PySem.W.nsIn K mainGlobals "MODULO_MOST" = some (some (.int 4 t5)))
    {dd JJ : Addr} (vd : PySem.W.nsIn K mainGlobals "PARTS" = some (some (.ref dd))) (vj : PySem.W.nsIn K mainGlobals "JOINING" = some (some (.ref JJ))) (dw : He.dicW K dd = some (He.keysIn w.params parK)) (pb : parB K dd parT = true) (jb : strT K JJ ["not", "and", "or"] = true) :
    Known Pg w K mg fa := by
  have e := hfa.symm.trans (PySem.W.mg_of X G a28)
  cases e
  have T : Tx K mg := ⟨PySem.W.mg_none_of X G z0, PySem.W.mg_none_of X G z1, PySem.W.mg_none_of X G z2, PySem.W.mg_none_of X G z3, PySem.W.mg_none_of X G z4, PySem.W.mg_none_of X G z5, PySem.W.mg_none_of X G z6, PySem.W.mg_none_of X G z7, PySem.W.mg_none_of X G z8, PySem.W.mg_none_of X G z9, PySem.W.mg_none_of X G z10, PySem.W.mg_none_of X G z11, PySem.W.mg_none_of X G z12, PySem.W.mg_none_of X G z13, ⟨tL, PySem.W.mg_of X G v0⟩, ⟨tM, PySem.W.mg_of X G v1⟩, ⟨tT, PySem.W.mg_of X G v2⟩⟩
  have TT : Ty K mg := ⟨T, PySem.W.mg_none_of X G z14, PySem.W.mg_none_of X G z15, PySem.W.mg_none_of X G z16, ⟨t3, PySem.W.mg_of X G v3⟩, ⟨t4, PySem.W.mg_of X G v4⟩, ⟨t5, PySem.W.mg_of X G v5⟩⟩
  have TZ : Tz K w mg dd JJ := ⟨TT, PySem.W.mg_of X G vd, He.dicW_ok dw, par_row pb, PySem.W.mg_of X G vj, strT_ok jb⟩
  have F1 := fun_mk (st := sNum) l1 c1 k1
  have b1 := F1.binds (ps := ["value"]) fun _ _ _ _ _ _ us hl => match us, hl with | [_], _ => rfl
  have D1 : Df K mg "is_number" sNum ["value"] f1 _ := ⟨F1, PySem.W.mg_of X G a1, b1⟩
  have F2 := fun_mk (st := sNub) l2 c2 k2
  have b2 := F2.binds (ps := ["value", "bound"]) fun _ _ _ _ _ _ us hl => match us, hl with | [_, _], _ => rfl
  have D2 : Df K mg "is_number_below" sNub ["value", "bound"] f2 _ := ⟨F2, PySem.W.mg_of X G a2, b2⟩
  have F3 := fun_mk (st := sSeq) l3 c3 k3
  have b3 := F3.binds (ps := ["value"]) fun _ _ _ _ _ _ us hl => match us, hl with | [_], _ => rfl
  have D3 : Df K mg "is_sequence" sSeq ["value"] f3 _ := ⟨F3, PySem.W.mg_of X G a3, b3⟩
  have F4 := fun_mk (st := sRow) l4 c4 k4
  have b4 := F4.binds (ps := ["value", "many"]) fun _ _ _ _ _ _ us hl => match us, hl with | [_, _], _ => rfl
  have D4 : Df K mg "is_row_of" sRow ["value", "many"] f4 _ := ⟨F4, PySem.W.mg_of X G a4, b4⟩
  have F5 := fun_mk (st := sLab) l5 c5 k5
  have b5 := F5.binds (ps := ["value"]) fun _ _ _ _ _ _ us hl => match us, hl with | [_], _ => rfl
  have D5 : DfC K mg "is_label" sLab ["value"] f5 _ c := ⟨⟨oc5, od5, kV5, dc5, pm5, an5, ct5, sl5, rfl, l5, c5⟩, k5, PySem.W.mg_of X G a5, b5⟩
  have F6 := fun_mk (st := sTxt) l6 c6 k6
  have b6 := F6.binds (ps := ["value"]) fun _ _ _ _ _ _ us hl => match us, hl with | [_], _ => rfl
  have D6 : Df K mg "is_text" sTxt ["value"] f6 _ := ⟨F6, PySem.W.mg_of X G a6, b6⟩
  have F7 := fun_mk (st := sItn) l7 c7 k7
  have b7 := F7.binds (ps := ["value"]) fun _ _ _ _ _ _ us hl => match us, hl with | [_], _ => rfl
  have D7 : Df K mg "_is_text_node" sItn ["value"] f7 _ := ⟨F7, PySem.W.mg_of X G a7, b7⟩
  have F8 := fun_mk (st := sIen') l8 c8 k8
  have b8 := F8.binds (ps := ["value"]) fun _ _ _ _ _ _ us hl => match us, hl with | [_], _ => rfl
  have D8 : Df K mg "_is_element_node" sIen' ["value"] f8 _ := ⟨F8, PySem.W.mg_of X G a8, b8⟩
  have F9 := fun_mk (st := sSig) l9 c9 k9
  have b9 := F9.binds (ps := ["document"]) fun _ _ _ _ _ _ us hl => match us, hl with | [_], _ => rfl
  have D9 : Df K mg "signs_of" sSig ["document"] f9 _ := ⟨F9, PySem.W.mg_of X G a9, b9⟩
  have F10 := fun_mk (st := sPrt) l10 c10 k10
  have b10 := F10.binds (ps := ["sort", "value", "fact", "ahead"]) fun _ _ _ _ _ _ us hl => match us, hl with | [_, _, _, _], _ => rfl
  have D10 : Df K mg "_is_part" sPrt ["sort", "value", "fact", "ahead"] f10 _ := ⟨F10, PySem.W.mg_of X G a10, b10⟩
  have F11 := fun_mk (st := sFac) l11 c11 k11
  have b11 := F11.binds (ps := ["value", "ahead"]) fun _ _ _ _ _ _ us hl => match us, hl with | [_, _], _ => rfl
  have D11 : Df K mg "_is_fact" sFac ["value", "ahead"] f11 _ := ⟨F11, PySem.W.mg_of X G a11, b11⟩
  have F12 := fun_mk (st := sCkq) l12 c12 k12
  have b12 := F12.binds (ps := ["value"]) fun _ _ _ _ _ _ us hl => match us, hl with | [_], _ => rfl
  have D12 : Df K mg "check_question" sCkq ["value"] f12 _ := ⟨F12, PySem.W.mg_of X G a12, b12⟩
  have F13 := fun_mk (st := sCka) l13 c13 k13
  have b13 := F13.binds (ps := ["facts", "asked"]) fun _ _ _ _ _ _ us hl => match us, hl with | [_, _], _ => rfl
  have D13 : Df K mg "check_asked" sCka ["facts", "asked"] f13 _ := ⟨F13, PySem.W.mg_of X G a13, b13⟩
  have F14 := fun_mk (st := sLat) l14 c14 k14
  have b14 := F14.binds (ps := ["fact", "inner"]) fun _ _ _ _ _ _ us hl => match us, hl with | [_, _], _ => rfl
  have D14 : Df K mg "_is_later" sLat ["fact", "inner"] f14 _ := ⟨F14, PySem.W.mg_of X G a14, b14⟩
  have F15 := fun_mk (st := sNxt) l15 c15 k15
  have b15 := F15.binds (ps := ["fact", "inner"]) fun _ _ _ _ _ _ us hl => match us, hl with | [_, _], _ => rfl
  have D15 : Df K mg "_is_next" sNxt ["fact", "inner"] f15 _ := ⟨F15, PySem.W.mg_of X G a15, b15⟩
  have F16 := fun_mk (st := sOin) l16 c16 k16
  have b16 := F16.binds (ps := ["fact", "number", "inner"]) fun _ _ _ _ _ _ us hl => match us, hl with | [_, _, _], _ => rfl
  have D16 : Df K mg "_of_inner" sOin ["fact", "number", "inner"] f16 _ := ⟨F16, PySem.W.mg_of X G a16, b16⟩
  have F17 := fun_mk (st := sJoi) l17 c17 k17
  have b17 := F17.binds (ps := ["fact", "told"]) fun _ _ _ _ _ _ us hl => match us, hl with | [_, _], _ => rfl
  have D17 : Df K mg "of_joined" sJoi ["fact", "told"] f17 _ := ⟨F17, PySem.W.mg_of X G a17, b17⟩
  have F18 := fun_mk (st := sOfr) l18 c18 k18
  have b18 := F18.binds (ps := ["facts", "label", "texts", "inner"]) fun _ _ _ _ _ _ us hl => match us, hl with | [_, _, _, _], _ => rfl
  have D18 : Df K mg "_of_row" sOfr ["facts", "label", "texts", "inner"] f18 _ := ⟨F18, PySem.W.mg_of X G a18, b18⟩
  have F19 := fun_mk (st := sRfs) l19 c19 k19
  have b19 := F19.binds (ps := ["question", "label", "document"]) fun _ _ _ _ _ _ us hl => match us, hl with | [_, _, _], _ => rfl
  have D19 : Df K mg "row_facts" sRfs ["question", "label", "document"] f19 _ := ⟨F19, PySem.W.mg_of X G a19, b19⟩
  have F20 := fun_mk (st := sMea) l20 c20 k20
  have b20 := F20.binds (ps := ["question", "document"]) fun _ _ _ _ _ _ us hl => match us, hl with | [_, _], _ => rfl
  have D20 : Df K mg "meaning" sMea ["question", "document"] f20 _ := ⟨F20, PySem.W.mg_of X G a20, b20⟩
  have F21 := fun_mk (st := sMns) l21 c21 k21
  have b21 := F21.binds (ps := ["question", "asked", "document"]) fun _ _ _ _ _ _ us hl => match us, hl with | [_, _, _], _ => rfl
  have D21 : Df K mg "meanings" sMns ["question", "asked", "document"] f21 _ := ⟨F21, PySem.W.mg_of X G a21, b21⟩
  have F22 := fun_mk (st := sBox) l22 c22 k22
  have b22 := F22.binds (ps := ["script", "k"]) fun _ _ _ _ _ _ us hl => match us, hl with | [_, _], _ => rfl
  have D22 : Df K mg "_law_box" sBox ["script", "k"] f22 _ := ⟨F22, PySem.W.mg_of X G a22, b22⟩
  have F23 := fun_mk (st := sTak) l23 c23 k23
  have b23 := F23.binds (ps := ["box", "many"]) fun _ _ _ _ _ _ us hl => match us, hl with | [_, _], _ => rfl
  have D23 : Df K mg "_law_take" sTak ["box", "many"] f23 _ := ⟨F23, PySem.W.mg_of X G a23, b23⟩
  have F24 := fun_mk (st := sPck) l24 c24 k24
  have b24 := F24.binds (ps := ["box", "some"]) fun _ _ _ _ _ _ us hl => match us, hl with | [_, _], _ => rfl
  have D24 : Df K mg "_law_pick" sPck ["box", "some"] f24 _ := ⟨F24, PySem.W.mg_of X G a24, b24⟩
  have F25 := fun_mk (st := sLdc) l25 c25 k25
  have b25 := F25.binds (ps := ["box", "deep", "wide"]) fun _ _ _ _ _ _ us hl => match us, hl with | [_, _, _], _ => rfl
  have D25 : Df K mg "_law_document" sLdc ["box", "deep", "wide"] f25 _ := ⟨F25, PySem.W.mg_of X G a25, b25⟩
  have F26 := fun_mk (st := sLfc) l26 c26 k26
  have b26 := F26.binds (ps := ["box", "at"]) fun _ _ _ _ _ _ us hl => match us, hl with | [_, _], _ => rfl
  have D26 : Df K mg "_law_fact" sLfc ["box", "at"] f26 _ := ⟨F26, PySem.W.mg_of X G a26, b26⟩
  have F27 := fun_mk (st := sLfs) l27 c27 k27
  have b27 := F27.binds (ps := ["question", "label", "nodes"]) fun _ _ _ _ _ _ us hl => match us, hl with | [_, _, _], _ => rfl
  have D27 : Df K mg "_law_facts" sLfs ["question", "label", "nodes"] f27 _ := ⟨F27, PySem.W.mg_of X G a27, b27⟩
  have F28 := fun_mk (st := sLaw) l28 c28 k28
  have b28 := F28.binds (ps := ["script"]) fun _ _ _ _ _ _ us hl => match us, hl with | [_], _ => rfl
  refine ⟨c, P, PySem.W.fnOf "law" "law" (defArgs sLaw) (defBody sLaw) (defScope sLaw) .none kV28 dc28 pm28 an28 cd28 ct28, tab_mk a5 l5 rfl lc hp, nT, fun s u => .of_eq rfl, fun base _ _ TB => ?_⟩
  have Gitn : FnOk Pg w K mg base CX0 3 f7 _ ["value"] (spItn K P) := ok_itn F7 T D3 D4 D6
  have Giel : FnOk Pg w K mg base CX0 3 f8 _ ["value"] (spIel K P) := ok_iel F8 T TB D3 D4 D5
  have Gsig : FnOk Pg w K mg base CX0 4 f9 _ ["document"] (spSig K P) := ok_sig F9 T D3 D7 Gitn D8 Giel
  have Gprt : FnOk Pg w K mg base CX0 3 f10 _ ["sort", "value", "fact", "ahead"] (spPrt K P) := ok_prt F10 TZ TB D2 D1 D5 D6
  have Gfac : FnOk Pg w K mg base CX0 4 f11 _ ["value", "ahead"] (spFac K P) := ok_fac F11 TZ D3 D10 Gprt
  have Gckq : FnOk Pg w K mg base CX0 5 f12 _ ["value"] (spCkq K P) := ok_ckq F12 TZ D3 D11 Gfac
  have Gcka : FnOk Pg w K mg base CX0 3 f13 _ ["facts", "asked"] (spCka K P) := ok_cka F13 TZ D3 D2 D1
  have Goin : FnOk Pg w K mg base CX0 2 f16 _ ["fact", "number", "inner"] (spOin K P) := ok_oin F16 TZ D14 D15
  have Gofr : FnOk Pg w K mg base CX0 3 f18 _ ["facts", "label", "texts", "inner"] (spOfr K P) := ok_ofr F18 TZ D16 Goin D17
  have Grfs : FnOk Pg w K mg base CX0 6 f19 _ ["question", "label", "document"] (spRfs K P) := ok_rfs F19 TZ D12 Gckq D9 Gsig D18 Gofr
  have Gmea : FnOk Pg w K mg base CX0 7 f20 _ ["question", "document"] (spMea K P) := ok_mea F20 TZ D19 Grfs
  have Gmns : FnOk Pg w K mg base CX0 7 f21 _ ["question", "asked", "document"] (spMns K P) := ok_mns F21 TZ D19 Grfs D12 Gckq D13 Gcka
  have Gbox : FnOk Pg w K mg base CX0 1 f22 _ ["script", "k"] (spBox K P) := ok_box F22 T
  have Gtak : FnOk Pg w K mg base CX0 1 f23 _ ["box", "many"] (spTak) := ok_tak F23 T
  have Gpck : FnOk Pg w K mg base CX0 2 f24 _ ["box", "some"] (spPck) := ok_pck F24 T D23
  have Gldc : FnOk Pg w K mg base CX0 7 f25 _ ["box", "deep", "wide"] (spLdc K P 4) := ok_ldc F25 TZ D25 D23 D24 4
  have Glfc : FnOk Pg w K mg base CX0 3 f26 _ ["box", "at"] (spLfc K P) := ok_lfc F26 TZ D23 D24
  have Glfs : FnOk Pg w K mg base CX0 5 f27 _ ["question", "label", "nodes"] (spLfs K P 4) := ok_lfs F27 TZ D27 4
  exact ok_law F28 TZ D22 Gbox D23 Gtak D24 Gpck D25 Gldc D26 Glfc D27 Glfs D12 Gckq (kb1 F12 fun _ _ _ _ _ _ _ => rfl) D19 Grfs (kb3 F19 fun _ _ _ _ _ _ _ _ _ => rfl) D20 Gmea (kb2 F20 fun _ _ _ _ _ _ _ _ => rfl) D21 Gmns (kb3 F21 fun _ _ _ _ _ _ _ _ _ => rfl)
theorem walk {l : PySem.W.OpenLaw} {q : Program} {loose : List Str} {XP : (Str → Option Value) → Heap → Prop} {YP : World → Heap → Prop} {d : DefRec} {K : Params → PySem.W.Frag} (hn : l.most = some 63) (hdf : d.params.defaults = [])
    (hrec : ((recsOf q).find? fun e => e.name == ("is_label" : Str)).isSome = true) (hY : ∀ (w : World) (h : Heap), YP w h → (K w.params).In h)
    (F : ∀ (w : World) (mg : Str → Option Value) (fa : Addr) (h : Heap), (K w.params).In h → h.Ns mainGlobals mg → mg d.name = some (.ref fa) → Known l.prog w (K w.params) mg fa) :
    PySem.W.WalkO q loose XP YP l.row.toRowW d [] (fun f vs => PySem.call f vs) := by
  refine Att.attach_callB hn hdf fun w s₀ s₁ mg mb fa o pm cd doc a vs ns G Y ho hd hcd hmg hobj hints hlen hbits hg => ?_
  have KX := hY w _ Y
  obtain ⟨c, P, fd, ht, nT, hb, hF⟩ := F w mg fa _ KX G.T.g hmg
  obtain ⟨dr, hr⟩ := Option.isSome_iff_exists.mp hrec
  obtain ⟨Ch, hT⟩ := PySem.W.tab_of G.T KX hr ht
  exact SoG.law_end KX G.T.g G.T.b G.T.builtins G.T.nolimit hg hT nT Ch G.T.bmain hobj hints (Nat.le_trans hlen (by decide)) hF hb fun H hH hS => ⟨⟨#[], hH, by simp [TriplesOk]⟩, a, ns, rfl, hS, hlen, fun _ => rfl⟩
end K6

set_option Elab.async false
set_option linter.all false
set_option maxRecDepth 100000
open PySem PySem.W PyProof.Rows
set_option maxRecDepth 100000 in
set_option maxHeartbeats 0 in
theorem PySem.Challenge.cw_stillopen_k07_whole_what_questions_mean_holds : PySem.Challenge.rw_stillopen_k07_whole_what_questions_mean.Holds := by
  w_on; o_law; k_head; (case hw => w_witness2)
  k_fill
  refine K6.walk (l := PySem.Challenge.rw_stillopen_k07_whole_what_questions_mean) rfl rfl (by decide +kernel) (fun w h Y => PySem.W.kIn_of Y) ?F
  case F =>
    intro w mg fa h KX G hmg
    refine' K6.all_mk KX G hmg ?a1 ?l1 ?c1 ?k1 ?a2 ?l2 ?c2 ?k2 ?a3 ?l3 ?c3 ?k3 ?a4 ?l4 ?c4 ?k4 ?a5 ?l5 ?c5 ?k5 ?a6 ?l6 ?c6 ?k6 ?a7 ?l7 ?c7 ?k7 ?a8 ?l8 ?c8 ?k8 ?a9 ?l9 ?c9 ?k9 ?a10 ?l10 ?c10 ?k10 ?a11 ?l11 ?c11 ?k11 ?a12 ?l12 ?c12 ?k12 ?a13 ?l13 ?c13 ?k13 ?a14 ?l14 ?c14 ?k14 ?a15 ?l15 ?c15 ?k15 ?a16 ?l16 ?c16 ?k16 ?a17 ?l17 ?c17 ?k17 ?a18 ?l18 ?c18 ?k18 ?a19 ?l19 ?c19 ?k19 ?a20 ?l20 ?c20 ?k20 ?a21 ?l21 ?c21 ?k21 ?a22 ?l22 ?c22 ?k22 ?a23 ?l23 ?c23 ?k23 ?a24 ?l24 ?c24 ?k24 ?a25 ?l25 ?c25 ?k25 ?a26 ?l26 ?c26 ?k26 ?a27 ?l27 ?c27 ?k27 ?a28 ?l28 ?c28 ?k28 ?lc ?hp ?nT ?z0 ?z1 ?z2 ?z3 ?z4 ?z5 ?z6 ?z7 ?z8 ?z9 ?z10 ?z11 ?z12 ?z13 ?z14 ?z15 ?z16 ?v0 ?v1 ?v2 ?v3 ?v4 ?v5 ?vd ?vj ?dw ?pb ?jb
    (case a1 => k_is)
    (case l1 => k_is)
    (case c1 => k_is)
    (case k1 => k_is)
    (case a2 => k_is)
    (case l2 => k_is)
    (case c2 => k_is)
    (case k2 => k_is)
    (case a3 => k_is)
    (case l3 => k_is)
    (case c3 => k_is)
    (case k3 => k_is)
    (case a4 => k_is)
    (case l4 => k_is)
    (case c4 => k_is)
    (case k4 => k_is)
    (case a5 => k_is)
    (case l5 => k_is)
    (case c5 => k_is)
    (case k5 => k_is)
    (case a6 => k_is)
    (case l6 => k_is)
    (case c6 => k_is)
    (case k6 => k_is)
    (case a7 => k_is)
    (case l7 => k_is)
    (case c7 => k_is)
    (case k7 => k_is)
    (case a8 => k_is)
    (case l8 => k_is)
    (case c8 => k_is)
    (case k8 => k_is)
    (case a9 => k_is)
    (case l9 => k_is)
    (case c9 => k_is)
    (case k9 => k_is)
    (case a10 => k_is)
    (case l10 => k_is)
    (case c10 => k_is)
    (case k10 => k_is)
    (case a11 => k_is)
    (case l11 => k_is)
    (case c11 => k_is)
    (case k11 => k_is)
    (case a12 => k_is)
    (case l12 => k_is)
    (case c12 => k_is)
    (case k12 => k_is)
    (case a13 => k_is)
    (case l13 => k_is)
    (case c13 => k_is)
    (case k13 => k_is)
    (case a14 => k_is)
    (case l14 => k_is)
    (case c14 => k_is)
    (case k14 => k_is)
    (case a15 => k_is)
    (case l15 => k_is)
    (case c15 => k_is)
    (case k15 => k_is)
    (case a16 => k_is)
    (case l16 => k_is)
    (case c16 => k_is)
    (case k16 => k_is)
    (case a17 => k_is)
    (case l17 => k_is)
    (case c17 => k_is)
    (case k17 => k_is)
    (case a18 => k_is)
    (case l18 => k_is)
    (case c18 => k_is)
    (case k18 => k_is)
    (case a19 => k_is)
    (case l19 => k_is)
    (case c19 => k_is)
    (case k19 => k_is)
    (case a20 => k_is)
    (case l20 => k_is)
    (case c20 => k_is)
    (case k20 => k_is)
    (case a21 => k_is)
    (case l21 => k_is)
    (case c21 => k_is)
    (case k21 => k_is)
    (case a22 => k_is)
    (case l22 => k_is)
    (case c22 => k_is)
    (case k22 => k_is)
    (case a23 => k_is)
    (case l23 => k_is)
    (case c23 => k_is)
    (case k23 => k_is)
    (case a24 => k_is)
    (case l24 => k_is)
    (case c24 => k_is)
    (case k24 => k_is)
    (case a25 => k_is)
    (case l25 => k_is)
    (case c25 => k_is)
    (case k25 => k_is)
    (case a26 => k_is)
    (case l26 => k_is)
    (case c26 => k_is)
    (case k26 => k_is)
    (case a27 => k_is)
    (case l27 => k_is)
    (case c27 => k_is)
    (case k27 => k_is)
    (case a28 => k_is)
    (case l28 => k_is)
    (case c28 => k_is)
    (case k28 => k_is)
    (case lc => k_is)
    (case hp => rfl)
    (case nT => first | rfl | kernel_rfl)
    (case z0 => k_is)
    (case z1 => k_is)
    (case z2 => k_is)
    (case z3 => k_is)
    (case z4 => k_is)
    (case z5 => k_is)
    (case z6 => k_is)
    (case z7 => k_is)
    (case z8 => k_is)
    (case z9 => k_is)
    (case z10 => k_is)
    (case z11 => k_is)
    (case z12 => k_is)
    (case z13 => k_is)
    (case z14 => k_is)
    (case z15 => k_is)
    (case z16 => k_is)
    (case v0 => k_is)
    (case v1 => k_is)
    (case v2 => k_is)
    (case v3 => k_is)
    (case v4 => k_is)
    (case v5 => k_is)
    (case vd => k_is)
    (case vj => k_is)
    (case dw => first | rfl | kernel_rfl)
    (case pb => first | rfl | kernel_rfl)
    (case jb => first | rfl | kernel_rfl)

